import PyProof.Rows.All
import Wide.All
import OpenK.AllK
import Wide.FinOn
import PyProof.EqAt
import PyProof.EqKinds
import PyProof.TupleCall
import PyProof.DictWalks
import KE.KSortTup
import KE.KTryMore
import PyProof.NsDelKeeps
import PyProof.ReprStr
import PyProof.StrLawsRepr
import PyProof.Rows.FStr
import PyProof.ListMulRoad
import PyProof.FactsAll.tuple_2
import KE.KPairComp
import PyProof.AttrMissHeap
import PyProof.FactsAll.zip_1
import KE.KDictOf
import KE.KMinBuiltin
import PyProof.Rows.CallKwBuiltin
import KE.KEqDict
import PySem.Challenge.RW_stairsay_k21_runs
set_option Elab.async false
set_option linter.all false
set_option maxRecDepth 100000
set_option maxHeartbeats 4000000
set_option bootstrap.genMatcherCode false
set_option genSizeOf false
set_option compiler.extract_closed false
namespace Lake
end Lake
open Lake
section
set_option hygiene false in
local macro_rules|`(tactic|cases $e:ident)=>`(tactic|first|subst $e|(injection $e;done)|(injection $e with q1 q2 q3;cases q1;cases q2;cases q3)|(injection $e with q1 q2;cases q1;cases q2)|(injection $e with q1;cases q1))
nonrec theorem zR(_:0=0:=by rfl)(_:0=0:=by decide):0=0:=rfl
local macro_rules(kind:=Lean.Parser.Command.declaration)|s=>do
 if s.getPos?.isNone||!s[0][1].isNone||!s[0][6].isNone then Lean.Macro.throwUnsupported
 let s:=s.rewriteBottomUp λx=>
  let y:=x[3][0]
  let z:=y[2][0][0][0]
  let f n:=(x.setArg 2 (x[2].setArg 1 (Lean.Syntax.mkApp (Lean.mkIdent `autoParam) #[⟨x[2][1]⟩,Lean.mkIdent n]))).setArg 3 .missing
  (if !y.isOfKind ``Lean.Parser.Term.binderTactic then x else if z.isOfKind ``Lean.Parser.Tactic.tacticRfl then f `zR._auto_1 else if z.isOfKind ``Lean.Parser.Tactic.decide then f `zR._auto_2 else x).setInfo .none
 let z x:=s.setArg 0 (s[0].setArg 4 (.node .none `null x))
 if s[1].isOfKind ``Lean.Parser.Command.definition||s[1].isOfKind ``Lean.Parser.Command.abbrev then return z #[.node .none ``Lean.Parser.Command.noncomputable #[.atom .none "noncomputable"]]
 if s[0][4].isNone then return s
 `(command|set_option tactic.hygienic true in $(⟨z #[]⟩):command)
open PySem.W (Frag instObj lookIn plainGet hasDictIn findIn handedIn plainGet_of isFn plainOver takerIn makesIn emptyDict keepIn specialIn takesIn mroIn kitOne kia_one kitx_list kitx_dict methodCall_KW callWith_K fnOf codeIn kdl_dict nsIn excIn exmOne clsIn OpenLaw WalkO WalkX mg_of)
open PyProof.Rows (callWith_type1 isub_int slot_tuple_getitem len_tuple boot_min boot_sum boot_all boot_list boot_tuple boot_int boot_isinstance boot_dict envOfC boot_any boot_max boot_str)
open PySem.F (slot_tuple_add entry_tuple_add args_tuple_add_2 plainAttrs_list slot_list_pop type_list_pop)
abbrev nM:=@PySem.wpAny_bind
abbrev nO:=@List.getElem?_eq_getElem
abbrev nQ:=@List.map_cons
abbrev nR:=@PySem.Heap.get?_push_of_some
abbrev nU:=@List.map_append
abbrev nV:=@List.size_toArray
abbrev nW:=@PySem.wpAny_pure
abbrev nX:=@List.length_map
abbrev nY:=@Option.map_eq_some_iff
abbrev nZ:=@List.mem_cons_of_mem
abbrev n4:=@List.mem_cons_self
abbrev n5:=@PySem.Heap.get?_push_size
abbrev n6:=@List.getElem?_eq_some_iff
abbrev n8:=@List.length_cons
abbrev n9:=@Nat.le_refl
abbrev oa:=@PySem.Heap.lt_size
abbrev oh:=@List.mem_cons
abbrev oi:=@List.length_append
abbrev oj:=@of_decide_eq_true
abbrev om:=@List.map_map
abbrev oo:=@List.mem_map
abbrev oq:=@Nat.lt_of_lt_of_le
abbrev ot:=@Option.bind_eq_some_iff
abbrev ou:=@List.getElem?_map
abbrev oy:=@Bool.and_eq_true
abbrev oz:=@Bool.false_ne_true
abbrev oA:=@Nat.ne_of_lt
abbrev oB:=@Nat.le_trans
abbrev oE:=@List.mem_singleton
abbrev oF:=@decide_eq_false
abbrev oG:=@List.dropLast_concat_getLast
abbrev oH:=@Option.bind_some
abbrev oI:=@List.length_singleton
abbrev oJ:=@PySem.Heap.get?_update_other
abbrev oK:=@List.nodup_cons
abbrev oM:=@List.mem_append
abbrev oN:=@List.append_nil
abbrev oO:=@decide_eq_true
abbrev oP:=@List.mem_append_right
abbrev oQ:=@List.getElem?_eq_none
abbrev oR:=@List.lookup_cons
abbrev oS:=@List.nodup_nil
abbrev oU:=@List.nodup_append
abbrev oV:=@List.append_assoc
abbrev oW:=@PySem.wpAny_field
abbrev oX:=@List.length_take
abbrev oY:=@List.append_of_mem
abbrev oZ:=@Int.emod_lt_of_pos
abbrev o5:=@PySem.Heap.size_push
abbrev o7:=@List.mem_append_left
abbrev o8:=@List.length_range
abbrev o9:=@List.length_pos_iff
abbrev pd:=@Int.emod_nonneg
abbrev pe:=@PySem.Heap.get?_update_self
abbrev pf:=@Nat.zero_le
abbrev ph:=@List.not_mem_nil
abbrev pj:=@List.all_eq_true
abbrev pq:=@Nat.lt_irrefl
abbrev pw:=@List.mem_range
abbrev px:=@List.take_sublist
abbrev pA:=@Option.map_some
abbrev pB:=@List.filterMap_cons
abbrev pC:=@Bool.eq_iff_iff
abbrev pE:=@Nat.lt_trans
abbrev pF:=@List.map_nil
abbrev pG:=@List.getElem?_take
abbrev pH:=@List.take_succ_eq_append_getElem
abbrev pI:=@List.mem_of_mem_take
abbrev pJ:=@List.mem_of_getElem?
abbrev pK:=@Option.isSome_iff_exists
abbrev pL:=@List.mem_filter
abbrev pM:=@Bool.or_eq_true
abbrev pN:=@List.exists_cons_of_length_pos
abbrev pO:=@List.getElem?_range
abbrev pP:=@Array.length_toList
abbrev pQ:=@List.take_length
abbrev pR:=@List.flatMap_cons
abbrev pS:=@Array.getElem?_eq_some_iff
abbrev pT:=@Nat.mul_le_mul_right
abbrev pU:=@List.dropLast_concat
abbrev pV:=@List.drop_eq_getElem_cons
abbrev pW:=@List.map_flatMap
abbrev pX:=@List.length_drop
abbrev pY:=@List.getElem_mem
abbrev pZ:=@List.getElem_of_mem
abbrev qa:=@List.flatMap_append
abbrev qb:=@Int.toNat_of_nonneg
abbrev qd:=@Nat.min_eq_left
abbrev qf:=@List.nil_append
abbrev qg:=@List.findIdx?_eq_some_iff_getElem
abbrev qh:=@List.any_cons
abbrev qi:=@List.getElem?_set_self
abbrev qj:=@List.getElem?_set
abbrev qk:=@List.take_append_drop
abbrev ql:=@List.eq_nil_of_length_eq_zero
abbrev qm:=@List.cons_append
abbrev qo:=@List.mem_iff_getElem
abbrev qp:=@List.getLast?_concat
abbrev qr:=@List.getElem?_set_ne
abbrev qt:=@List.of_mem_zip
abbrev qu:=@Nat.ne_of_gt
abbrev qv:=@List.mem_filterMap
abbrev qw:=@List.getElem?_append_left
abbrev qz:=@List.take_add_one
abbrev qA:=@List.any_eq_false
abbrev qB:=@Int.toNat_natCast
abbrev qC:=@List.getElem?_cons_zero
abbrev qD:=@List.all_cons
abbrev qE:=@Nat.lt_succ_self
abbrev qF:=@List.mem_flatMap
abbrev qG:=@List.getElem_map
abbrev qH:=@List.filter_cons
abbrev qI:=@List.any_eq_true
abbrev Fg:=Frag
namespace Lake.L2
open PySem PySem.Spec PyProof.Rows
abbrev _root_.Zsc(E e es):=starEach (e::es) E=(false,eval e E)::starEach es E
abbrev _root_.Zbt(E p es):=(backTo p (starEach es E)).any (·.1)=false
abbrev _root_.Zdb(x:Str):Prop:=(x==("__debug__":Str))=false
abbrev _root_.Zab(E o n):=attributeBase o n E (eval o E)=eval o E
abbrev _root_.Zs1(E a):=starEach [a] E=[(false,eval a E)]
abbrev _root_.Zs2(E a b):=starEach [a,b] E=[(false,eval a E),(false,eval b E)]
abbrev _root_.Zfs(E i):=∀x,foldedSetIterable i E x=pure x
abbrev _root_.Zcv:=Value->Shared->Prop
abbrev _root_.Zsv:=Str->Option Value
abbrev _root_.Zao:=List (Addr×Obj)
abbrev Key:=Sum Int Str
def GO:Key->Value->Bool
 |.inl k,v=>Value.isInt k v
 |.inr x,v=>Value.isStrOf x v
def keyH(w:World):Key->Int
 |.inl k=>hashInt k
 |.inr x=>hashStr w x
theorem AV:∀{k:Key}{v:Value},GO k v=true->(∃i t,k=Sum.inl i/\v=Value.int i t)\/(∃x t,k=Sum.inr x/\v=Value.str x t)
 |.inl i,v,h=>by obtain⟨t,e⟩:=Value.isInt_shape h;exact .inl ⟨i,t,rfl,e⟩
 |.inr x,v,h=>by obtain⟨t,e⟩:=Value.isStrOf_shape h;exact .inr ⟨x,t,rfl,e⟩
theorem OJ(i:Int)(t:Tok):GO (.inl i) (.int i t)=true:=by simp[GO,Value.isInt]
theorem OH(x:Str)(t:Tok):GO (.inr x) (.str x t)=true:=by simp[GO,Value.isStrOf]
theorem JaC(a b:Int):decide ((Sum.inl a:Key)=Sum.inl b)=(a==b):=by
 by_cases e:a=b
 .subst e;simp
 .have h:¬(Sum.inl a:Key)=Sum.inl b:=λq=>e (Sum.inl.inj q)
  rw[oF h];exact(beq_eq_false_iff_ne.mpr e).symm
theorem Jaz(a b:Str):decide ((Sum.inr a:Key)=Sum.inr b)=decide (a=b):=by
 by_cases e:a=b
 .subst e;simp
 .have h:¬(Sum.inr a:Key)=Sum.inr b:=λq=>e (Sum.inr.inj q)
  rw[oF h,oF e]
theorem JaB(a:Int)(b:Str):decide ((Sum.inl a:Key)=Sum.inr b)=false:=oF (λq=>nomatch q)
theorem JaA(a:Str)(b:Int):decide ((Sum.inr a:Key)=Sum.inl b)=false:=oF (λq=>nomatch q)
def A4(prog:Program)(w:World):PySem.KeyKind prog w Key where
 is:=GO
 hash:=keyH w
 inj:=λv a b ha hb=>by
  rcases AV ha with⟨i,t,rfl,rfl⟩|⟨x,t,rfl,rfl⟩
  .rcases AV hb with⟨j,u,rfl,e⟩|⟨y,u,rfl,e⟩
   .injection e with e1 _;rw[e1]
   .exact nomatch e
  .rcases AV hb with⟨j,u,rfl,e⟩|⟨y,u,rfl,e⟩
   .exact nomatch e
   .injection e with e1 _;rw[e1]
 byValue:=λk v h=>by rcases AV h with⟨i,t,rfl,rfl⟩|⟨x,t,rfl,rfl⟩<;>rfl
 pyHash:=λhv h=>by
  rcases AV hv with⟨i,t,rfl,rfl⟩|⟨x,t,rfl,rfl⟩
  .exact wpAny_pyHash_int h
  .exact wpAny_pyHash_str h
 eqBool:=λhu hv h=>by
  rcases AV hu with⟨i,t,rfl,rfl⟩|⟨x,t,rfl,rfl⟩
  .rcases AV hv with⟨j,u,rfl,rfl⟩|⟨y,u,rfl,rfl⟩
   .rw[JaC]at h;exact wpAny_eqBool_int h
   .rw[JaB]at h;exact SeqAt.EqAt.int_str i t y u _ _ _ _ h
  .rcases AV hv with⟨j,u,rfl,rfl⟩|⟨y,u,rfl,rfl⟩
   .rw[JaA]at h;exact SeqAt.EqAt.str_int x t j u _ _ _ _ h
   .rw[Jaz]at h;exact wpAny_eqBool_str h
 «strs»:=λk x t v h=>by
  rcases AV h with⟨i,u,rfl,e⟩|⟨y,u,rfl,e⟩
  .exact nomatch e
  .injection e with e1 _
   subst e1;cases v<;>rfl
theorem Kv(prog:Program)(w:World)(i:Int)(t:Tok):(A4 prog w).is (.inl i) (.int i t)=true:=OJ i t
theorem Ku(prog:Program)(w:World)(x:Str)(t:Tok):(A4 prog w).is (.inr x) (.str x t)=true:=OH x t
inductive V where
 |l|v (b:Bool)|int (i:Int)|str (x:Str)|zA (b:Array UInt8)|yP (b:UInt64)|ref (a:Addr)|ty (n:String)
 deriving DecidableEq
def RelV:V->Value->Prop
 |.l,u=>u=Value.none
 |.v b,u=>u=Value.bool b
 |.int i,u=>∃t,u=Value.int i t
 |.str x,u=>∃t,u=Value.str x t
 |.zA b,u=>∃t,u=Value.bytes b t
 |.yP b,u=>∃t,u=Value.float b t
 |.ref a,u=>u=Value.ref a
 |.ty n,u=>u=Value.type n
abbrev Vals:List V->List Value->Prop:=Paired RelV
theorem Vals.length(r:Vals xs us):xs.length=us.length:=Paired.length r
theorem Vals.get:∀{xs:List V}{us:List Value}{i:Nat}{x:V},Vals xs us->xs[i]?=some x->∃u,us[i]?=some u/\RelV x u
 |_,_,_,_,.nil,e=>by simp at e
 |_,_,0,_,.cons r _,e=>by simp at e;subst e;exact⟨_,rfl,r⟩
 |_,_,i+1,x,.cons _ t,e=>by obtain⟨u,h1,h2⟩:=Vals.get t (by simpa using e);exact⟨u,by simpa using h1,h2⟩
theorem Vals.set(r:RelV x u):∀{xs:List V}{us:List Value}(i:Nat),Vals xs us->Vals (xs.set i x) (us.set i u)
 |_,_,_,.nil=>.nil
 |_,_,0,.cons _ t=>.cons r t
 |_,_,i+1,.cons q t=>.cons q (Vals.set r i t)
theorem Vals.append:∀{xs ys:List V}{us ws:List Value},Vals xs us->Vals ys ws->Vals (xs++ys) (us++ws)
 |_,_,_,_,.nil,s=>s
 |_,_,_,_,.cons r t,s=>.cons r (Vals.append t s)
theorem Vals.take:∀{xs:List V}{us:List Value}(n:Nat),Vals xs us->Vals (xs.take n) (us.take n)
 |_,_,0,_=>.nil
 |_,_,_+1,.nil=>.nil
 |_,_,n+1,.cons r t=>.cons r (Vals.take n t)
theorem Vals.drop:∀{xs:List V}{us:List Value}(n:Nat),Vals xs us->Vals (xs.drop n) (us.drop n)
 |_,_,0,r=>r
 |_,_,_+1,.nil=>.nil
 |_,_,n+1,.cons _ t=>Vals.drop n t
def A6:Option V->Option Value->Prop
 |some v,some u=>RelV v u
 |none,none=>True
 |_,_=>False
def KV{κ:Type}:List (κ×V)->List (κ×Value)->Prop:=Paired λ(p:κ×V)(q:κ×Value)=>p.1=q.1/\RelV p.2 q.2
def kV:Key->V
 |.inl i=>.int i
 |.inr x=>.str x
inductive HO where
 |lst (xs:List V)
 |tup (xs:List V)
 |n (af:List (Key×V))|dT (af:List (List Key×V))
 |set (S:Int->Bool) (n:Nat)
 |ins (C dx:Addr) (fs:List (Str×V))
 |own (x:Addr)
 |xd (fs:List (Str×V))
 |met (f x:Addr)
 |yC (lo hi:Int)
 |frz (o:Obj) (u:HO)
 |yS (ps:Array Value)
 |ext (φ:Heap->Prop)
abbrev Hp:=Addr->Option HO
def upd(H:Hp)(a:Addr)(o:HO):Hp:=λb=>if b=a then some o else H b
theorem An:upd H a o a=some o:=by unfold upd;rw[if_pos rfl]
theorem Al(h:b≠a):upd H a o b=H b:=by unfold upd;rw[if_neg h]
theorem J7{H:Hp}{a:Addr}{o u:HO}:upd (upd H a o) a u=upd H a u:=by funext b;unfold upd;split<;>rfl
theorem ne_of{H:Hp}(h:H a=some o)(h':H b=some u)(d:o≠u):a≠b:=by intro e;subst e;rw[h]at h';exact d (Option.some.inj h')
theorem AA{H:Hp}(h:H a=some o)(h':H b=none):a≠b:=by intro e;subst e;rw[h]at h';cases h'
def PlT(h:Heap)(a:Addr)(items:Array Value):Prop:=∃o,h.get? a=some o/\o.cls=.type "tuple"/\∃n,o.data=.seq items n/\o.dict=none
theorem PlT.tup{h:Heap}{a:Addr}{items:Array Value}(x:PlT h a items):IsTup h a items:=let⟨o,e,c,n,d,_⟩:=x;⟨o,e,c,n,d⟩
theorem PlT.lt{h:Heap}{a:Addr}{items:Array Value}(x:PlT h a items):a<h.objs.size:=x.tup.lt
theorem PlT.new(h:Heap)(items:Array Value):PlT (h.push {cls:=.type "tuple",data:=.seq items}) h.objs.size items:=⟨_,n5 _ rfl,rfl,_,rfl,rfl⟩
section
variable(P:Program)(w:World)
def A0(H:Hp)(h:Heap)(a:Addr):HO->Prop
 |.lst xs=>xs.length<=sizeLine/\∃(its:List Value)(n:Nat),Vals xs its/\h.get? a=some {cls:=.type "list",data:=.seq its.toArray n}
 |.tup xs=>xs.length<=sizeLine/\∃its:List Value,Vals xs its/\PlT h a its.toArray
 |.n af=>af.length<=sizeLine/\(a==sysModules)=false/\∃vs,KV af vs/\h.DictOf (A4 P w) a vs
 |.dT af=>af.length<=sizeLine/\(a==sysModules)=false/\∃xs:List (List Key×Addr×Value),
   Paired (λ(p:List Key×V)(q:List Key×Addr×Value)=>p.1=q.1/\H q.2.1=some (.tup (p.1.map kV))/\RelV p.2 q.2.2) af xs /\
   ∃o es ep,h.get? a=some o/\o.ExactDict/\o.data=.dict es ep/\es.toList=xs.map (entryOfKey (tupleKind (A4 P w)))/\(xs.map (·.1)).Nodup
 |.set S n=>h.SetOf (intKind P w) a S n
 |.ins C dx fs=>H dx=some (.own a)/\fs.length<=1000/\dx≠a/\h.get? a=some (instObj C dx) /\
   ∃mA,h.Ns1 dx mA/\(∀f,A6 (fs.lookup f) (mA f))/\PySem.Within mA (fs.map (·.1))
 |.own _=>∃o,h.get? a=some o
 |.xd fs=>∃mA,h.Ns1 a mA/\∀f,A6 (fs.lookup f) (mA f)
 |.yC lo hi=>∃t u v,h.get? a=some {cls:=.type "range",data:=.fields #[.int lo t,.int hi u,.int 1 v]}
 |.frz o u=>h.get? a=some o/\A0 H h a u
 |.yS ps=>h.get? a=some {cls:=.none,data:=.fields ps}
 |.met f x=>h.get? a=some (PySem.W.methodObj (.ref f) (.ref x))
 |.ext φ=>φ h/\(∃o,h.get? a=some o)/\∀h1 h2:Heap,φ h1->(∀o,h1.get? a=some o->h2.get? a=some o)->φ h2
def HOk(H:Hp)(h:Heap):Prop:=∀a o,H a=some o->A0 P w H h a o
end
theorem A0.lt(x:A0 P w H h a o):a<h.objs.size:=by cases o with|lst xs=>obtain⟨_,_,_,_,e⟩:=x;exact oa e|tup xs=>obtain⟨_,_,_,p⟩:=x;exact p.lt|n af=>obtain⟨_,_,_,_,o,_,_,e,_⟩:=x;exact oa e|dT af=>obtain⟨_,_,_,_,o,_,_,e,_⟩:=x;exact oa e|set S n=>obtain⟨o,_,_,_,e,_⟩:=x;exact oa e|ins C dx fs=>obtain⟨_,_,_,e,_⟩:=x;exact oa e|own y=>obtain⟨_,e⟩:=x;exact oa e|xd fs=>obtain⟨_,⟨_,_,_,e,_⟩,_⟩:=x;exact oa e|yC lo hi=>obtain⟨_,_,_,e⟩:=x;exact oa e|frz ob u=>obtain⟨e,_⟩:=x;exact oa e|yS ps=>exact oa (show h.get? a=some _ from x)|met f y=>exact oa (show h.get? a=some _ from x)|ext φ=>obtain⟨_,⟨_,e⟩,_⟩:=x;exact oa e
theorem Paired.mapP:∀{l₁:List α}{l₂:List β},Paired F l₁ l₂->(∀a b,F a b->G a b)->Paired G l₁ l₂
 |_,_,.nil,_=>.nil
 |_,_,.cons r t,f=>.cons (f _ _ r) (Paired.mapP t f)
theorem A0.Qm(x:A0 P w H h a o)(k:∀b u,(b=a\/H b=some (.own a))->h.get? b=some u->h'.get? b=some u)
  (ho:∀b,H b=some (.own a)->H' b=some (.own a)) (ht:∀b xs,H b=some (.tup xs)->H' b=some (.tup xs)):A0 P w H' h' a o:=by
 induction o with|lst xs=>obtain⟨z,its,n,r,e⟩:=x;exact⟨z,its,n,r,k _ _ (.inl rfl) e⟩|tup xs=>obtain⟨z,its,r,ob,e,c⟩:=x;exact⟨z,its,r,ob,k _ _ (.inl rfl) e,c⟩|n af=>obtain⟨z,y,vs,r,ob,es,ep,e,c⟩:=x;exact⟨z,y,vs,r,ob,es,ep,k _ _ (.inl rfl) e,c⟩|dT af =>obtain⟨z,y,xs,r,ob,es,ep,e,c⟩:=x;exact⟨z,y,xs,Paired.mapP r λp q z=>⟨z.1,ht _ _ z.2.1,z.2.2⟩,ob,es,ep,k _ _ (.inl rfl) e,c⟩|set S n=>obtain⟨ob,es,ep,t,e,c⟩:=x;exact⟨ob,es,ep,t,k _ _ (.inl rfl) e,c⟩|ins C dx fs =>obtain⟨d,z,ne,e,mA,⟨od,es,ep,e2,c⟩,r⟩:=x;exact⟨ho _ d,z,ne,k _ _ (.inl rfl) e,mA,⟨od,es,ep,k _ _ (.inr d) e2,c⟩,r⟩|own y=>obtain⟨ob,e⟩:=x;exact⟨ob,k _ _ (.inl rfl) e⟩|xd fs=>obtain⟨mA,⟨od,es,ep,e,c⟩,r⟩:=x;exact⟨mA,⟨od,es,ep,k _ _ (.inl rfl) e,c⟩,r⟩|yC lo hi=>obtain⟨t,u,v,e⟩:=x;exact⟨t,u,v,k _ _ (.inl rfl) e⟩|frz ob u ih=>obtain⟨e,q⟩:=x;exact⟨k _ _ (.inl rfl) e,ih q⟩|yS ps =>have e:=x;exact k a _ (.inl rfl) e|met f y =>have e:=x;exact k a _ (.inl rfl) e|ext φ=>obtain⟨p,⟨o,e⟩,st⟩:=x;exact⟨st _ _ p λo q=>k _ _ (.inl rfl) q,⟨o,k _ _ (.inl rfl) e⟩,st⟩
theorem HOk.lt(x:HOk P w H h)(e:H a=some o):a<h.objs.size:=(x a o e).lt
theorem HOk.fresh(x:HOk P w H h)(e:h.objs.size<=a):H a=none:=by cases q:H a with|none=>rfl|some u=>exact absurd (oq (x.lt q) e) (pq _)
theorem HOk.kept(x:HOk P w H h)(k:∀b u,h.get? b=some u->h'.get? b=some u):HOk P w H h':=λa o e =>(x a o e).Qm (λb u _ q=>k b u q) (λ_ q=>q) λ_ _ q=>q
theorem HOk.laid(x:HOk P w H h)(k:∀b u,h.get? b=some u->h'.get? b=some u)(hp:h.objs.size<=a)(new:A0 P w (upd H a o) h' a o):HOk P w (upd H a o) h':=λb u e=>by
 have hn:=x.fresh hp;by_cases hb:b=a
 .subst hb;rw[An]at e;cases e;exact new
 .rw[Al hb]at e;exact(x b u e).Qm (λc v _ q=>k c v q) (λc q=>by rwa[Al (AA q hn)]) λc xs q=>by rwa[Al (AA q hn)]
def Rd(H:Hp)(a:Addr)(u:HO):Prop:=H a=some u\/∃o,H a=some (.frz o u)
theorem Rd.ok(r:Rd H a u)(x:HOk P w H h):A0 P w H h a u:=by
 rcases r with r|⟨o,r⟩
 .exact x a u r
 .obtain⟨_,q⟩:=x a _ r;exact q
def Mut:Option HO->Prop
 |some (.lst _)=>True
 |some (.n _)=>True
 |some (.dT _)=>True
 |some (.set _ _)=>True
 |some (.ins _ _ _)=>True
 |some (.ext _)=>True
 |_=>False
theorem HOk.write(ok:HOk P w H h)(mu:Mut (H x))(he:e=x\/H e=some (.own x))(k:∀b u,b≠e->h.get? b=some u->h'.get? b=some u)(fw:∃u,h'.get? e=some u)
  (new:A0 P w (upd H x o') h' x o'):HOk P w (upd H x o') h':=λb u q=>by
 have gu:∀c y,H c=some (.own y)->c≠x:=λc y r z=>by subst z;rwa[r]at mu
 have iS:∀c xs,H c=some (.tup xs)->c≠x:=λc xs r z=>by subst z;rwa[r]at mu
 by_cases hb:b=x
 .subst hb;rw[An]at q;cases q;exact new
 .rw[Al hb]at q;by_cases cQ:b=e
  .have q':H b=some (.own x):=by
    rcases he with z|z
    .exact absurd (cQ.trans z) hb
    .rwa[cQ]
   rw[q]at q';cases q';obtain⟨v,hv⟩:=fw;exact⟨v,by rwa[cQ]⟩
  .refine(ok b u q).Qm (λc v hc r=>k c v ?_ r) (λc r=>by rwa[Al (gu c b r)]) λc xs r=>by rwa[Al (iS c xs r)]
   rcases hc with rfl|hc
   .exact cQ
   .rintro rfl
    rcases he with z|z
    .exact gu c b hc z
    .rw[hc]at z;cases z;exact hb rfl
structure Un(fs ex:List Addr)(H H':Hp)(h h':Heap):Prop where
 keep:∀b o,h.get? b=some o->H b=none->b∉fs->b∉ex->h'.get? b=some o
 slot:∀b o,h.get? b=some o->H b=none->b∈fs->b∉ex->∃sl,h'.get? b=some {o with slots:=sl}
 free:∀b o,h.get? b=some o->H b=none->b∉ex->H' b=none
 there:∀b o,h.get? b=some o->b∉ex->∃o',h'.get? b=some o'
 zH:∀b xs,H b=some (.tup xs)->H' b=some (.tup xs)
 zQ:∀b o u,H b=some (.frz o u)->H' b=some (.frz o u)
 zI:∀b ps,H b=some (.yS ps)->∃more,H' b=some (.yS (ps++more))
theorem Un.any(u:Un fs ex H H1 h h1){b:Addr}{ob:Obj}(q:h.get? b=some ob)(n:H b=none)(hx:b∉ex):∃sl,h1.get? b=some {ob with slots:=sl}:=by
 by_cases hb:b∈fs
 .exact u.slot b ob q n hb hx
 .exact⟨ob.slots,u.keep b ob q n hb hx⟩
theorem Un.kept(k:∀b u,h.get? b=some u->h'.get? b=some u):Un fs ex H H h h' :=
 ⟨λb ob q _ _ _=>k b ob q,λb ob q _ _ _=>⟨ob.slots,k b ob q⟩,λ_ _ _ n _=>n,λb ob q _=>⟨ob,k b ob q⟩,λ_ _ q=>q,λ_ _ _ q=>q,λ_ ps q=>⟨#[],by rw[q];simp⟩⟩
theorem Un.refl:Un fs ex H H h h:=Un.kept λ_ _ q=>q
theorem Un.laid(k:∀b u,h.get? b=some u->h'.get? b=some u)(hp:h.objs.size<=a)(hn:H a=none):Un fs ex H (upd H a o) h h' where
 keep:=λb u q _ _ _=>k b u q
 slot:=λb u q _ _ _=>⟨u.slots,k b u q⟩
 free:=λb u q n _=>by rwa[Al (oA (oq (oa q) hp))]
 there:=λb u q _=>⟨u,k b u q⟩
 zH:=λb xs q=>by rwa[Al (AA q hn)]
 zQ:=λb u xs q=>by rwa[Al (AA q hn)]
 zI:=λb ps q=>⟨#[],by rw[Al (AA q hn),q];simp⟩
theorem Un.write(mu:Mut (H x))(he:e=x\/H e=some (.own x))(k:∀b u,b≠e->h.get? b=some u->h'.get? b=some u)(fw:∃u,h'.get? e=some u):Un fs ex H (upd H x o) h h':=by
 have hx:∀b,H b=none->b≠x:=λb n z=>by subst z;rwa[n]at mu
 have hb:∀b,H b=none->b≠e:=λb n z=>by
  subst z;rcases he with r|r
  .exact hx b n r
  .rw[n]at r;cases r
 have hm:∀b u,H b=some u->¬Mut (some u)->b≠x:=λb u q nm z=>by subst z;rw[q]at mu;exact nm mu
 refine⟨λb u q n _ _=>k b u (hb b n) q,λb u q n _ _=>⟨u.slots,k b u (hb b n) q⟩,λb u q n _=>by rw[Al (hx b n)];exact n,λb u q _=>?_,
  λb xs q=>by rw[Al (hm b _ q λz=>z)];exact q,λb u xs q=>by rw[Al (hm b _ q λz=>z)];exact q,λb ps q=>⟨#[],by rw[Al (hm b _ q λz=>z),q];simp⟩⟩
 by_cases cQ:b=e
 .subst cQ;exact fw
 .exact⟨u,k b u cQ q⟩
def trk(h:Heap)(H:Hp):List Addr:=(List.range h.objs.size).filter λa=>(H a).isSome
def RK(h:Heap)(H:Hp):Heap:=PySem.W.hideAll h (trk h H)
theorem OX(h:Heap)(H:Hp):(RK h H).objs.size=h.objs.size:=PySem.W.hideAll_size _ _
theorem RI(e:h.get? b=some o)(n:H b=none):(RK h H).get? b=some o :=
 PySem.W.hideAll_get _ e λhm=>by have q:=(pL.mp hm).2;rw[n]at q;simp at q
theorem Wg(e:(RK h H).get? b=some o):h.get? b=some o/\H b=none:=by have e':=PySem.W.of_hideAll (trk h H) e;refine⟨e',?_⟩;cases q:H b with|none=>rfl|some x =>have hm:b∈trk h H:=pL.mpr ⟨pw.mpr (oa e'),by simp[q]⟩;have z:(RK h H).get? b=none:=PySem.W.hideAll_none (trk h H) hm;rw[z]at e;cases e
structure Mod(K:Fg)(mg:Zsv)(base:Heap):Prop where
 yT:K.In base
 glob:base.Ns mainGlobals mg
 blt:∃mb,base.Ns builtinsNs mb/\∀x:Str,x≠"__name__"->mb x=bootBuiltins x
 nolimit:base.NoLimit
structure Cx where
 prog:Program
 w:World
 K:Fg
 mg:Str->Option Value
 base:Heap
 A:Around
 N:List Str
 zW:Shared
 y0:Hp
 env:Env
 outer:List Env
 stack:List Env
 ex:List Addr
 fn:Str->Bool
 calm:Bool
 pn:List (Addr×Obj)
 xe:Value->Shared->Prop
def frs(l:List Env):List Addr:=l.filterMap (·.frame)
abbrev Cx.fs(X:Cx):List Addr:=frs X.outer
def Vis(sc:Scope)(x:Str):Prop:=sc.names.lookup x=some .local\/sc.names.lookup x=some .cell\/sc.names.lookup x=some .free
def Loc(sc:Scope)(x:Str):Prop:=sc.names.lookup x=some .local\/sc.names.lookup x=some .cell
def Look(env:Env)(h:Heap)(m:Zsv)(x:Str)(u:Value):Prop :=
 (env.kindOf x=some .local/\m x=some u)\/((env.kindOf x=some .cell\/env.kindOf x=some .free)/\∃c,env.cells.lookup x=some c/\h.IsCell c (some u))
structure Cx.Ok(X:Cx):Prop where
 mod:Mod X.K X.mg X.base
 kind:X.env.scope.kind=.function
 glob:X.env.globals=mainGlobals
 blt:X.env.builtins=builtinsNs
 above:X.zW.heap.objs.size<=X.env.locals
 inj:∀x y c,X.env.cells.lookup x=some c->X.env.cells.lookup y=some c->x=y
 has:∀x,(X.env.kindOf x=some .cell\/X.env.kindOf x=some .free)->∃c,X.env.cells.lookup x=some c
 yQ:∀x c,X.fn x=true->X.env.cells.lookup x=some c->X.zW.heap.objs.size<=c
 hd:X.calm=true->X.A.handled=none
 frames:X.A.frames=some X.stack
 yJ:X.stack=X.outer\/(X.stack=X.env::X.outer/\X.env.frame=some X.env.locals)
 yH:∀b∈X.ex,b≠X.env.locals/\∀x c,X.env.cells.lookup x=some c->c≠b
 bs:∀b o,X.base.get? b=some o->X.zW.heap.get? b=some o/\X.y0 b=none
 zi:X.base.objs.size<=X.zW.heap.objs.size
 zd:∀b o,X.base.get? b=some o->b∉X.ex
 zh:∀b∈X.ex,b∉X.fs
 LP:X.zW.heap.FunFrames X.base X.outer
 yW:∀b∈X.fs,X.y0 b=none
structure Inv(X:Cx)(aa:Zao)(U:List (Option V))(H:Hp)(s:Shared):Prop where
 ok:X.Ok
 os:s.os=X.zW.os
 bare:AllBare s.gens
 base:Un X.fs X.ex X.y0 H X.zW.heap s.heap
 loc:∃m,s.heap.Ns X.env.locals m/\∀(i:Nat)(x:Str)(v:V),X.N[i]?=some x->U[i]?=some (some v)->Vis X.env.scope x->∃u,RelV v u/\Look X.env s.heap m x u
 cell:∀x c,X.env.cells.lookup x=some c->∃v,s.heap.IsCell c v
 free:H X.env.locals=none
 zV:∀x c,X.env.cells.lookup x=some c->H c=none
 pin:∀p∈X.pn++aa,s.heap.get? p.1=some p.2/\H p.1=none/\p.1≠X.env.locals/\p.1∉X.fs/\∀v,p.2.data≠.cell v
 z9:HOk X.prog X.w H s.heap
 len:U.length=X.N.length
variable{X:Cx}{aa:Zao}{U:List (Option V)}{H:Hp}{s:Shared}
theorem Cx.Ok.nofr(ok:X.Ok)(e:X.base.get? b=some o):b∉X.fs:=λhb=>by have:=(ok.LP.mem hb).1;rw[e]at this;cases this
theorem Inv.bs(I:Inv X aa U H s):∀b o,X.base.get? b=some o->s.heap.get? b=some o/\H b=none:=λb o e =>⟨I.base.keep b o (I.ok.bs b o e).1 (I.ok.bs b o e).2 (I.ok.nofr e) (I.ok.zd b o e),I.base.free b o (I.ok.bs b o e).1 (I.ok.bs b o e).2 (I.ok.zd b o e)⟩
theorem Inv.bk(I:Inv X aa U H s):∀b o,X.base.get? b=some o->s.heap.get? b=some o:=λb o e=>(I.bs b o e).1
theorem Inv.mod(I:Inv X aa U H s):Mod X.K X.mg X.base:=I.ok.mod
theorem Inv.kIn(I:Inv X aa U H s):X.K.In s.heap:=I.ok.mod.yT.keeps I.bk
theorem Inv.lt(I:Inv X aa U H s):X.env.locals<s.heap.objs.size:=let⟨_,hn,_⟩:=I.loc;hn.lt
theorem Inv.sz(I:Inv X aa U H s):X.zW.heap.objs.size<=s.heap.objs.size:=oB I.ok.above (Nat.le_of_lt I.lt)
theorem Inv.nofs(I:Inv X aa U H s)(h:s.heap.objs.size<=a):a∉X.fs:=λhb=>by obtain⟨_,o,ho,_⟩:=I.ok.LP.mem hb;exact absurd (oq (oa ho) (oB I.sz h)) (pq _)
theorem Inv.cne(I:Inv X aa U H s):∀x c,X.env.cells.lookup x=some c->c≠X.env.locals:=λx c e z=>by obtain⟨v,o,ho,hd⟩:=I.cell x c e;obtain⟨m,⟨o',es,ep,bz,ba,_⟩,_⟩:=I.loc;rw[z,bz]at ho;cases ho;rw[ba]at hd;cases hd
theorem Inv.LP(I:Inv X aa U H s):s.heap.FunFrames X.base X.outer:=by
 have all:∀(l:List Env),(∀b∈frs l,b∈X.fs)->X.zW.heap.FunFrames X.base l->s.heap.FunFrames X.base l:=by
  intro l
  induction l with
  |nil=>intro _ _;trivial
  |cons env r ih =>
   intro hs hl;obtain⟨hk,⟨L,o,hf,hn,ho,hd⟩,hr⟩:=hl;have hL:=hs L (by unfold frs;rw[pB,hf];exact n4);obtain⟨sl,e⟩:=I.base.slot L o ho (I.ok.yW L hL) hL λz=>I.ok.zh L z hL
   exact⟨hk,⟨L,_,hf,hn,e,hd⟩,ih (λb hb=>hs b (by unfold frs;rw[pB,hf];exact nZ _ hb)) hr⟩
 exact all X.outer (λ_ hb=>hb) I.ok.LP
theorem Inv.stack(I:Inv X aa U H s):s.heap.FunFrames X.base X.stack:=by
 rcases I.ok.yJ with e|⟨e,hf⟩
 .rw[e];exact I.LP
 .rw[e];obtain⟨m,hn,_⟩:=I.loc;refine .cons (by rw[I.ok.kind];decide) hf hn ?_ I.LP;exact Heap.get?_none_of_le (oB I.ok.zi I.ok.above)
theorem Inv.IQ(I:Inv X aa U H s):∀b∈frs X.stack,b∈X.env.locals::X.fs:=λb hb=>by
 rcases I.ok.yJ with e|⟨e,hf⟩
 .rw[e]at hb;exact nZ _ hb
 .rw[e]at hb;unfold frs at hb;rwa[pB,hf]at hb
theorem Inv.Kg(I:Inv X aa U H s):∀b∈frs X.stack,H b=none:=λb hb=>by
 rcases oh.mp (I.IQ b hb)with e|hb
 .rw[e];exact I.free
 .obtain⟨_,o,ho,_⟩:=I.ok.LP.mem hb;exact I.base.free b o ho (I.ok.yW b hb) λz=>I.ok.zh b z hb
theorem Inv.step{ch:List Addr}(I:Inv X aa U H s)
  (cu:∀b∈ch,(b∈X.ex\/X.zW.heap.objs.size<=b)/\b≠X.env.locals/\(∀x c,X.env.cells.lookup x=some c->c≠b)/\∀p∈X.pn++aa,p.1≠b)
  (keep:∀b o,b≠X.env.locals->b∉X.fs->b∉ch->s.heap.get? b=some o->H b=none->h'.get? b=some o)
  (slot:∀b o,b≠X.env.locals->b∈X.fs->b∉ch->s.heap.get? b=some o->H b=none->∃sl,h'.get? b=some {o with slots:=sl}) (free:∀b o,b∉ch->s.heap.get? b=some o->H b=none->H' b=none)
  (there:∀b o,b∉ch->s.heap.get? b=some o->∃o',h'.get? b=some o')
  (zH:∀b xs,H b=some (.tup xs)->H' b=some (.tup xs)) (zQ:∀b o u,H b=some (.frz o u)->H' b=some (.frz o u)) (zI:∀b ps,H b=some (.yS ps)->∃more,H' b=some (.yS (ps++more)))
  (ns:∀m,s.heap.Ns X.env.locals m->h'.Ns X.env.locals m) (z9:HOk X.prog X.w H' h') (hg:AllBare g') :
  Inv X aa U H' {s with heap:=h',gens:=g',drawn:=d',toks:=t' }:=by
 have fE:∀b o,X.zW.heap.get? b=some o->b≠X.env.locals:=λb o e=>oA (oq (oa e) I.ok.above)
 have gO:∀b o,X.zW.heap.get? b=some o->b∉X.ex->b∉ch:=λb o e hx hb=>by
  rcases(cu b hb).1 with z|z
  .exact hx z
  .exact absurd (oq (oa e) z) (pq _)
 have bL:∀x c,X.env.cells.lookup x=some c->∀v,s.heap.IsCell c v->h'.IsCell c v:=λx c e v ⟨o,ho,hd⟩=>by
  have gn:=λz=>(cu c z).2.2.1 x c e rfl
  by_cases hc:c∈X.fs
  .obtain⟨sl,q⟩:=slot c o (I.cne x c e) hc gn ho (I.zV x c e);exact⟨_,q,hd⟩
  .exact⟨o,keep c o (I.cne x c e) hc gn ho (I.zV x c e),hd⟩
 refine⟨I.ok,I.os,hg,⟨λb o e n hb hx=>?_,λb o e n hb hx=>?_,λb o e n hx=>?_,λb o e hx=>?_,λb xs e=>zH b xs (I.base.zH b xs e),λb o xs e=>zQ b o xs (I.base.zQ b o xs e),λb ps e=>?_⟩,?_,λx c e=>?_,?_,λx c e=>?_,λp hp=>?_,z9,I.len⟩
 .exact keep b o (fE b o e) hb (gO b o e hx) (I.base.keep b o e n hb hx) (I.base.free b o e n hx)
 .obtain⟨sl,e1⟩:=I.base.slot b o e n hb hx;obtain⟨iY,e2⟩:=slot b _ (fE b o e) hb (gO b o e hx) e1 (I.base.free b o e n hx);exact⟨iY,e2⟩
 .obtain⟨o',e1⟩:=I.base.there b o e hx;exact free b o' (gO b o e hx) e1 (I.base.free b o e n hx)
 .obtain⟨o',e1⟩:=I.base.there b o e hx;exact there b o' (gO b o e hx) e1
 .obtain⟨m1,e1⟩:=I.base.zI b ps e;obtain⟨m2,e2⟩:=zI b _ e1;exact⟨m1++m2,by rw[e2,Array.append_assoc]⟩
 .obtain⟨m,hn,hl⟩:=I.loc;refine⟨m,ns m hn,λi x v e1 e2 e3=>?_⟩;obtain⟨u,r,l⟩:=hl i x v e1 e2 e3;refine⟨u,r,?_⟩;rcases l with l|⟨k,c,e,z⟩
  .exact .inl l
  .exact .inr ⟨k,c,e,bL x c e _ z⟩
 .obtain⟨v,z⟩:=I.cell x c e;exact⟨v,bL x c e v z⟩
 .obtain⟨m,⟨o,_,_,ho,_⟩,_⟩:=I.loc;exact free _ o (λz=>(cu _ z).2.1 rfl) ho I.free
 .obtain⟨v,o,ho,hd⟩:=I.cell x c e;exact free c o (λz=>(cu c z).2.2.1 x c e rfl) ho (I.zV x c e)
 .obtain⟨e,n,ne,nf,d⟩:=I.pin p hp;have gn:=λz=>(cu p.1 z).2.2.2 p hp rfl
  exact⟨keep p.1 p.2 ne nf gn e n,free p.1 p.2 gn e n,ne,nf,d⟩
theorem Inv.un(I:Inv X aa U H s)(u:Un X.fs [] H H' s.heap h')(z9:HOk X.prog X.w H' h'):Inv X aa U H' {s with heap:=h',toks:=t' }:=by obtain⟨m,⟨o,es,ep,ho,r⟩,_⟩:=id I.loc;obtain⟨sl,hL⟩:=u.any ho I.free (by simp);exact I.step (ch:=[]) (λ_ z=>nomatch z) (λb o _ hb _ e n=>u.keep b o e n hb (by simp)) (λb o _ hb _ e n=>u.slot b o e n hb (by simp)) (λb o _ e n=>u.free b o e n (by simp)) (λb o _ e=>u.there b o e (by simp)) u.zH u.zQ u.zI (λm' hm=>by obtain⟨o',bp,g8,bz,r'⟩:=hm;rw[ho]at bz;cases bz;exact⟨_,bp,g8,hL,r'⟩) z9 I.bare
theorem Inv.call(I:Inv X aa U H s)(u:Un (frs X.stack) ch H H' s.heap h')(z9:HOk X.prog X.w H' h')(hg:AllBare g')
  (cu:∀b∈ch,(b∈X.ex\/X.zW.heap.objs.size<=b)/\b≠X.env.locals/\(∀x c,X.env.cells.lookup x=some c->c≠b)/\∀p∈X.pn++aa,p.1≠b) :
  Inv X aa U H' {s with heap:=h',gens:=g',drawn:=d',toks:=t' }:=by
 obtain⟨m,⟨o,es,ep,ho,r⟩,_⟩:=id I.loc;obtain⟨sl,hL⟩:=u.any ho I.free λz=>(cu _ z).2.1 rfl
 exact I.step cu (λb o hL hb hc e n=>u.keep b o e n (λz=>(oh.mp (I.IQ b z)).elim hL hb) hc) (λb o _ _ hc e n=>u.any e n hc) (λb o hc e n=>u.free b o e n hc) (λb o hc e=>u.there b o e hc) u.zH u.zQ u.zI (λm' hm=>by obtain⟨o',bp,g8,bz,r'⟩:=hm;rw[ho]at bz;cases bz;exact⟨_,bp,g8,hL,r'⟩) z9 hg
theorem Inv.turned(I:Inv X aa U H s)(k:∀b o,b≠it->s.heap.get? b=some o->h'.get? b=some o)(hn:H it=none)(hL:it≠X.env.locals)
  (h1:it∈X.ex\/X.zW.heap.objs.size<=it) (h2:∀x c,X.env.cells.lookup x=some c->c≠it) (h3:∀p∈X.pn++aa,p.1≠it):Inv X aa U H {s with heap:=h',toks:=t' }:=by
 have gp:∀b u,H b=some u->b≠it:=λb u e z=>by rw[z,hn]at e;cases e
 refine I.step (ch:=[it]) (λb hb=>?_) (λb o _ _ hc e _=>k b o (λz=>hc (by simp[z])) e) (λb o _ _ hc e _=>⟨o.slots,k b o (λz=>hc (by simp[z])) e⟩) (λ_ _ _ _ n=>n)
  (λb o hc e=>⟨o,k b o (λz=>hc (by simp[z])) e⟩) (λ_ _ e=>e) (λ_ _ _ e=>e) (λb ps e=>⟨#[],by rw[e];simp⟩) (λm hm=>?_) (λb u e=>?_) I.bare
 .have e:=by simpa using hb
  subst e;exact⟨h1,hL,h2,h3⟩
 .obtain⟨o,es,ep,ho,r⟩:=hm;exact⟨o,es,ep,k _ o (Ne.symm hL) ho,r⟩
 .refine(I.z9 b u e).Qm (λc v hc q=>k c v ?_ q) (λ_ q=>q) λ_ _ q=>q
  rcases hc with z|z
  .rw[z];exact gp b u e
  .exact gp c _ z
theorem Inv.tok(I:Inv X aa U H s)(t:Nat):Inv X aa U H {s with toks:=t}:=I.un Un.refl I.z9
theorem Inv.kept(I:Inv X aa U H s)(k:∀b u,s.heap.get? b=some u->h'.get? b=some u):Inv X aa U H {s with heap:=h',toks:=t' }:=I.un (Un.kept k) (I.z9.kept k)
theorem Inv.laid(I:Inv X aa U H s)(k:∀b u,s.heap.get? b=some u->h'.get? b=some u)(hp:s.heap.objs.size<=a)(new:A0 X.prog X.w (upd H a o) h' a o):
  Inv X aa U (upd H a o) {s with heap:=h',toks:=t' }:=I.un (Un.laid k hp (I.z9.fresh hp)) (I.z9.laid k hp new)
theorem Inv.write(I:Inv X aa U H s)(mu:Mut (H x))(he:e=x\/H e=some (.own x))(k:∀b u,b≠e->s.heap.get? b=some u->h'.get? b=some u)(fw:∃u,h'.get? e=some u)
  (new:A0 X.prog X.w (upd H x o) h' x o):Inv X aa U (upd H x o) {s with heap:=h',toks:=t' }:=I.un (Un.write mu he k fw) (I.z9.write mu he k fw new)
theorem Inv.HG(I:Inv X aa U H s)(h:∀p∈pins',s.heap.get? p.1=some p.2/\H p.1=none/\p.1≠X.env.locals/\p.1∉X.fs/\∀v,p.2.data≠.cell v):Inv X pins' U H s :=
 ⟨I.ok,I.os,I.bare,I.base,I.loc,I.cell,I.free,I.zV,λp hp=>(oM.mp hp).elim (λz=>I.pin p (o7 _ z)) (h p),I.z9,I.len⟩
theorem HJ{N:List Str}(hN:N.Nodup){i j:Nat}(a:N[i]?=some x)(b:N[j]?=some x):i=j:=by obtain⟨h1,e1⟩:=n6.mp a;obtain⟨h2,e2⟩:=n6.mp b;exact(List.getElem_inj hN).mp (e1.trans e2.symm)
theorem IP(I:Inv X aa U H s)(hN:X.N.Nodup)(hi:X.N[i]?=some x)(hx:Loc X.env.scope x)(r:RelV v u)
  (h:∀s',Inv X aa (U.set i (some v)) H s'->(∃a,Heap.SameBut a s.heap s'.heap/\(a=X.env.locals\/X.env.cells.lookup x=some a))->Q () s') (hf:X.fn x=true\/X.env.scope.names.lookup x=some .local:=by first|exact .inl rfl|exact .inr rfl|assumption):wpAny M A (storeName X.env x u) Q E s:=by
 obtain⟨m,hn,hl⟩:=id I.loc;have bt:(X.env.scope.kind==.class||(X.env.scope.kind==.module&&X.env.locals !=X.env.globals))=false:=by rw[I.ok.kind];rfl
 have cV:i<U.length:=by rw[I.len];exact(n6.mp hi).1
 have cne:=I.cne;have cj:∀{a:Addr}{h':Heap},(∃o,s.heap.get? a=some o/\H a=none)->Heap.SameBut a s.heap h'->HOk X.prog X.w H h':=λ{a h'} ha hs b ob e=>by
  obtain⟨_,_,dZ⟩:=ha;refine(I.z9 b ob e).Qm (λc w' hc q=>(hs.2 c ?_).trans q) (λ_ q=>q) λ_ _ q=>q
  rintro rfl
  rcases hc with rfl|hc
  .rw[dZ]at e;cases e
  .rw[dZ]at hc;cases hc
 rcases hx with hk|hk
 .refine wpAny_storeName_local hk hn (λh' iE hs=>?_) bt;obtain⟨oL,_,_,lq,_⟩:=id hn;refine h _ ⟨I.ok,I.os,I.bare,⟨λb o e n hb hx=>?_,λb o e n hb hx=>?_,I.base.free,λb o e hx=>?_,I.base.zH,I.base.zQ,I.base.zI⟩,⟨_,iE,λj y v' e1 e2 e3=>?_⟩,λy c e=>?_,I.free,I.zV,λp hp=>?_,cj ⟨oL,lq,I.free⟩ hs,by simpa using I.len⟩ ⟨_,hs,.inl rfl⟩
  .exact(hs.2 b (oA (oq (oa e) I.ok.above))).trans (I.base.keep b o e n hb hx)
  .obtain⟨sl,e1⟩:=I.base.slot b o e n hb hx;exact⟨sl,(hs.2 b (oA (oq (oa e) I.ok.above))).trans e1⟩
  .obtain⟨o',e1⟩:=I.base.there b o e hx;exact⟨o',(hs.2 b (oA (oq (oa e) I.ok.above))).trans e1⟩
  .by_cases hj:j=i
   .subst hj;rw[hi]at e1;cases e1;rw[qi cV]at e2;cases e2;exact⟨u,r,.inl ⟨hk,by simp⟩⟩
   .rw[qr (Ne.symm hj)]at e2;obtain⟨u',r',q⟩:=hl j y v' e1 e2 e3;refine⟨u',r',?_⟩;rcases q with⟨k,e⟩|⟨k,c,e,z⟩
    .refine .inl ⟨k,?_⟩;have:y≠x:=λe=>hj (HJ hN e1 (e▸hi))
     simp[this,e]
    .exact .inr ⟨k,c,e,z.sameBut hs (cne y c e)⟩
  .obtain⟨w',z⟩:=I.cell y c e;exact⟨w',z.sameBut hs (cne y c e)⟩
  .obtain⟨e,n,ne,nf,d⟩:=I.pin p hp;exact⟨(hs.2 p.1 ne).trans e,n,ne,nf,d⟩
 .have iw:X.fn x=true:=by
   rcases hf with z|z
   .exact z
   .rw[z]at hk;cases hk
  obtain⟨c,hc⟩:=I.ok.has x (.inl hk);obtain⟨w',z⟩:=I.cell x c hc;refine wpAny_storeName_cell I.ok.kind hk hc z (λh' gH hs=>?_);obtain⟨oc,gL,lr⟩:=id z;refine h {s with heap:=h' } ⟨I.ok,I.os,I.bare,⟨λb o e n hb hx=>?_,λb o e n hb hx=>?_,I.base.free,λb o e hx=>?_,I.base.zH,I.base.zQ,I.base.zI⟩,⟨m,hn.sameBut hs (Ne.symm (cne x c hc)),λj y v' e1 e2 e3=>?_⟩,λy c' e=>?_,I.free,I.zV,λp hp=>?_,cj ⟨oc,gL,I.zV x c hc⟩ hs,by simpa using I.len⟩ ⟨c,hs,.inr hc⟩
  .exact(hs.2 b (oA (oq (oa e) (I.ok.yQ x c iw hc)))).trans (I.base.keep b o e n hb hx)
  .obtain⟨sl,e1⟩:=I.base.slot b o e n hb hx;exact⟨sl,(hs.2 b (oA (oq (oa e) (I.ok.yQ x c iw hc)))).trans e1⟩
  .obtain⟨o',e1⟩:=I.base.there b o e hx;exact⟨o',(hs.2 b (oA (oq (oa e) (I.ok.yQ x c iw hc)))).trans e1⟩
  .by_cases hj:j=i
   .subst hj;rw[hi]at e1;cases e1;rw[qi cV]at e2;cases e2;exact⟨u,r,.inr ⟨.inl hk,c,hc,gH⟩⟩
   .rw[qr (Ne.symm hj)]at e2;obtain⟨u',r',q⟩:=hl j y v' e1 e2 e3;refine⟨u',r',?_⟩;rcases q with q|⟨k,c',e,z'⟩
    .exact .inl q
    .refine .inr ⟨k,c',e,z'.sameBut hs ?_⟩
     rintro rfl
     exact hj (HJ hN e1 (I.ok.inj _ _ _ e hc▸hi))
  .by_cases hcc:c'=c
   .subst hcc;exact⟨_,gH⟩
   .obtain⟨w2,z2⟩:=I.cell y c' e;exact⟨w2,z2.sameBut hs hcc⟩
  .obtain⟨e,n,ne,nf,d⟩:=I.pin p hp;refine⟨(hs.2 p.1 ?_).trans e,n,ne,nf,d⟩;intro q;rw[q,gL]at e;have q':=Option.some.inj e;exact d w' (by rwa[<- q'])
theorem Fb(I:Inv X aa U H s)(hN:X.N.Nodup)(hi:X.N[i]?=some x)(hx:Loc X.env.scope x)(r:RelV v u)
  (h:∀s',Inv X aa (U.set i (some v)) H s'->Q () s') (hf:X.fn x=true\/X.env.scope.names.lookup x=some .local:=by first|exact .inl rfl|exact .inr rfl|assumption):wpAny M A (storeName X.env x u) Q E s :=
 IP I hN hi hx r (λs' I' _=>h s' I') hf
theorem Inv.Jcd(I:Inv X aa U H s)(ho:s'.os=s.os)(u:Un (frs X.stack) ch H H' s.heap s'.heap)(z9:HOk X.prog X.w H' s'.heap)(hg:AllBare s'.gens)
  (cu:∀b∈ch,(b∈X.ex\/X.zW.heap.objs.size<=b)/\b≠X.env.locals/\(∀x c,X.env.cells.lookup x=some c->c≠b)/\∀p∈X.pn++aa,p.1≠b):Inv X aa U H' s':=by
 obtain⟨h',g',d',t',o'⟩:=s';have e:=ho;subst e;exact I.call u z9 hg cu
abbrev XK:=Value->Option Addr->Hp->Prop
abbrev St:=List (Option V)
abbrev VK:=V->Hp->Prop
abbrev TE:=St->Hp->VK->Prop
abbrev TT:=St->Hp->(Bool->Hp->Prop)->Prop
abbrev TA:=St->Hp->(List V->Hp->Prop)->Prop
structure Ends where
 nx:St->Hp->Prop
 rt:VK
 bk:St->Hp->Prop:=λ_ _=>False
 ct:St->Hp->Prop:=λ_ _=>False
abbrev TS:=Ends->St->Hp->Prop
inductive EP(X:Cx)(aa:Zao)(U:St)(Q:VK)(u:Value)(s':Shared):Prop
 |mk (v:V) (H':Hp) (h0:Inv X aa U H' s') (h1:RelV v u) (h2:Q v H')
def TP(X:Cx)(aa:Zao)(U:St)(Q:Bool->Hp->Prop)(b:Bool)(s':Shared):Prop:=∃H',Inv X aa U H' s'/\Q b H'
inductive AP(X:Cx)(aa:Zao)(U:St)(Q:List V->Hp->Prop)(us:List Value)(s':Shared):Prop
 |mk (vs:List V) (H':Hp) (h0:Inv X aa U H' s') (h1:Vals vs us) (h2:Q vs H')
inductive NP(X:Cx)(aa:Zao)(Q:St->Hp->Prop)(s':Shared):Prop
 |mk (ax:St) (H':Hp) (h0:Inv X aa ax H' s') (h1:Q ax H')
inductive RtP(X:Cx)(aa:Zao)(Q:VK)(u:Value)(s':Shared):Prop
 |mk (v:V) (ax:St) (H':Hp) (h0:Inv X aa ax H' s') (h1:RelV v u) (h2:Q v H')
inductive HP(X:Cx)(aa:Zao)(U:St)(Q:Hp->Prop)(s':Shared):Prop
 |mk (H':Hp) (h0:Inv X aa U H' s') (h1:Q H')
def SP(X:Cx)(aa:Zao)(D:Ends)(f:Flow)(s':Shared):Prop :=
 match f with|.next=>NP X aa D.nx s'|.brk=>NP X aa D.bk s'|.cont=>NP X aa D.ct s'|.ret u=>RtP X aa D.rt u s'
def PE(X:Cx)(e:Expr)(t:TE):Prop :=
 ∀(aa:Zao)(s:Shared)(U:St)(H:Hp)(Q:VK),Inv X aa U H s->t U H Q->wpAny (model X.prog X.w) X.A (eval e X.env) (EP X aa U Q) X.xe s
def PT(X:Cx)(e:Expr)(t:TT):Prop :=
 ∀(aa:Zao)(s:Shared)(U:St)(H:Hp)(Q:Bool->Hp->Prop),Inv X aa U H s->t U H Q->wpAny (model X.prog X.w) X.A (isTrue e X.env (eval e X.env)) (TP X aa U Q) X.xe s
def PW(X:Cx)(e:Expr)(t:TT):Prop :=
 ∀(aO:Sem Value)(aa:Zao)(s:Shared)(U:St)(H:Hp)(Q:Bool->Hp->Prop),Inv X aa U H s->t U H Q->wpAny (model X.prog X.w) X.A (isTrue e X.env aO) (TP X aa U Q) X.xe s
theorem PW.pt(h:PW X e t):PT X e t:=h _
def PA(X:Cx)(es:List Expr)(t:TA):Prop :=
 ∀(pos:Pos)(aa:Zao)(s:Shared)(U:St)(H:Hp)(Q:List V->Hp->Prop),Inv X aa U H s->t U H Q->wpAny (model X.prog X.w) X.A (spliced (backTo pos (starEach es X.env))) (AP X aa U Q) X.xe s
def PS(X:Cx)(st:Stmt)(t:TS):Prop :=
 ∀(aa:Zao)(s:Shared)(U:St)(H:Hp)(D:Ends),Inv X aa U H s->t D U H->wpAny (model X.prog X.w) X.A (exec st X.env) (SP X aa D) X.xe s
def PSs(X:Cx)(st:List Stmt)(t:TS):Prop :=
 ∀(aa:Zao)(s:Shared)(U:St)(H:Hp)(D:Ends),Inv X aa U H s->t D U H->wpAny (model X.prog X.w) X.A (execs st X.env) (SP X aa D) X.xe s
theorem thn(h:wpAny M A t Q E s)(hQ:∀a s,Q a s->Q' a s):wpAny M A t Q' E s:=wpAny_mono h hQ λ_ _ x=>x
inductive Kb(i:Nat)(U:St)(H:Hp)(Q:VK):Prop
 |mk (v:_) (h0:U[i]?=some (some v)) (h1:Q v H)
def tC(v:V):TE:=λ_ H Q=>Q v H
theorem ZU(hN:X.N[i]?=some x)(hv:Vis X.env.scope x)(hd:Zdb x:=by decide)(cq:(x==("__classdict__":Str))=false:=by decide):PE X (.Name x pos) (Kb i):=by
 intro aa s U H Q I h;obtain⟨v,e,h⟩:=h;obtain⟨m,hn,hl⟩:=I.loc;obtain⟨u,r,l⟩:=hl i x v hN e hv;have aN:EP X aa U Q u s:=⟨v,H,I,r,h⟩
 rcases l with⟨hk,hm⟩|⟨hk,c,hc,hcell⟩
 .exact wpAny_Name (wpAny_loadName_local I.ok.kind hk hn hm aN) hd
 .rcases hk with hk|hk
  .exact wpAny_Name (wpAny_loadName_cell I.ok.kind hk hc hcell aN) hd
  .exact wpAny_Name (wpAny_loadName_free I.ok.kind hk hc hcell aN cq) hd
theorem Lq:PE X (.Constant (.int i) j pos) (tC (.int i)):=λ_ _ _ H _ I h=>wpAny_Constant_int ⟨.int i,H,I.tok _,⟨_,rfl⟩,h⟩
theorem pe_bl:PE X (.Constant (.bool b) j pos) (tC (.v b)):=λ_ _ _ H _ I h=>Constant_bool ⟨.v b,H,I,rfl,h⟩
theorem ZY:PE X (.Constant .none j pos) (tC .l):=λ_ _ _ H _ I h=>Constant_none ⟨.l,H,I,rfl,h⟩
theorem ZW:PE X (.Constant (.str x) j pos) (tC (.str x)):=λ_ _ _ H _ I h=>Calls.Constant_str ⟨.str x,H,I.tok _,⟨_,rfl⟩,h⟩
def Gl(X:Cx)(x:Str):Prop:=X.env.kindOf x=some .globalImplicit
theorem EA(I:Inv X aa U H s)(hg:Gl X x)(hm:X.mg x=some u)(h:Q u s)
  (hd:Zdb x:=by decide):wpAny (model X.prog X.w) X.A (eval (.Name x pos) X.env) Q E s :=
 Calls.Name_function_global I.ok.kind hg (Calls.loadGlobal_global (by rw[I.ok.glob];exact I.mod.glob.keeps I.bk) hm h) hd
theorem Dh(I:Inv X aa U H s)(hg:Gl X x)(hm:X.mg x=none)(hv:bootBuiltins x=some u)(h:Q u s)
  (hn:x≠"__name__":=by decide) (hd:Zdb x:=by decide):wpAny (model X.prog X.w) X.A (eval (.Name x pos) X.env) Q E s:=by
 obtain⟨mb,h1,h2⟩:=I.mod.blt;exact Calls.Name_function_global I.ok.kind hg (Calls.loadGlobal_builtin (by rw[I.ok.glob];exact I.mod.glob.keeps I.bk) hm (by rw[I.ok.blt];exact h1.keeps I.bk) ((h2 x hn).trans hv) h) hd
theorem N5(hg:Gl X x)(hm:X.mg x=some u)(r:RelV v u)(hd:Zdb x:=by decide):PE X (.Name x pos) (tC v) :=
 λ_ _ _ H _ I h=>EA I hg hm ⟨v,H,I,r,h⟩ hd
theorem N8(hg:Gl X x)(hm:X.mg x=none)(hv:bootBuiltins x=some u)(r:RelV v u)(hn:x≠"__name__":=by decide)(hd:Zdb x:=by decide):PE X (.Name x pos) (tC v) :=
 λ_ _ _ H _ I h=>Dh I hg hm hv ⟨v,H,I,r,h⟩ hn hd
def tAnd(t u:TT):TT:=λU H Q=>t U H λc H1=>if c=true then u U H1 Q else Q false H1
def tOr(t u:TT):TT:=λU H Q=>t U H λc H1=>if c=true then Q true H1 else u U H1 Q
def tNot(t:TT):TT:=λU H Q=>t U H λc H1=>Q (!c) H1
theorem VE(ha:PT X a tA):PW X (.BoolOp .And [a] pos) tA:=by intro wh aa s U H Q I h;refine isTrue_and (thn (ha aa s U H Q I h) λc s1 e=>?_);cases c with|true=>exact isTrue_and_nil e|false=>exact e
theorem ZH(ha:PT X a tA):PW X (.BoolOp .Or [a] pos) tA:=by intro wh aa s U H Q I h;refine isTrue_or (thn (ha aa s U H Q I h) λc s1 e=>?_);cases c with|false=>exact isTrue_or_nil e|true=>exact e
theorem ZI(ha:PT X a tA)(hb:PW X (.BoolOp .And (b::rest) pos) tB'):PW X (.BoolOp .And (a::b::rest) pos) (tAnd tA tB'):=by intro wh aa s U H Q I h;refine isTrue_and (thn (ha aa s U H _ I h) λc s1 aj=>?_);obtain⟨H1,I1,q1⟩:= aj;cases c with|true=>exact hb wh aa s1 U H1 Q I1 q1|false=>exact⟨H1,I1,q1⟩
theorem pw_or(ha:PT X a tA)(hb:PW X (.BoolOp .Or (b::rest) pos) tB'):PW X (.BoolOp .Or (a::b::rest) pos) (tOr tA tB'):=by intro wh aa s U H Q I h;refine isTrue_or (thn (ha aa s U H _ I h) λc s1 aj=>?_);obtain⟨H1,I1,q1⟩:= aj;cases c with|true=>exact⟨H1,I1,q1⟩|false=>exact hb wh aa s1 U H1 Q I1 q1
theorem ZJ(ha:PT X a tA):PT X (.UnaryOp .Not a pos) (tNot tA):=by intro aa s U H Q I h;exact isTrue_not (ha aa s U H (λc H1=>Q (!c) H1) I h)
def tAndV(ta tb:TE):TE:=λU H Q=>ta U H λx H1=>∃c,x=.v c/\if c=true then tb U H1 Q else Q (.v false) H1
theorem ZX(h:PE X a t):PE X (.BoolOp op [a] pos) t:=λaa s U H Q I hw=>BoolOp_one (h aa s U H Q I hw)
theorem Z3(ha:PE X a ta)(hb:PE X (.BoolOp .And (b::rest) pos) tb):PE X (.BoolOp .And (a::b::rest) pos) (tAndV ta tb):=by intro aa s U H Q I h;refine BoolOp_and (thn (ha aa s U H _ I h) λv s1 aj=>?_);obtain⟨x,H1,I1,r1,q1⟩:= aj;obtain⟨c,rfl,q1⟩:=q1;cases r1;refine wpAny_truthy_bool ?_;cases c with|true=>exact hb aa s1 U H1 Q I1 q1|false=>exact⟨.v false,H1,I1,rfl,q1⟩
def SqL(K:Fg)(H:Hp)(a:Addr)(xs:List V):Prop :=
 Rd H a (.lst xs)\/
  ∃(o:Obj)(its:Array Value)(n:Nat),K.lookup a=some o/\o.cls=.type "list"/\o.dict=none/\o.data=.seq its n/\its.size<=sizeLine/\Vals xs its.toList
def SqT(K:Fg)(H:Hp)(a:Addr)(xs:List V):Prop :=
 Rd H a (.tup xs)\/
  ∃(o:Obj)(its:Array Value)(n:Nat),K.lookup a=some o/\o.cls=.type "tuple"/\o.data=.seq its n/\its.size<=sizeLine/\Vals xs its.toList
def absV:Value->Option V
 |.none=>some .l
 |.bool b=>some (.v b)
 |.int i _=>some (.int i)
 |.str x _=>some (.str x)
 |.bytes b _=>some (.zA b)
 |.float b _=>some (.yP b)
 |.ref a=>some (.ref a)
 |.type n=>some (.ty n)
 |_=>none
theorem RelV.abs(r:RelV x u):absV u=some x:=by cases x with|l=>cases r;rfl|v _=>cases r;rfl|int _=>obtain⟨t,rfl⟩:=r;rfl|str _=>obtain⟨t,rfl⟩:=r;rfl|zA _=>obtain⟨t,rfl⟩:=r;rfl|yP _=>obtain⟨t,rfl⟩:=r;rfl|ref _=>cases r;rfl|ty _=>cases r;rfl
theorem RelV.inj(r:RelV x u)(q:RelV y u):x=y:=Option.some.inj (r.abs.symm.trans q.abs)
theorem Vals.inj:∀{xs ys:List V}{us:List Value},Vals xs us->Vals ys us->xs=ys
 |_,_,_,.nil,.nil=>rfl
 |_,_,_,.cons r t,.cons r' t'=>by rw[r.inj r',Vals.inj t t']
theorem SqL.of{K:Fg}(h:H a=some (.lst xs)):SqL K H a xs:=.inl (.inl h)
theorem SqT.of{K:Fg}(h:H a=some (.tup xs)):SqT K H a xs:=.inl (.inl h)
theorem Inv.list(I:Inv X aa U H s)(h:SqL X.K H a xs):∃its:List Value,Vals xs its/\PlainL s.heap a its.toArray/\xs.length<=sizeLine:=by
 rcases h with h|⟨o,its,n,hk,hc,hd,hs,hz,r⟩
 .obtain⟨z,its,n,r,e⟩:=h.ok I.z9;exact⟨its,r,⟨_,n,e,rfl,rfl,rfl⟩,z⟩
 .refine⟨its.toList,r,⟨o,n,I.kIn a o hk,hc,hd,by simpa using hs⟩,?_⟩;have e:=r.length;simp only[pP]at e
  lia
theorem Inv.tuple(I:Inv X aa U H s)(h:SqT X.K H a xs):∃its:List Value,Vals xs its/\IsTup s.heap a its.toArray/\xs.length<=sizeLine:=by
 rcases h with h|⟨o,its,n,hk,hc,hs,hz,r⟩
 .obtain⟨z,its,r,p⟩:=h.ok I.z9;exact⟨its,r,p.tup,z⟩
 .refine⟨its.toList,r,⟨o,I.kIn a o hk,hc,n,by simpa using hs⟩,?_⟩;have e:=r.length;simp only[pP]at e
  lia
theorem Inv.HR(I:Inv X aa U H s)(h:SqL X.K H a xs)(h':SqL X.K H a ys):xs=ys:=by
 obtain⟨its,r,⟨o,n,e,_,_,d⟩,_⟩:=I.list h;obtain⟨aH,r',⟨o',n',e',_,_,d'⟩,_⟩:=I.list h';rw[e]at e';cases e';rw[d]at d';injection d' with d1 _;have:=by simpa using congrArg Array.toList d1
 subst this;exact r.inj r'
theorem Inv.FD(I:Inv X aa U H s)(h:SqT X.K H a xs)(h':SqT X.K H a ys):xs=ys:=by
 obtain⟨its,r,⟨o,e,_,n,d⟩,_⟩:=I.tuple h;obtain⟨aH,r',⟨o',e',_,n',d'⟩,_⟩:=I.tuple h';rw[e]at e';cases e';rw[d]at d';injection d' with d1 _;have:=by simpa using congrArg Array.toList d1
 subst this;exact r.inj r'
abbrev Cx.Fz(X:Cx)(E:Zcv):Cx:={X with xe:=E}
theorem Cx.Ok.Fz(ok:X.Ok)(E:Zcv):(X.Fz E).Ok :=
 ⟨ok.mod,ok.kind,ok.glob,ok.blt,ok.above,ok.inj,ok.has,ok.yQ,ok.hd,ok.frames,ok.yJ,ok.yH,ok.bs,ok.zi,ok.zd,ok.zh,ok.LP,ok.yW⟩
theorem Cx.Ok.DU(ok:(X.Fz E).Ok):X.Ok :=
 ⟨ok.mod,ok.kind,ok.glob,ok.blt,ok.above,ok.inj,ok.has,ok.yQ,ok.hd,ok.frames,ok.yJ,ok.yH,ok.bs,ok.zi,ok.zd,ok.zh,ok.LP,ok.yW⟩
variable{E:Zcv}
theorem Inv.Fz(I:Inv X aa U H s)(E:Zcv):Inv (X.Fz E) aa U H s:=⟨I.ok.Fz E,I.os,I.bare,I.base,I.loc,I.cell,I.free,I.zV,I.pin,I.z9,I.len⟩
theorem Inv.DU(I:Inv (X.Fz E) aa U H s):Inv X aa U H s:=⟨I.ok.DU,I.os,I.bare,I.base,I.loc,I.cell,I.free,I.zV,I.pin,I.z9,I.len⟩
theorem SP.DU(h:SP (X.Fz E) aa D f s'):SP X aa D f s':=by cases f with|next=>obtain⟨ax,H',I,q⟩:=h;exact⟨ax,H',I.DU,q⟩|brk=>obtain⟨ax,H',I,q⟩:=h;exact⟨ax,H',I.DU,q⟩|cont=>obtain⟨ax,H',I,q⟩:=h;exact⟨ax,H',I.DU,q⟩|ret u=>obtain⟨v,ax,H',I,r,q⟩:=h;exact⟨v,ax,H',I.DU,r,q⟩
variable{st:Stmt}{rest:List Stmt}{t u:TS}
def tNext:TS:=λD U H=>D.nx U H
def tSeq(t u:TS):TS:=λD U H=>t {D with nx:=u D} U H
theorem VH:PSs X [] tNext:=λ_ _ U H _ I h=>wpAny_execs_nil ⟨U,H,I,h⟩
theorem QY(h1:PS X st t)(h2:PSs X rest u):PSs X (st::rest) (tSeq t u):=by intro aa s U H D I h;refine wpAny_execs_cons (thn (h1 aa s U H {D with nx:=u D} I h) λf s1 q=>?_);cases f with|next =>obtain⟨ax,H',I',q⟩:=q;exact h2 aa s1 ax H' D I' q|ret v=>exact q|brk=>exact q|cont=>exact q
theorem VG(h1:PS X st t):PSs X [st] t:=by intro aa s U H D I h;refine wpAny_execs_cons (thn (h1 aa s U H D I h) λf s1 q=>?_);cases f with|next=>exact wpAny_execs_nil q|ret v=>exact q|brk=>exact q|cont=>exact q
theorem Inv.quiet(I:Inv X aa U H s):interactive X.env=false:=by simp[interactive,I.ok.kind]
def tDrop(te:TE):TS:=λD U H=>te U H λ_ H1=>D.nx U H1
theorem VI(he:PE X e te)(hs:swapsWith e none pos.line X.env=pure false:=by rfl):PS X (.Expr e pos) (tDrop te):=by intro aa s U H D I h;exact wpAny_Expr_any (thn (he aa s U H _ I h) λv s1 ⟨x,H1,I1,r1,q1⟩=>⟨U,H1,I1,q1⟩) I.quiet hs
def tRet(te:TE):TS:=λD U H=>te U H D.rt
theorem ZL(he:PE X e te):PS X (.Return (some e) pos) (tRet te):=by intro aa s U H D I h;exact wpAny_Return_some (thn (he aa s U H _ I h) λv s1 ⟨x,H1,I1,r1,q1⟩=>⟨x,U,H1,I1,r1,q1⟩)
def tIfS(c:TT)(t u:TS):TS:=λD U H=>c U H λb H1=>if b=true then t D U H1 else u D U H1
theorem ps_if(hc:PT X c tc)(ha:PSs X a t)(hb:PSs X b u):PS X (.If c a b pos) (tIfS tc t u):=by intro aa s U H D I h;refine wpAny_If (thn (hc aa s U H _ I h) λd s1 aj=>?_);obtain⟨H1,I1,q1⟩:= aj;cases d with|true=>exact ha aa s1 U H1 D I1 q1|false=>exact hb aa s1 U H1 D I1 q1
def Y5:TS:=λ_ _ _=>False
theorem Q1:PS X st Y5:=λ_ _ _ _ _ _ h=>h.elim
abbrev TG:=V->St->Hp->(St->Hp->Prop)->Prop
abbrev TGs:=List V->St->Hp->(St->Hp->Prop)->Prop
def PG(X:Cx)(target:Expr)(t:TG):Prop :=
 ∀(aa:Zao)(s:Shared)(U:St)(H:Hp)(v:V)(u:Value)(Q:St->Hp->Prop),Inv X aa U H s->RelV v u->t v U H Q ->
  wpAny (model X.prog X.w) X.A (assign target X.env u) (λ_ s'=>NP X aa Q s') X.xe s
def PGs(X:Cx)(ts:List Expr)(t:TGs):Prop :=
 ∀(aa:Zao)(s:Shared)(U:St)(H:Hp)(vs:List V)(us:List Value)(Q:St->Hp->Prop),Inv X aa U H s->Vals vs us->t vs U H Q ->
  wpAny (model X.prog X.w) X.A (assignInOrder ((assignEach ts X.env).map (·.2)) us) (λ_ s'=>NP X aa Q s') X.xe s
abbrev TSet:=V->V->V->Hp->(Hp->Prop)->Prop
def Ti(X:Cx)(t:TSet):Prop :=
 ∀(aa:Zao)(s:Shared)(U:St)(H:Hp)(o i v:V)(ov iv u:Value)(Q:Hp->Prop),Inv X aa U H s->RelV o ov->RelV i iv->RelV v u->t o i v H Q ->
  wpAny (model X.prog X.w) X.A (setItem ov iv u) (λ_ s'=>HP X aa U Q s') X.xe s
def R6(i:Nat):TG:=λv U H Q=>Q (U.set i (some v)) H
theorem VT(hN:X.N.Nodup)(hi:X.N[i]?=some x)(hx:Loc X.env.scope x)(hf:X.fn x=true\/X.env.scope.names.lookup x=some .local:=by first|exact .inl rfl|exact .inr rfl|assumption):PG X (.Name x pos) (R6 i):=by intro aa s U H v u Q I r h;exact wpAny_assign_Name (Fb I hN hi hx r (λs' I'=>⟨_,H,I',h⟩) hf)
def gNil:TGs:=λvs U H Q=>vs=[]/\Q U H
inductive Jbc(t:TG)(u:TGs)(vs:List V)(U:St)(H:Hp)(Q:St->Hp->Prop):Prop
 |mk (v r:_) (h0:vs=v::r) (h1:t v U H λax H'=>u r ax H' Q)
theorem VS:PGs X [] gNil:=by intro aa s U H vs us Q I r h;obtain⟨e,h⟩:=h;subst e;cases r;exact assignInOrder_nil ⟨U,H,I,h⟩
theorem Q9{t}{u}(h1:PG X e t)(h2:PGs X es u)
  (hs:(assignEach (e::es) X.env).map (·.2)=assign e X.env::(assignEach es X.env).map (·.2):=by rfl):PGs X (e::es) (Jbc t u):=by
 intro aa s U H vs us Q I r h;obtain⟨v,vr,e1,h⟩:=h;subst e1;cases r with|cons r rr =>rw[hs];refine assignInOrder_cons (thn (h1 aa s U H _ _ _ I r h) λ_ s1 aj=>?_);obtain⟨cF,H1,I1,q1⟩:= aj;exact h2 aa s1 cF H1 _ _ Q I1 rr q1
inductive gTup(K:Fg)(n:Nat)(t:TGs)(v:V)(U:St)(H:Hp)(Q:St->Hp->Prop):Prop
 |mk (a xs:_) (h0:v=.ref a) (h1:SqT K H a xs) (h2:xs.length=n) (h3:t xs U H Q)
theorem ZR{t}(hc:X.calm=true)(h:PGs X es t)
  (hn:(assignEach es X.env).length=n:=by rfl) (dJ:(assignEach es X.env).findIdx? (·.1)=none:=by rfl):PG X (.Tuple es k pos) (gTup X.K n t):=by
 intro aa s U H v u Q I r hw;obtain⟨a,xs,e1,hq,hl,hw⟩:=hw;subst e1;cases r;obtain⟨its,rv,ht,hz⟩:=I.tuple hq;refine assign_Tuple_tuple (I.ok.hd hc) ht (by simp[hn,<- hl,rv.length]) dJ λh' hx=>?_
 have I1:Inv X aa U H {s with heap:=h' }:=I.kept λb o e=>hx b o (oA (oa e)) e
 exact h aa _ U H xs _ Q I1 (by simpa using rv) hw
def gSub(to ti:TE)(t:TSet):TG:=λv U H Q=>to U H λo H1=>ti U H1 λi H2=>t o i v H2 λH3=>Q U H3
theorem ZT{t}(ho:PE X o to)(hi:PE X i ti)(hs:Ti X t)
  (ha:∀v,assign (.Subscript o i pos) X.env v=(do
   let ov <- holding [v] (eval o X.env)
   let iv <- holding [v,ov] (eval i X.env)
   standAt pos
   holding [v,ov,iv] (setItem ov iv v)
   release [v,ov,iv] []):=by intro _;rfl):PG X (.Subscript o i pos) (gSub to ti t):=by
 intro aa s U H v u Q I r h;refine nM (wpAny_holding (thn (ho aa s U H _ I h) λov s1 aj=>?_));obtain⟨x,H1,I1,r1,q1⟩:= aj;refine nM (wpAny_holding (thn (hi aa s1 U H1 _ I1 q1) λiv s2 aj=>?_));obtain⟨y,H2,I2,r2,q2⟩:= aj;refine nM (wpAny_standAt (nM (wpAny_holding (thn (hs aa s2 U H2 x y v ov iv u _ I2 r1 r2 r q2) λ_ s3 aj=>?_))));obtain⟨H3,I3,q3⟩:= aj;exact wpAny_release ⟨U,H3,I3,q3⟩
def Zb(te:TE)(g:TG):TS:=λD U H=>te U H λx H1=>g x U H1 D.nx
theorem T3(he:PE X e te)(hg:PG X tg g)(hs:swapsWithSole [tg] e pos.line X.env=pure false:=by rfl)(hw:swappedStores [tg] e X.env=pure none:=by rfl)
  (h1:(assignEach [tg] X.env).map (·.2)=[assign tg X.env]:=by rfl):PS X (.Assign [tg] e pos) (Zb te g):=by
 intro aa s U H D I h;refine wpAny_Assign_stores (thn (he aa s U H _ I h) λv s1 aj=>?_) hs hw;obtain⟨x,H1,I1,r1,q1⟩:= aj;rw[h1];exact thn (hg aa s1 U H1 x v _ I1 r1 q1) λ_ s2 q=>q
theorem ZK(hN:X.N.Nodup)(hi:X.N[i]?=some x)(hx:Loc X.env.scope x)(he:PE X e te)(hs:swapsWith e (some (.Name x aP)) pos.line X.env=pure false:=by rfl)(hf:X.fn x=true\/X.env.scope.names.lookup x=some .local:=by first|exact .inl rfl|exact .inr rfl|assumption):
  PS X (.Assign [.Name x aP] e pos) (Zb te (R6 i)):=by
 intro aa s U H D I h;refine wpAny_Assign_Name (thn (he aa s U H _ I h) λv s1 aj=>?_) hs;obtain⟨y,H1,I1,r1,q1⟩:= aj;exact Fb I1 hN hi hx r1 (λs2 I2=>⟨_,H1,I2,q1⟩) hf
def Y1(c:TT)(tb:TS):TS:=λD U H=>∃W:Nat->St->Hp->Prop,(∃m,W m U H)/\∀m U H,W m U H ->
 c U H λb H1=>if b=true then ∃N:St->Hp->Prop,(∀ax H',N ax H'->∃m',m'<m/\W m' ax H')/\tb {D with nx:=N,ct:=N,bk:=D.nx} U H1 else D.nx U H1
theorem QZ(hp:PassesOwn (model X.prog X.w) X.A X.env X.xe)(hc:PT X c tc)(hb:PSs X body tb):PS X (.While c body [] pos) (Y1 tc tb):=by
 intro aa s U H D I h;obtain⟨W,⟨m0,w0⟩,turn⟩:=h;refine wpAny_While (codeAny_whileLoop (λn s'=>∃ax H',Inv X aa ax H' s'/\W n ax H') ?_ m0 ⟨U,H,I,w0⟩)
 rintro n s1 ⟨cF,H1,I1,w1⟩
 refine wpAny_passesOwn hp (thn (hc aa s1 cF H1 _ I1 (turn n cF H1 w1)) λb s2 aj=>?_);obtain⟨H2,I2,q2⟩:= aj;cases b with
 |true =>obtain⟨N,hN,q2⟩:=q2;refine wpAny_passesOwn hp (thn (hb aa s2 cF H2 _ I2 q2) λf s3 q3=>?_);cases f with|next =>obtain⟨cL,H3,I3,n3⟩:=q3;obtain⟨m',hm,w3⟩:=hN cL H3 n3;exact⟨m',hm,cL,H3,I3,w3⟩|cont =>obtain⟨cL,H3,I3,n3⟩:=q3;obtain⟨m',hm,w3⟩:=hN cL H3 n3;exact⟨m',hm,cL,H3,I3,w3⟩|brk=>exact q3|ret v=>exact q3
 |false =>exact wpAny_execs_nil ⟨cF,H2,I2,q2⟩
structure It where
 go:Nat->Hp->Prop
 yV:Nat->Hp->V->Hp->Prop
 stop:Nat->Hp->Prop
def GW(X:Cx)(aa:Zao)(H:Hp)(b:Addr):Prop :=
 H b=none/\b≠X.env.locals/\b∉X.fs/\(b∈X.ex\/X.zW.heap.objs.size<=b)/\(∀x c,X.env.cells.lookup x=some c->c≠b)/\∀p∈X.pn++aa,p.1≠b
theorem Inv.Qp(I:Inv X aa U H s)(hb:s.heap.objs.size<=b)(hn:H' b=none):GW X aa H' b:=by
 refine⟨hn,qu (oq I.lt hb),I.nofs hb,.inr (oB I.sz hb),λx c e z=>?_,λp hp z=>?_⟩
 .obtain⟨v,q⟩:=I.cell x c e;exact absurd (oq q.lt (by rwa[z])) (pq _)
 .exact absurd (oq (oa (I.pin p hp).1) (by rwa[z])) (pq _)
structure Turn(P:Program)(w:World)(K:Fg)(tg:Expr)(J:It)(fp:List Addr)(it:Addr)(tn:Nat->Heap->Prop):Prop where
 mem:it∈fp
 obj:∀i h,tn i h->∀b∈fp,∃o,h.get? b=some o/\∀v,o.data≠.cell v
 keep:∀i h h',tn i h->(∀b∈fp,∀o,h.get? b=some o->h'.get? b=some o)->tn i h'
 item:∀(X:Cx),X.prog=P->X.w=w->X.K=K->X.calm=true->∀(i:Nat)(aa:Zao)(s:Shared)(U:St)(H:Hp)(E:Zcv),Inv X aa U H s->(∀b∈fp,GW X aa H b)->tn i s.heap->J.go i H ->
  wpAny (model P w) X.A (pyNext (.ref it)) (λr s1=>∃u,r=some u /\
   wpAny (model P w) X.A (letOwnedTupleGo tg (.ref it) u) (λ_ s2=>∃x H',Inv X aa U H' s2/\RelV x u/\J.yV i H x H'/\tn (i+1) s2.heap/\∀b∈fp,H' b=none) E s1) E s
 done:∀(X:Cx),X.prog=P->X.w=w->X.K=K->X.calm=true->∀(i:Nat)(aa:Zao)(s:Shared)(U:St)(H:Hp)(E:Zcv),Inv X aa U H s->(∀b∈fp,GW X aa H b)->tn i s.heap->J.stop i H ->
  wpAny (model P w) X.A (pyNext (.ref it)) (λr s1=>r=none/\Inv X aa U H s1) E s
 self:∀(A:Around)(i:Nat)(s:Shared)(Q:Zcv)(E:Zcv),tn i s.heap->Q (.ref it) s->wpAny (model P w) A (pyIter (.ref it)) Q E s
abbrev TI:=St->Hp->(It->Hp->Prop)->Prop
inductive PIE(X:Cx)(aa:Zao)(U:St)(tg:Expr)(R:It->Hp->Prop)(gM:Value)(s2:Shared):Prop
 |mk (it:Addr) (fp:List Addr) (tn:Nat->Heap->Prop) (J:It) (H':Hp) (h0:gM=.ref it) (h1:Inv X aa U H' s2) (h2:Turn X.prog X.w X.K tg J fp it tn) (h3:tn 0 s2.heap) (h4:∀b∈fp,GW X aa H' b) (h5:R J H')
def PI(X:Cx)(tg av:Expr)(wi:TI):Prop :=
 ∀(aa:Zao)(s:Shared)(U:St)(H:Hp)(R:It->Hp->Prop),Inv X aa U H s->wi U H R ->
  wpAny (model X.prog X.w) X.A (eval av X.env) (λv s1=>wpAny (model X.prog X.w) X.A (pyIter v) (PIE X aa U tg R) X.xe s1) X.xe s
theorem Ky{u}(ho:s.heap.get? it=some o)(hc:o.cls=.type n)(hd:o.data=.fields vs)
    (hn:["enumerate","zip","dict_itemiterator","dict_reverseitemiterator","odict_iterator","itertools.zip_longest","itertools.pairwise"].contains n=false) (hQ:Q () s):wpAny M A (letOwnedTupleGo tg (.ref it) u) Q E s:=by
  cases tg<;>first
    |exact nW hQ
    | (cases u <;> first
        |exact nW hQ
        | (refine nM (wpAny_load ho ?_)
           rw[hc,hd];show wpAny M A (if(["enumerate","zip","dict_itemiterator","dict_reverseitemiterator","odict_iterator","itertools.zip_longest","itertools.pairwise"].contains n&&vs[0]?==some (rawInt _))=true then _ else _) Q E s;rw[if_neg (by intro h;rw[hn,Bool.false_and]at h;cases h)];exact nW hQ))
def Itl(K:Fg)(a:Addr):It :=
 ⟨λi H=>∃xs x,SqL K H a xs/\xs[i]?=some x,λi H x H'=>H'=H/\∀xs,SqL K H a xs->xs[i]?=some x,λi H=>∃xs,SqL K H a xs/\xs.length<=i⟩
def Itt(K:Fg)(a:Addr):It :=
 ⟨λi H=>∃xs x,SqT K H a xs/\xs[i]?=some x,λi H x H'=>H'=H/\∀xs,SqT K H a xs->xs[i]?=some x,λi H=>∃xs,SqT K H a xs/\xs.length<=i⟩
def Itr(lo:Int)(n:Nat):It:=⟨λi _=>i<n,λi H x H'=>H'=H/\x=.int (lo+i),λi _=>n<=i⟩
theorem Nt{K:Fg}(a it:Addr):Turn P w K tg (Itl K a) [it] it (λi h=>h.IsListIter it a i) where
 mem:=by simp
 obj:=λi h st b hb=>by
  have e:=by simpa using hb
  subst e;obtain⟨o,e,c,d⟩:=st;exact⟨o,e,λv z=>by rw[d]at z;cases z⟩
 keep:=λi h h' st k=>st.at λo e=>k it (by simp) o e
 item:=by
  intro X hP hw hK hc i aa s U H E I hf st hg;subst hP hw hK;obtain⟨xs,x,hq,hx⟩:=hg;obtain⟨its,rv,p,hz⟩:=I.list hq;obtain⟨u,hu,ru⟩:=rv.get hx;obtain⟨f0,f1,f2,f3,f4,f5⟩:=hf it (by simp);refine wpAny_pyNext_list_item st p.isList (by simpa using hu) λh' aY sb=>?_
  have I1:Inv X aa U H {s with heap:=h' }:=I.turned (λb o hb e=>(sb.2 b hb).trans e) f0 f1 f3 f4 f5;obtain⟨o,e,c,d⟩:=id aY;exact⟨u,rfl,Ky e c d (by decide) ⟨x,H,I1,ru,⟨rfl,λys hy=>by rwa[I.HR hy hq]⟩,aY,λb hb=>(hf b hb).1⟩⟩
 done:=by intro X hP hw hK hc i aa s U H E I hf st hg;subst hP hw hK;obtain⟨xs,hq,hx⟩:=hg;obtain⟨its,rv,p,hz⟩:=I.list hq;obtain⟨f0,f1,f2,f3,f4,f5⟩:=hf it (by simp);have hl:=rv.length;exact wpAny_pyNext_list_end (I.ok.hd hc) st p.isList (by simp;lia) λh' eb=>⟨rfl,I.turned (λb o hb e=>eb b o hb e) f0 f1 f3 f4 f5⟩
 self:=λ_ _ _ _ _ st h=>wpAny_pyIter_listiter st h
theorem Ml{K:Fg}(a it:Addr):Turn P w K tg (Itt K a) [it] it (λi h=>h.IsTupleIter it a i) where
 mem:=by simp
 obj:=λi h st b hb=>by
  have e:=by simpa using hb
  subst e;obtain⟨o,e,c,d⟩:=st;exact⟨o,e,λv z=>by rw[d]at z;cases z⟩
 keep:=λi h h' st k=>st.at λo e=>k it (by simp) o e
 item:=by
  intro X hP hw hK hc i aa s U H E I hf st hg;subst hP hw hK;obtain⟨xs,x,hq,hx⟩:=hg;obtain⟨its,rv,p,hz⟩:=I.tuple hq;obtain⟨u,hu,ru⟩:=rv.get hx;obtain⟨f0,f1,f2,f3,f4,f5⟩:=hf it (by simp);refine wpAny_pyNext_tuple_item st (show s.heap.IsTuple a its.toArray from p) (by simpa using hu) λh' aY sb=>?_
  have I1:Inv X aa U H {s with heap:=h' }:=I.turned (λb o hb e=>(sb.2 b hb).trans e) f0 f1 f3 f4 f5;obtain⟨o,e,c,d⟩:=id aY;exact⟨u,rfl,Ky e c d (by decide) ⟨x,H,I1,ru,⟨rfl,λys hy=>by rwa[I.FD hy hq]⟩,aY,λb hb=>(hf b hb).1⟩⟩
 done:=by intro X hP hw hK hc i aa s U H E I hf st hg;subst hP hw hK;obtain⟨xs,hq,hx⟩:=hg;obtain⟨its,rv,p,hz⟩:=I.tuple hq;obtain⟨f0,f1,f2,f3,f4,f5⟩:=hf it (by simp);have hl:=rv.length;exact wpAny_pyNext_tuple_end (I.ok.hd hc) st (show s.heap.IsTuple a its.toArray from p) (by simp;lia) λh' eb=>⟨rfl,I.turned (λb o hb e=>eb b o hb e) f0 f1 f3 f4 f5⟩
 self:=λ_ _ _ _ _ st h=>wpAny_pyIter_tupleiter st h
theorem Mm{K:Fg}(it:Addr)(lo:Int)(n:Nat):Turn P w K tg (Itr lo n) [it] it (λi h=>IsRangeIter h it (lo+(i:Nat)*1) ((n:Int)-(i:Nat)) 1) where
 mem:=by simp
 obj:=λi h st b hb=>by
  have e:=by simpa using hb
  subst e;exact⟨_,st,λv z=>by have z':=z;cases z'⟩
 keep:=λi h h' st k=>k it (by simp) _ st
 item:=by
  intro X hP hw hK hc i aa s U H E I hf st hg;subst hP hw hK;obtain⟨f0,f1,f2,f3,f4,f5⟩:=hf it (by simp);have W:=Walks.range (prog:=X.prog) (w:=X.w) (I.ok.hd hc) it lo 1 n;refine W.item i s _ _ hg st λv h' tk hv aY kk=>?_
  obtain⟨t,rfl⟩:=hv;have I1:Inv X aa U H {s with heap:=h',toks:=tk}:=I.turned (λb o hb e=>kk b o (by simpa using hb) e) f0 f1 f3 f4 f5;refine⟨_,rfl,Ky aY rfl rfl (by decide) ⟨.int (lo+i),H,I1,⟨t,?_⟩,⟨rfl,rfl⟩,aY,λb hb=>(hf b hb).1⟩⟩;rw[Int.mul_one]
 done:=by intro X hP hw hK hc i aa s U H E I hf st hg;obtain⟨f0,f1,f2,f3,f4,f5⟩:=hf it (by simp);exact wpAny_pyNext_range_end (I.ok.hd hc) st (by have:n<=i:=hg;lia) λh' eb=>⟨rfl,I.turned (λb o hb e=>eb b o hb e) f0 f1 f3 f4 f5⟩
 self:=λ_ _ _ _ _ st h=>wpAny_pyIter_rangeiter st h
theorem QU{t}{u}{lo hi:Int}(I:Inv X aa U H s)(h1:-(2^62)<=lo)(h2:lo<2^62)(h3:-(2^62)<=hi)(h4:hi<2^62)
  (q:R (Itr lo (hi-lo).toNat) H):wpAny (model X.prog X.w) X.A (pyIter (.ref s.heap.objs.size)) (PIE X aa U tg R) E {s with heap:=s.heap.push {cls:=.type "range",data:=.fields #[.int lo t,.int hi u,.int 1 v]},toks:=tk}:=by
 refine wpAny_pyIter_range (IsRange.new ..) (small_one h1 h2 h3 h4) ?_;have I1:Inv X aa U H {s with heap:=s.heap.push {cls:=.type "range",data:=.fields #[.int lo t,.int hi u,.int 1 v]},toks:=tk}:=I.kept λb o e=>nR _ e
 refine⟨(s.heap.push {cls:=.type "range",data:=.fields #[.int lo t,.int hi u,.int 1 v]}).objs.size,[(s.heap.push {cls:=.type "range",data:=.fields #[.int lo t,.int hi u,.int 1 v]}).objs.size],_,_,H,rfl,
  I1.kept λb o e=>nR _ e,Mm _ lo (hi-lo).toNat,?_,λb hb=>?_,q⟩
 .have e1:lo+((0:Nat):Int)*1=lo:=by simp
  have e2:(((hi-lo).toNat:Nat):Int)-((0:Nat):Int)=Builtin.Range.rangeSize lo hi 1:=by rw[rangeSize_one];split<;>lia
  rw[e1,e2];exact n5 _ rfl
 .have e:b=(s.heap.push {cls:=.type "range",data:=.fields #[.int lo t,.int hi u,.int 1 v]}).objs.size:=by simpa using hb
  subst e;exact I1.Qp (n9 _) (I1.z9.fresh (n9 _))
def iRng1(ta:TA):TI:=λU H R=>ta U H λvs H1=>∃j:Int,vs=[.int j]/\-(2^62)<=j/\j<2^62/\R (Itr 0 j.toNat) H1
theorem N3{p pos:Pos}(hg:Gl X "range")(hm:X.mg "range"=none)(ha:PA X [a] ta)(hs:Zs1 X.env a:=by rfl):PI X tg (.Call (.Name "range" p) [a] [] pos) (iRng1 ta):=by intro aa s U H R I h;refine Call_ (Dh I hg hm boot_range (callWith_type1 (thn (ha pos aa s U H _ I h) λus s1 aj=>?_) hs rfl));obtain⟨vs,H1,I1,r1,q1⟩:= aj;obtain⟨j,e,q1,q2,q⟩:=q1;subst e;cases r1 with|cons r rr =>cases rr;obtain⟨t,rfl⟩:=r;exact call_range_1 (QU I1 (by lia) (by lia) q1 q2 (by simpa using q))
def tFor(wi:TI)(g:TG)(tb:TS):TS:=λD U H=>wi U H λJ H1=>∃W:Nat->Nat->St->Hp->Prop,(∃m,W 0 m U H1)/\∀i m U H,W i m U H ->
 (J.stop i H/\D.nx U H)\/(J.go i H/\∃N:St->Hp->Prop,(∀ax H',N ax H'->∃m',m'<m/\W (i+1) m' ax H')/\∀x H',J.yV i H x H'->g x U H' λeJ H2=>tb {D with nx:=N,ct:=N,bk:=D.nx} eJ H2)
def Jc(fp:List Addr)(h:Heap):List (Addr×Obj):=fp.filterMap λb=>(h.get? b).map λo=>(b,o)
theorem DC(hb:b∈fp)(e:h.get? b=some o):(b,o)∈Jc fp h:=qv.mpr ⟨b,hb,by rw[e];rfl⟩
theorem Oc(hp:p∈Jc fp h):p.1∈fp/\h.get? p.1=some p.2:=by obtain⟨b,hb,e⟩:=qv.mp hp;cases q:h.get? b with|none=>rw[q]at e;cases e|some o =>rw[q]at e;have e':=Option.some.inj e;subst e';exact⟨hb,q⟩
theorem Inv.pinned(I:Inv X aa U H s)(hf:∀b∈fp,GW X aa H b)(ho:∀b∈fp,∃o,s.heap.get? b=some o/\∀v,o.data≠.cell v):Inv X (aa++Jc fp s.heap) U H s :=
 I.HG λp hp=>(oM.mp hp).elim (λz=>I.pin p (oP _ z)) λz=>by obtain⟨hb,e⟩:=Oc z;obtain⟨f0,f1,f2,_⟩:=hf p.1 hb;obtain⟨o,e',d⟩:=ho p.1 hb;rw[e]at e';cases e';exact⟨e,f0,f1,f2,d⟩
theorem Inv.E9(I:Inv X (aa++pl) U H s):Inv X aa U H s:=I.HG λp hp=>I.pin p (oP _ (o7 _ hp))
theorem ZM(hp:PassesOwn (model X.prog X.w) X.A X.env X.xe)(hc:X.calm=true)(hi:PI X tg av wi)(hg:PG X tg g)(hb:PSs X body tb)
  (hs:Zfs X.env av:=by intro _;rfl):PS X (.For tg av body [] pos) (tFor wi g tb):=by
 intro aa s U H D I h;refine wpAny_For (thn (hi aa s U H _ I h) λv s1 h1=>thn h1 λgM s2 h2=>?_) hs;obtain⟨it,fp,tn,J,H2,e,I2,T,dP,f2,W,⟨m0,w0⟩,turn⟩:=h2;subst e;have b5:∀{H':Hp},(∀b∈fp,H' b=none)->∀b∈fp,GW X aa H' b:=λhn b hb=>⟨hn b hb,(f2 b hb).2⟩
 refine codeAny_forLoop_any (λn s'=>∃i ax H',Inv X aa ax H' s'/\tn i s'.heap/\(∀b∈fp,H' b=none)/\W i n ax H') ?_ m0 ⟨0,U,H2,I2,dP,λb hb=>(f2 b hb).1,w0⟩
 rintro n s3 ⟨i,cL,H3,I3,st3,fr3,w3⟩
 rcases turn i n cL H3 w3 with⟨stop,qn⟩|⟨go,N,hN,step⟩
 .refine wpAny_passesOwn hp (thn (T.done X rfl rfl rfl hc i aa s3 cL H3 X.xe I3 (b5 fr3) st3 stop) λr s4 aj=>?_);obtain⟨hr,I4⟩:= aj;subst hr;exact wpAny_execs_nil ⟨cL,H3,I4,qn⟩
 .refine wpAny_passesOwn hp (thn (T.item X rfl rfl rfl hc i aa s3 cL H3 X.xe I3 (b5 fr3) st3 go) λr s4 aj=>?_);obtain⟨u,hr,h4⟩:= aj;subst hr;refine wpAny_passesOwn hp (thn h4 λ_ s5 aj=>?_);obtain⟨x,H5,I5,r5,y5,iZ,kI⟩:= aj;have kh:=I5.pinned (b5 kI) (T.obj _ _ iZ);refine wpAny_passesOwn hp (thn (hg _ s5 cL H5 x u _ kh r5 (step x H5 y5)) λ_ s6 aj=>?_);obtain⟨mT,H6,I6,q6⟩:= aj;refine wpAny_passesOwn hp (thn (hb _ s6 mT H6 _ I6 q6) λf s7 q7=>?_);have again:∀{di:St}{H7:Hp},Inv X (aa++Jc fp s5.heap) di H7 s7->N di H7->∃m,m<n/\∃i ax H',Inv X aa ax H' s7/\tn i s7.heap/\(∀b∈fp,H' b=none)/\W i m ax H':=λ{di H7} I7 n7=>by obtain⟨m',hm,w7⟩:=hN di H7 n7;refine⟨m',hm,i+1,di,H7,I7.E9,T.keep _ _ _ iZ λb hb o e=>(I7.pin (b,o) (oP _ (oP _ (DC hb e)))).1,λb hb=>?_,w7⟩;obtain⟨o,e,d⟩:=T.obj _ _ iZ b hb;exact(I7.pin (b,o) (oP _ (oP _ (DC hb e)))).2.1
  cases f with|next=>obtain⟨di,H7,I7,n7⟩:=q7;exact again I7 n7|cont=>obtain⟨di,H7,I7,n7⟩:=q7;exact again I7 n7|brk=>obtain⟨di,H7,I7,q7⟩:=q7;exact⟨di,H7,I7.E9,q7⟩|ret v=>obtain⟨x7,di,H7,I7,r7,q7⟩:=q7;exact⟨x7,di,H7,I7.E9,r7,q7⟩
abbrev R2:=V->V->Hp->VK->Prop
def OpR(X:Cx)(f:Value->Value->Sem Value)(r:R2):Prop :=
 ∀(aa:Zao)(s:Shared)(U:St)(H:Hp)(x y:V)(v u:Value)(Q:VK),Inv X aa U H s->RelV x v->RelV y u->r x y H Q ->
  wpAny (model X.prog X.w) X.A (f v u) (EP X aa U Q) X.xe s
def UnR(X:Cx)(f:Value->Sem Value)(r:V->Hp->VK->Prop):Prop :=
 ∀(aa:Zao)(s:Shared)(U:St)(H:Hp)(x:V)(v:Value)(Q:VK),Inv X aa U H s->RelV x v->r x H Q ->
  wpAny (model X.prog X.w) X.A (f v) (EP X aa U Q) X.xe s
def BK(X:Cx)(f:Value)(r:List V->Hp->VK->Prop):Prop :=
 ∀(aa:Zao)(s:Shared)(U:St)(H:Hp)(xs:List V)(us:List Value)(Q:VK),Inv X aa U H s->Vals xs us->r xs H Q ->
  wpAny (model X.prog X.w) X.A (call f us) (EP X aa U Q) X.xe s
def TruR(X:Cx)(r:V->Hp->(Bool->Hp->Prop)->Prop):Prop :=
 ∀(aa:Zao)(s:Shared)(U:St)(H:Hp)(x:V)(v:Value)(Q:Bool->Hp->Prop),Inv X aa U H s->RelV x v->r x H Q ->
  wpAny (model X.prog X.w) X.A (truthy v) (TP X aa U Q) X.xe s
def tOp(r:R2)(ta tb:TE):TE:=λU H Q=>ta U H λx H1=>tb U H1 λy H2=>r x y H2 Q
def tUn(r:V->Hp->VK->Prop)(ta:TE):TE:=λU H Q=>ta U H λx H1=>r x H1 Q
inductive rI(C:Int->Int->Prop)(g:Int->Int->V)(x:V)(y:V)(H:Hp)(Q:VK):Prop
 |mk (i j:_) (h0:x=.int i) (h1:y=.int j) (h2:C i j) (h3:Q (g i j) H)
inductive rI0(g:Int->Int->V)(x:V)(y:V)(H:Hp)(Q:VK):Prop
 |mk (i j:_) (h0:x=.int i) (h1:y=.int j) (h2:Q (g i j) H)
def rU(g:Int->V):V->Hp->VK->Prop:=λx H Q=>∃i,x=.int i/\Q (g i) H
theorem binT(ha:PE X a ta)(hb:PE X b tb){R:V->V->Hp->Prop}(I:Inv X aa U H s)
  (h:ta U H λx H1=>tb U H1 λy H2=>R x y H2) {f:Value->Value->Sem Value}
  (hf:∀v u s2 x y H2,Inv X aa U H2 s2->RelV x v->RelV y u->R x y H2->wpAny (model X.prog X.w) X.A (f v u) Q X.xe s2) :
  wpAny (model X.prog X.w) X.A (eval a X.env) (λv aw=>wpAny (model X.prog X.w) X.A (eval b X.env) (λu bH=>wpAny (model X.prog X.w) X.A (f v u) Q X.xe bH) X.xe aw) X.xe s:=by
 refine thn (ha aa s U H _ I h) λv s1 aj=>?_
 obtain⟨x,H1,I1,r1,q1⟩:= aj;refine thn (hb aa s1 U H1 _ I1 q1) λu s2 aj=>?_
 obtain⟨y,H2,I2,r2,q2⟩:= aj;exact hf v u s2 x y H2 I2 r1 r2 q2
theorem pe_op(ho:OpR X (binaryOp op) r)(ha:PE X a ta)(hb:PE X b tb):PE X (.BinOp a op b pos) (tOp r ta tb):=by intro aa s U H Q I h;exact wpAny_BinOp (binT ha hb I h λv u s2 x y H2 I2 rx ry q=>ho aa s2 U H2 x y v u Q I2 rx ry q)
theorem pe_un(ho:UnR X (unaryOp op) r)(ha:PE X a ta):PE X (.UnaryOp op a pos) (tUn r ta):=by intro aa s U H Q I h;exact UnaryOp_ (thn (ha aa s U H _ I h) λv s1 ⟨x,H1,I1,r1,q1⟩=>ho aa s1 U H1 x v Q I1 r1 q1)
theorem opI{g:Int->Int->Int}
  (bZ:∀(i j:Int)(t u:Tok)(s:Shared)(Q:Zcv)(E:Zcv),C i j->Q (.int (g i j) s.toks) {s with toks:=s.toks+1}->wpAny (model X.prog X.w) X.A (f (.int i t) (.int j u)) Q E s) :
  OpR X f (rI C λi j=>.int (g i j)):=by
 intro aa s U H x y v u Q I rx ry h;obtain⟨i,j,rfl,rfl,hc,q⟩:=h;obtain⟨t,rfl⟩:=rx;obtain⟨t',rfl⟩:=ry;exact bZ i j t t' s _ _ hc ⟨.int (g i j),H,I.tok _,⟨_,rfl⟩,q⟩
theorem opI0{g:Int->Int->Int}
  (bZ:∀(i j:Int)(t u:Tok)(s:Shared)(Q:Zcv)(E:Zcv),Q (.int (g i j) s.toks) {s with toks:=s.toks+1}->wpAny (model X.prog X.w) X.A (f (.int i t) (.int j u)) Q E s) :
  OpR X f (rI0 λi j=>.int (g i j)):=by
 intro aa s U H x y v u Q I rx ry h;obtain⟨i,j,rfl,rfl,q⟩:=h;obtain⟨t,rfl⟩:=rx;obtain⟨t',rfl⟩:=ry;exact bZ i j t t' s _ _ ⟨.int (g i j),H,I.tok _,⟨_,rfl⟩,q⟩
theorem opB0{g:Int->Int->Bool}
  (bZ:∀(i j:Int)(t u:Tok)(s:Shared)(Q:Zcv)(E:Zcv),Q (.bool (g i j)) s->wpAny (model X.prog X.w) X.A (f (.int i t) (.int j u)) Q E s) :
  OpR X f (rI0 λi j=>.v (g i j)):=by
 intro aa s U H x y v u Q I rx ry h;obtain⟨i,j,rfl,rfl,q⟩:=h;obtain⟨t,rfl⟩:=rx;obtain⟨t',rfl⟩:=ry;exact bZ i j t t' s _ _ ⟨.v (g i j),H,I,rfl,q⟩
def CDiv(i j:Int):Prop:=0<j/\j<1073741824
def CMul(i j:Int):Prop:=(-(2^64)<i/\i<2^64)\/(-(2^64)<j/\j<2^64)
theorem CMul.ok(h:CMul i j):IntMulOk i j:=by
 rcases h with⟨h1,h2⟩|⟨h1,h2⟩
 .exact .of_left (intBits_le_64 h1 h2)
 .exact .of_right (intBits_le_64 h1 h2)
theorem Jac:OpR X (binaryOp .Add) (rI0 λi j=>.int (i+j)):=opI0 λ_ _ _ _ _ _ _ q=>add_int q
theorem Z7:OpR X (binaryOp .Sub) (rI0 λi j=>.int (i-j)):=opI0 λ_ _ _ _ _ _ _ q=>sub_int q
theorem V8:OpR X (binaryOp .FloorDiv) (rI CDiv λi j=>.int (i/j)):=opI λi j _ _ _ _ _ hc q=>by have h1:=hc.1;have h2:j<1073741824:=hc.2;exact floordiv_int (by lia) (by rwa[Int.fdiv_eq_ediv_of_nonneg i (by lia)]) (.inl (PyProof.noPylong_small (by lia)))
theorem Z9:OpR X (binaryOp .Mod) (rI (λ_ j=>0<j) λi j=>.int (i%j)):=opI λi j _ _ _ _ _ hc q=>by exact mod_int' (by lia) (by rwa[Int.fmod_eq_emod_of_nonneg i (by lia)])
theorem unI{g:Int->Int}
  (bZ:∀(i:Int)(t:Tok)(s:Shared)(Q:Zcv)(E:Zcv),Q (.int (g i) s.toks) {s with toks:=s.toks+1}->wpAny (model X.prog X.w) X.A (f (.int i t)) Q E s) :
  UnR X f (rU λi=>.int (g i)):=by
 intro aa s U H x v Q I rx h;obtain⟨i,rfl,q⟩:=h;obtain⟨t,rfl⟩:=rx;exact bZ i t s _ _ ⟨.int (g i),H,I.tok _,⟨_,rfl⟩,q⟩
theorem YU:UnR X (unaryOp .USub) (rU λi=>.int (-i)):=unI λ_ _ _ _ _ q=>neg_int q
def Vv:V->V->Bool
 |.l,.l=>true|.l,.int _=>true|.int _,.l=>true|.l,.v _=>true|.v _,.l=>true|.l,.str _=>true|.str _,.l=>true
 |.int _,.int _=>true|.v _,.v _=>true|.str _,.str _=>true|.zA _,.zA _=>true
 |.int _,.str _=>true|.str _,.int _=>true|.v _,.str _=>true|.str _,.v _=>true
 |_,_=>false
def rEq:R2:=λx y H Q=>Vv x y=true/\Q (.v (decide (x=y))) H
def rNe:R2:=λx y H Q=>Vv x y=true/\Q (.v (!decide (x=y))) H
theorem PM:decide (V.int i=V.int j)=(i==j):=by rw[pC];simp
theorem UN:decide (V.v i=V.v j)=(i==j):=by rw[pC];simp
theorem PL:decide (V.str i=V.str j)=(i==j):=by rw[pC];simp
theorem PN:decide (V.zA i=V.zA j)=(i.toList==j.toList):=by rw[pC];cases i;cases j;simp
theorem AG(I:Inv X aa U H s)(q:Q (.v k) H)(e:k=k'):EP X aa U Q (.bool k') s:=by subst e;exact⟨.v k,H,I,rfl,q⟩
theorem V9:OpR X (compareOp .Eq) rEq:=by
 intro aa s U H x y v u Q I rx ry h;obtain⟨hs,q⟩:=h;cases x with
 |l =>cases rx;cases y with|l=>cases ry;exact PySem.EqNone.eq_none_none (AG I q (by simp))|v j=>cases ry;exact PySem.EqNone.eq_none_bool (AG I q (by simp))|int j=>obtain⟨t',rfl⟩:=ry;exact PySem.EqNone.eq_none_int (AG I q (by simp))|str j=>obtain⟨t',rfl⟩:=ry;exact PySem.EqNone.eq_none_str (AG I q (by simp))|_=>exact absurd (show false=true from hs) oz
 |v i =>cases rx;cases y with|l=>cases ry;exact PySem.EqNone.eq_bool_none (AG I q (by simp))|v j=>cases ry;exact eq_bool (AG I q UN)|str j=>obtain⟨t',rfl⟩:=ry;exact PySem.EqMixed.eq_bool_str (AG I q (by simp))|_=>exact absurd (show false=true from hs) oz
 |int i =>obtain⟨t,rfl⟩:=rx;cases y with|l=>cases ry;exact PySem.EqNone.eq_int_none (AG I q (by simp))|int j=>obtain⟨t',rfl⟩:=ry;exact eq_int (AG I q PM)|str j=>obtain⟨t',rfl⟩:=ry;exact PySem.EqMixed.eq_int_str (AG I q (by simp))|_=>exact absurd (show false=true from hs) oz
 |str i =>obtain⟨t,rfl⟩:=rx;cases y with|l=>cases ry;exact PySem.EqNone.eq_str_none (AG I q (by simp))|v j=>cases ry;exact PySem.EqMixed.eq_str_bool (AG I q (by simp))|int j=>obtain⟨t',rfl⟩:=ry;exact PySem.EqMixed.eq_str_int (AG I q (by simp))|str j=>obtain⟨t',rfl⟩:=ry;exact eq_str (AG I q PL)|_=>exact absurd (show false=true from hs) oz
 |zA i =>obtain⟨t,rfl⟩:=rx;cases y with|zA j=>obtain⟨t',rfl⟩:=ry;exact PySem.W.eq_bytes (AG I q PN)|_=>exact absurd (show false=true from hs) oz
 |_=>cases y<;>exact absurd (show false=true from hs) oz
theorem op_ne:OpR X (compareOp .NotEq) rNe:=by
 intro aa s U H x y v u Q I rx ry h;obtain⟨hs,q⟩:=h;cases x with
 |l =>cases rx;cases y with|l=>cases ry;exact PySem.EqNone.ne_none_none (AG I q (by simp))|v j=>cases ry;exact PySem.EqNone.ne_none_bool (AG I q (by simp))|int j=>obtain⟨t',rfl⟩:=ry;exact PySem.EqNone.ne_none_int (AG I q (by simp))|str j=>obtain⟨t',rfl⟩:=ry;exact PySem.EqNone.ne_none_str (AG I q (by simp))|_=>exact absurd (show false=true from hs) oz
 |v i =>cases rx;cases y with|l=>cases ry;exact PySem.EqNone.ne_bool_none (AG I q (by simp))|v j=>cases ry;exact ne_bool (AG I q (congrArg not UN))|str j=>obtain⟨t',rfl⟩:=ry;exact PySem.EqMixed.ne_bool_str (AG I q (by simp))|_=>exact absurd (show false=true from hs) oz
 |int i =>obtain⟨t,rfl⟩:=rx;cases y with|l=>cases ry;exact PySem.EqNone.ne_int_none (AG I q (by simp))|int j=>obtain⟨t',rfl⟩:=ry;exact ne_int (AG I q (congrArg not PM))|str j=>obtain⟨t',rfl⟩:=ry;exact PySem.EqMixed.ne_int_str (AG I q (by simp))|_=>exact absurd (show false=true from hs) oz
 |str i =>obtain⟨t,rfl⟩:=rx;cases y with|l=>cases ry;exact PySem.EqNone.ne_str_none (AG I q (by simp))|v j=>cases ry;exact PySem.EqMixed.ne_str_bool (AG I q (by simp))|int j=>obtain⟨t',rfl⟩:=ry;exact PySem.EqMixed.ne_str_int (AG I q (by simp))|str j=>obtain⟨t',rfl⟩:=ry;exact ne_str (AG I q (congrArg not PL))|_=>exact absurd (show false=true from hs) oz
 |zA i =>obtain⟨t,rfl⟩:=rx;cases y with|zA j=>obtain⟨t',rfl⟩:=ry;exact PySem.W.ne_bytes (AG I q (congrArg not PN))|_=>exact absurd (show false=true from hs) oz
 |_=>cases y<;>exact absurd (show false=true from hs) oz
theorem op_lt:OpR X (compareOp .Lt) (rI0 λi j=>.v (decide (i<j))):=opB0 λ_ _ _ _ _ _ _ q=>lt_int q
theorem V7:OpR X (compareOp .LtE) (rI0 λi j=>.v (decide (i<=j))):=opB0 λ_ _ _ _ _ _ _ q=>le_int q
theorem op_gt:OpR X (compareOp .Gt) (rI0 λi j=>.v (decide (j<i))):=opB0 λ_ _ _ _ _ _ _ q=>gt_int q
theorem Jh:OpR X (compareOp .In) (λx y H Q=>∃i j,x=.str i/\y=.str j/\Q (.v (!(Builtin.Str.occurrences j i 0 j.length 1).isEmpty)) H):=by intro aa s U H x y v u Q I rx ry h;obtain⟨i,j,rfl,rfl,q⟩:=h;obtain⟨t,rfl⟩:=rx;obtain⟨t',rfl⟩:=ry;exact in_str (AG I q rfl)
theorem Ud:OpR X (compareOp .Is) (λx y H Q=>y=.l/\Q (.v (decide (x=.l))) H):=by
 intro aa s U H x y v u Q I rx ry h;obtain⟨rfl,q⟩:=h;cases ry;refine is_none_gen (AG I q ?_);cases x<;>first
  |(cases rx;rfl)
  |(obtain⟨t,rfl⟩:=rx;rfl)
theorem V4:OpR X (compareOp .IsNot) (λx y H Q=>y=.l/\Q (.v (!decide (x=.l))) H):=by
 intro aa s U H x y v u Q I rx ry h;obtain⟨rfl,q⟩:=h;cases ry;refine isnot_none_gen (AG I q ?_);cases x<;>first
  |(cases rx;rfl)
  |(obtain⟨t,rfl⟩:=rx;rfl)
theorem Cz(b:Expr){op:CmpOp}(h:op≠.In:=by decide)(h2:op≠.NotIn:=by decide):behindInMarks op b=false:=by
 have e1:(op==CmpOp.In)=false:=by cases op<;>first|rfl|exact absurd rfl h
 have e2:(op==CmpOp.NotIn)=false:=by cases op<;>first|rfl|exact absurd rfl h2
 cases b<;>first|rfl|(show(_&&(op==.In||op==.NotIn)&&_)=false;rw[e1,e2];simp)
theorem VZ(ho:OpR X (compareOp op) r)(ha:PE X a ta)(hb:PE X b tb)(hm:behindInMarks op b=false):PE X (.Compare a [op] [b] pos) (tOp r ta tb):=by intro aa s U H Q I h;exact wpAny_Compare1 (binT ha hb I h λv u s2 x y H2 I2 rx ry q=>ho aa s2 U H2 x y v u Q I2 rx ry q) hm
def Vf(t:TE):TT:=λU H Q=>t U H λx H'=>∃k,x=.v k/\Q k H'
theorem VF(ho:OpR X (compareOp op) r)(ha:PE X a ta)(hb:PE X b tb)(hm:behindInMarks op b=false):PT X (.Compare a [op] [b] pos) (Vf (tOp r ta tb)):=by intro aa s U H Q I h;refine wpAny_isTrue_Compare1 (thn (ha aa s U H _ I h) λv s1 ⟨x,H1,I1,r1,q1⟩=>thn (hb aa s1 U H1 _ I1 q1) λu s2 ⟨y,H2,I2,r2,q2⟩ =>thn (ho aa s2 U H2 x y v u _ I2 r1 r2 q2) λc s3 ⟨z,H3,I3,r3,k,e,q3⟩=>?_) hm;subst e;cases r3;exact wpAny_truthy_bool ⟨H3,I3,q3⟩
def Ny(r r':R2)(ta tb tc:TE):TE:=λU H Q=>ta U H λx H1=>tb U H1 λy H2=>r x y H2 λz H3=>∃k,z=.v k /\
 (if k=true then tc U H3 λw' H4=>r' y w' H4 Q else Q (.v false) H3)
theorem QX(ho:OpR X (compareOp op) r)(bz:OpR X (compareOp op') r')(ha:PE X a ta)(hb:PE X b tb)(hc:PE X c tc)
  (hm:lastMarks [op,op'] [b,c]=false:=by with_unfolding_all rfl):PT X (.Compare a [op,op'] [b,c] pos) (Vf (Ny r r' ta tb tc)):=by
 intro aa s U H Q I h;refine isTrue_chain (thn (ha aa s U H _ I h) λv s1 ⟨x,H1,I1,r1,q1⟩=>test_link (thn (hb aa s1 U H1 _ I1 q1) λu s2 ⟨y,H2,I2,r2,q2⟩ =>thn (ho aa s2 U H2 x y v u _ I2 r1 r2 q2) λd s3 ⟨z,H3,I3,r3,k,e,q3⟩=>?_)) hm;subst e;cases r3;refine wpAny_truthy_bool ?_;cases k with|false =>obtain⟨k',e',q'⟩:=q3;cases e';exact ite_ff ⟨H3,I3,q'⟩|true =>refine ite_tt (test_last (thn (hc aa s3 U H3 _ I3 q3) λw' s4 ⟨z',H4,I4,r4,q4⟩=>thn (bz aa s4 U H4 y z' u w' _ I4 r2 r4 q4) λd' s5 aj=>?_));obtain⟨z2,H5,I5,r5,k2,e2,q5⟩:= aj;subst e2;cases r5;exact wpAny_truthy_bool ⟨H5,I5,q5⟩
def TruV(K:Fg)(x:V)(H:Hp)(k:Bool):Prop :=
 match x with|.l=>k=false|.v b=>k=b|.int i=>k=(i !=0)|.str y=>y.length<=sizeLine/\k=((y.length:Int)!=0)|.zA y=>y.size<=sizeLine/\k=((y.size:Int)!=0)|.ref p=>(∃xs,SqL K H p xs/\k=!xs.isEmpty)\/(∃xs,SqT K H p xs/\k=!xs.isEmpty)\/∃af,H p=some (.n af)/\k=!af.isEmpty|_=>False
theorem MJ(r:KV af vs):(!vs.isEmpty)=!af.isEmpty:=by cases r<;>rfl
theorem Hf(r:Vals xs its):(!its.toArray.isEmpty)=!xs.isEmpty:=by cases r<;>simp
theorem Hc:(sizeLine:Nat)<2^63:=by rw[sizeLine_eq];decide
theorem YX:TruR X (λx H Q=>∃k,TruV X.K x H k/\Q k H):=by
 intro aa s U H x v Q I rx h;obtain⟨k,e,q⟩:=h;have hs:=sizeLine_eq;cases x with
 |l =>cases rx;have e':=e;subst e';exact truthy_none ⟨H,I,q⟩
 |v b =>cases rx;have e':k=b:=e;subst e';exact wpAny_truthy_bool ⟨H,I,q⟩
 |int i =>obtain⟨t,rfl⟩:=rx;have e':=e;subst e';exact PySem.P.truthy_int ⟨H,I,q⟩
 |str y =>obtain⟨t,rfl⟩:=rx;obtain⟨hy,e'⟩:y.length<=sizeLine/\k=((y.length:Int)!=0):=e;subst e';exact PySem.P.truthy_str (by lia) ⟨H,I.tok _,q⟩
 |zA y =>obtain⟨t,rfl⟩:=rx;obtain⟨hy,e'⟩:y.size<=sizeLine/\k=((y.size:Int)!=0):=e;subst e';exact PySem.W.truthy_bytes (by lia) ⟨H,I.tok _,q⟩
 |ref p =>
  cases rx;have e':=e;rcases e' with⟨xs,hx,e'⟩|⟨xs,hx,e'⟩|⟨af,hx,e'⟩
  .subst e';obtain⟨its,r,pl,hz⟩:=I.list hx;have hlen:=r.length;exact wpAny_truthy_list pl.isList (by simp only[nV];lia) ⟨H,I.tok _,by rwa[Hf r]⟩
  .subst e';obtain⟨its,r,pl,hz⟩:=I.tuple hx;have hlen:=r.length;exact truthy_tuple pl (by simp only[nV];lia) ⟨H,I.tok _,by rwa[Hf r]⟩
  .subst e';obtain⟨hz,hS,vs,r,m⟩:af.length<=sizeLine/\(p==sysModules)=false/\∃vs,KV af vs/\s.heap.DictOf (A4 X.prog X.w) p vs:=I.z9 p _ hx;have hlen:=Paired.length r;exact wpAny_truthy_dict hS m (by lia) ⟨H,I.tok _,by rwa[MJ r]⟩
 |_=>exact(show False from e).elim
theorem Ln(ha:PE X a ta)(he:∀aO,isTrue a X.env aO=(do let v <- aO;standAt a.pos;holding [v] (truthy v))):
  PT X a (λU H Q=>ta U H λx H'=>∃k,TruV X.K x H' k/\Q k H'):=by
 intro aa s U H Q I h;exact isTrue_plain (thn (ha aa s U H _ I h) λv s1 ⟨x,H1,I1,r1,q1⟩=>YX aa s1 U H1 x v Q I1 r1 q1) (he _)
theorem MA:OpR X (binaryOp .Add) (λx y H Q=>∃i j,x=.str i/\y=.str j/\i.length+j.length<=sizeLine/\Q (.str (i++j)) H):=by intro aa s U H x y v u Q I rx ry h;obtain⟨i,j,rfl,rfl,hz,q⟩:=h;obtain⟨t,rfl⟩:=rx;obtain⟨t',rfl⟩:=ry;exact add_str (λt' tk=>⟨.str (i++j),H,I.tok _,⟨_,rfl⟩,q⟩) hz
theorem vals1(r:Vals [x] us):∃u,us=[u]/\RelV x u:=by cases r with|cons r1 r2=>cases r2;exact⟨_,rfl,r1⟩
theorem vals2(r:Vals [x,y] us):∃u w',us=[u,w']/\RelV x u/\RelV y w':=by cases r with|cons r1 r2 =>cases r2 with|cons r3 r4=>cases r4;exact⟨_,_,rfl,r1,r3⟩
theorem P0(hc:X.calm=true):BK X (.builtin "max") (λxs H Q=>∃i j,xs=[.int i,.int j]/\Q (.int (if j>i then j else i)) H):=by
 intro aa s U H xs us Q I r h;obtain⟨i,j,rfl,q⟩:=h;obtain⟨u,w',rfl,⟨t,rfl⟩,⟨t',rfl⟩⟩:=vals2 r;refine max_two_ints (I.ok.hd hc) λh' tk k=>⟨_,H,I.kept k,?_,q⟩
 by_cases hj:j>i
 .rw[if_pos hj,if_pos hj];exact⟨_,rfl⟩
 .rw[if_neg hj,if_neg hj];exact⟨_,rfl⟩
theorem PZ(hc:X.calm=true):BK X (.builtin "min") (λxs H Q=>∃i j,xs=[.int i,.int j]/\Q (.int (if j<i then j else i)) H):=by
 intro aa s U H xs us Q I r h;obtain⟨i,j,rfl,q⟩:=h;obtain⟨u,w',rfl,⟨t,rfl⟩,⟨t',rfl⟩⟩:=vals2 r;refine min_two_ints (I.ok.hd hc) λh' tk k=>⟨_,H,I.kept k,?_,q⟩
 by_cases hj:j<i
 .rw[if_pos hj,if_pos hj];exact⟨_,rfl⟩
 .rw[if_neg hj,if_neg hj];exact⟨_,rfl⟩
theorem P1:BK X (.type "int") (λxs H Q=>(∃i,xs=[.int i]/\Q (.int i) H)\/∃k,xs=[.v k]/\Q (.int (if k then 1 else 0)) H):=by
 intro aa s U H xs us Q I r h;rcases h with⟨i,rfl,q⟩|⟨k,rfl,q⟩
 .obtain⟨u,rfl,t,rfl⟩:=vals1 r;exact call_int_int ⟨.int i,H,I,⟨_,rfl⟩,q⟩
 .obtain⟨u,rfl,r1⟩:=vals1 r;cases r1;exact call_int_bool ⟨.int (if k then 1 else 0),H,I.tok _,⟨_,rfl⟩,q⟩
structure Ye(h:Heap)(x dx C:Addr)(mA:Zsv):Prop where
 obj:h.get? x=some (instObj C dx)
 ns:h.Ns1 dx mA
 ne:dx≠x
meta theorem Oz{h:Heap}(n:h.Ns1 dx mA):∃od,h.get? dx=some od/\∀name,lookIn name od=some (mA name):=by
 obtain⟨o,es,ep,ho,hd,hk,_,hm⟩:=n;refine⟨o,ho,λname=>?_⟩;have e:=hm name;unfold nsFind findBy at e;rw[<- Array.find?_toList]at e;unfold lookIn;rw[hd];dsimp only;split
 next y q=>rw[q]at e;exact congrArg some e
 .rename_i q;rw[q]at e;have a:es.toList.any (·.refKey)=false:=by rw[qA];intro y hy;obtain⟨z,t,iy⟩:=hk y (Array.mem_toList_iff.mp hy);simp[DictEntry.refKey,iy]
  have a':¬es.toList.any (·.refKey)=true:=by rw[a];exact oz
  rw[if_neg a'];exact congrArg some e
theorem Ye.look(I:Ye h x dx C mA):∃od,PySem.W.InstAt h x (instObj C dx) C (some od)/\∀name,lookIn name od=some (mA name) :=
 let⟨od,ho,hl⟩:=Oz I.ns
 ⟨od,⟨I.obj,rfl,rfl,ho⟩,hl⟩
variable{prog:Program}{w:World}{A:Around}{K:Fg}{x dx C f:Addr}{mA:Zsv}{name:Str}{v:Value}
theorem get_map(X:K.In s.heap)(I:Ye s.heap x dx C mA)(hg:plainGet K C name=true)(hh:hasDictIn K C=true)
  (ha:findIn K (.ref C) name=some none) (hv:mA name=some v) (lM:handedIn v=true) (h:Q v {s with toks:=s.toks+1}) :
  wpAny (model prog w) A (getAttr (.ref x) name expr) Q E s:=by
 obtain⟨od,J,hl⟩:=I.look;exact PySem.W.get_value X J (plainGet_of hg).1 (PySem.W.findObj_own hh ha rfl (by rw[hl,hv])) lM h
theorem R3(X:K.In s.heap)(I:Ye s.heap x dx C mA)(hg:plainGet K C name=true)
  (hf:findIn K (.ref C) name=some (some (.ref f))) (ht:isFn K (.ref f)=true) (hv:mA name=none) (h:Q (.ref f,[.ref x]) s) :
  wpAny (model prog w) A (getMethod (.ref x) name pl) Q E s:=by
 obtain⟨od,J,hl⟩:=I.look;exact PySem.W.method_fn X J (plainGet_of hg).1 (plainGet_of hg).2 hf (beq_iff_eq.mp ht) (by show(lookIn name od).map (·.isSome)=some false;rw[hl,hv];rfl) h
theorem Vt(X:K.In s.heap)(I:Ye s.heap x dx C mA)
  (hs:findIn K (.ref C) "__setattr__"=some (some (.builtin "object.__setattr__"))) (hp:plainOver K C=true) (ht:takerIn K C name=some none) (hh:hasDictIn K C=true)
  (hw:PySem.Within mA ns) (hsz:ns.length<=sizeLine)
  (h:∀h',Ye h' x dx C (λy=>if y=name then some v else mA y)->Heap.SameBut dx s.heap h'->Q () {s with heap:=h',toks:=s.toks+2}) :
  wpAny (model prog w) A (setAttr (.ref x) name v) Q E s:=by
 obtain⟨od,J,hl⟩:=I.look;refine PySem.W.set_plain X J hs (PySem.W.osa_open X J hp ht λb=>?_);obtain⟨cd,hc,ba⟩:=PySem.W.any_some hh;have hx:=I.obj;refine nM (nW (nM (nM (wpAny_loadPart hx (nM (PySem.W.Looks.here (PySem.W.looks_clsIn X hc) ?_))))));rw[ba];refine nW (nM (nW (nM ?_)));refine wpAny_nsSet1 I.ns λh' dm aR=>?_
 obtain⟨oD,nu,nt,ll,kW,kU⟩:=dm.count (PySem.Within.cons name v hw);refine nM (wpAny_lookBehind ll (by rw[kW];exact pastItsLine_dict (oB kU (by rw[n8];lia))) ?_);exact nW (h _ ⟨(aR.2 _ (Ne.symm I.ne)).trans I.obj,dm,I.ne⟩ aR)
theorem Rx(X:K.In s.heap)(hm:makesIn K C=true)
  (hi:findIn K (.ref C) "__init__"=some (some (.ref f))) (hf:PySem.W.typeIn K (.ref f)=some (.type "function"))
  (h:codeAny (model prog w) (A.under (.builtin "type.__call__" ⟨.ref C::vs,kw⟩)) (.call (.ref f) ⟨.ref (s.heap.objs.size+1)::vs,kw⟩) (PySem.W.InitBack (s.heap.objs.size+1) R)
   {s with heap:=(s.heap.push emptyDict).push (instObj C s.heap.objs.size)}) :
  codeAny (model prog w) A (.call (.ref C) ⟨vs,kw⟩) R s:=by
 exact PySem.W.make_core (PySem.W.makes_of X hm) (PySem.W.looks_findIn X hi) (λself=>PySem.W.bind_fn X self hf) (.inl rfl) h
def Fj(f:Str)(v:V):List (Str×V)->List (Str×V)
 | []=>[(f,v)]
 |(g,x)::r=>if g=f then(g,v)::r else(g,x)::Fj f v r
theorem F7(f g:Str)(v:V):∀fs:List (Str×V),(Fj f v fs).lookup g=if g=f then some v else fs.lookup g
 | []=>by
  show List.lookup g [(f,v)]=_;by_cases h:g=f
  .have hb:=beq_iff_eq.mpr h;simp only[List.lookup,hb,if_pos h]
  .have hb:=beq_eq_false_iff_ne.mpr h;simp only[List.lookup,hb,if_neg h]
 |(k,x)::r=>by
  have ih:=F7 f g v r;rw[show Fj f v ((k,x)::r)=(if k=f then(k,v)::r else(k,x)::Fj f v r)from rfl];by_cases hk:k=f
  .rw[if_pos hk];by_cases h:g=k
   .have hb:=beq_iff_eq.mpr h;simp only[List.lookup,hb,if_pos (h.trans hk)]
   .have hb:=beq_eq_false_iff_ne.mpr h;simp only[List.lookup,hb,if_neg (λe:g=f=>h (e.trans hk.symm))]
  .rw[if_neg hk];by_cases h:g=k
   .have hb:=beq_iff_eq.mpr h;simp only[List.lookup,hb,if_neg (λe:g=f=>hk (h.symm.trans e))]
   .have hb:=beq_eq_false_iff_ne.mpr h;simp only[List.lookup,hb];exact ih
theorem Gb(f:Str)(v:V):∀fs:List (Str×V),f∈(Fj f v fs).map (·.1)/\∀g,g∈fs.map (·.1)->g∈(Fj f v fs).map (·.1)
 | []=>⟨by simp[Fj],λg h=>by simp at h⟩
 |(k,x)::r=>by
  obtain⟨i1,i2⟩:=Gb f v r;rw[show Fj f v ((k,x)::r)=(if k=f then(k,v)::r else(k,x)::Fj f v r)from rfl];by_cases hk:k=f
  .rw[if_pos hk];subst hk;exact⟨by simp,λg h=>by simpa using h⟩
  .rw[if_neg hk];refine⟨?_,λg h=>?_⟩
   .rw[nQ];exact nZ _ i1
   .rw[nQ]at h ⊢;rcases oh.mp h with e|e
    .exact oh.mpr (.inl e)
    .exact nZ _ (i2 g e)
theorem Ga(f:Str)(v:V):∀fs:List (Str×V),(Fj f v fs).length<=fs.length+1
 | []=>by simp[Fj]
 |(k,x)::r=>by
  have ih:=Ga f v r;rw[show Fj f v ((k,x)::r)=(if k=f then(k,v)::r else(k,x)::Fj f v r)from rfl];by_cases hk:k=f
  .rw[if_pos hk,n8,n8];lia
  .rw[if_neg hk,n8,n8];lia
theorem A6.some_of{v}(r:A6 (some v) o):∃u,o=some u/\RelV v u:=by cases o with|none=>exact(show False from r).elim|some u=>exact⟨u,rfl,r⟩
theorem A6.none_of(r:A6 none o):o=none:=by cases o with|none=>rfl|some u=>exact(show False from r).elim
theorem O0{u}{v}(r:RelV v u):handedIn u=true:=by cases v with|l=>cases(show u=Value.none from r);rfl|v b=>cases(show u=Value.bool b from r);rfl|int i=>obtain⟨t,e⟩:=(show ∃t,u=Value.int i t from r);cases e;rfl|str x=>obtain⟨t,e⟩:=(show ∃t,u=Value.str x t from r);cases e;rfl|zA b=>obtain⟨t,e⟩:=(show ∃t,u=Value.bytes b t from r);cases e;rfl|yP b=>obtain⟨t,e⟩:=(show ∃t,u=Value.float b t from r);cases e;rfl|ref a=>cases(show u=Value.ref a from r);rfl|ty n=>cases(show u=Value.type n from r);rfl
theorem HX(z9:HOk P w H h)(e:H a=some (.ins C dx fs)):∃mA,Ye h a dx C mA/\(∀f,A6 (fs.lookup f) (mA f))/\PySem.Within mA (fs.map (·.1))/\fs.length<=1000/\H dx=some (.own a):=by
 obtain⟨d,z,ne,ob,mA,n,r,q⟩:=(show A0 P w H h a (.ins C dx fs)from z9 a _ e)
 exact⟨mA,⟨ob,n,ne⟩,r,q,z,d⟩
structure Cls(K:Fg)(C:Addr):Prop where
 pg:plainGet K C Str.empty=true
 hd:hasDictIn K C=true
 po:plainOver K C=true
 sa:findIn K (.ref C) "__setattr__"=some (some (.builtin "object.__setattr__"))
theorem Cls.get(c:Cls K C)(f:Str):plainGet K C f=true:=c.pg
def AH(K:Fg)(C:Addr)(f:Str):Prop:=findIn K (.ref C) f=some none
theorem AH.taker{f}(n:AH K C f):takerIn K C f=some none:=by unfold takerIn;rw[show findIn K (.ref C) f=some none from n];rfl
structure Meth(K:Fg)(C:Addr)(m:Str)(f:Addr):Prop where
 at_:findIn K (.ref C) m=some (some (.ref f))
 fn:isFn K (.ref f)=true
 kp:keepIn K (.ref f)=true
theorem Hh{fs}{f}{v}(I:Inv X aa U H s)(e:H a=some (.ins C dx fs))(c:Cls X.K C)(n:AH X.K C f)(l:fs.lookup f=some v)
  (h:∀u s',Inv X aa U H s'->RelV v u->Q u s'):wpAny (model X.prog X.w) A (getAttr (.ref a) f b) Q E s:=by
 obtain⟨mA,O,r,_,_,_⟩:=HX I.z9 e;obtain⟨u,hu,ru⟩:=A6.some_of (by rw[<- l];exact r f);exact get_map I.kIn O (c.get f) c.hd n hu (O0 ru) (h u _ (I.tok _) ru)
theorem Hg(I:Inv X aa U H s)(e:H a=some (.ins C dx fs))(c:Cls X.K C)(k:Meth X.K C m g)(l:fs.lookup m=none)
  (h:Q (.ref g,[.ref a]) s):wpAny (model X.prog X.w) A (getMethod (.ref a) m pl) Q E s:=by
 obtain⟨mA,O,r,_,_,_⟩:=HX I.z9 e;have hn:=A6.none_of (by rw[<- l];exact r m);exact R3 I.kIn O (c.get m) k.at_ k.fn hn h
theorem G3{f}{u}(I:Inv X aa U H s)(e:H a=some (.ins C dx fs))(c:Cls X.K C)(n:AH X.K C f)(hl:fs.length<1000)(ry:RelV y u)
  (h:∀s',Inv X aa U (upd H a (.ins C dx (Fj f y fs))) s'->Q () s'):wpAny (model X.prog X.w) A (setAttr (.ref a) f u) Q E s:=by
 obtain⟨mA,O,r,wi,_,ho⟩:=HX I.z9 e;have hz:(fs.map (·.1)).length<=sizeLine:=by rw[nX,sizeLine_eq];lia
 refine Vt I.kIn O c.sa c.po n.taker c.hd wi hz λh' O' sb=>h _ ?_
 have hd:∃o,h'.get? dx=some o:=let⟨o,_,_,e',_⟩:=O'.ns;⟨o,e'⟩;refine I.write (by rw[e];exact True.intro) (.inr ho) (λb q hb z=>(sb.2 b hb).trans z) hd ?_;refine⟨by rw[Al O.ne];exact ho,?_,O.ne,O'.obj,_,O'.ns,λg=>?_,λg hg=>?_⟩
 .have:=Ga f y fs;lia
 .show A6 ((Fj f y fs).lookup g) (if g=f then some u else mA g);rw[F7];by_cases q:g=f
  .rwa[if_pos q,if_pos q]
  .rw[if_neg q,if_neg q];exact r g
 .by_cases q:g=f
  .rw[q];exact(Gb f y fs).1
  .refine(Gb f y fs).2 g (wi g λz=>hg ?_);show(if g=f then some u else mA g)=none;rwa[if_neg q]
theorem Inv.made(I:Inv X aa U H s):Inv X aa U (upd (upd H s.heap.objs.size (.own (s.heap.objs.size+1))) (s.heap.objs.size+1) (.ins C s.heap.objs.size []))
  {s with heap:=(s.heap.push emptyDict).push (instObj C s.heap.objs.size)}:=by
 have e1:(s.heap.push emptyDict).get? s.heap.objs.size=some emptyDict:=n5 s.heap rfl;have e2:((s.heap.push emptyDict).push (instObj C s.heap.objs.size)).get? (s.heap.objs.size+1)=some (instObj C s.heap.objs.size):=by have:=n5 (s.heap.push emptyDict) (o:=instObj C s.heap.objs.size) rfl;rwa[o5]at this
 have e3:(s.heap.push emptyDict).Ns s.heap.objs.size (λ_=>none):=⟨emptyDict,#[],_,e1,rfl,(λe he=>absurd he (by simp)),λ_=>rfl⟩
 have I1:=I.laid (a:=s.heap.objs.size) (o:=.own (s.heap.objs.size+1)) (h':=s.heap.push emptyDict) (t':=s.toks) (λb u q=>nR _ q) (n9 _) ⟨_,e1⟩;refine I1.laid (a:=s.heap.objs.size+1) (o:=.ins C s.heap.objs.size []) (t':=s.toks) (λb u q=>nR _ q) (Nat.le_of_eq (o5 _ _)) ?_;have ne:s.heap.objs.size≠s.heap.objs.size+1:=oA (qE _);refine⟨by rw[Al ne,An],pf _,ne,e2,λ_=>none,(Heap.Ns1.of_empty e3).at λo q=>nR _ q,λ_=>True.intro,λy hy=>absurd rfl hy⟩
theorem X9{f}(hb:attributeBase e f env (eval e env)=eval e env)
  (h:wpAny (model prog w) A (eval e env) (λo aw=>wpAny (model prog w) A (getAttr o f true) Q E aw) E s):wpAny (model prog w) A (eval (.Attribute e f pos) env) Q E s :=
 Attribute_any_ h (by rw[arm_eval_Attribute,hb])
inductive FldP(K:Fg)(f:Str)(Q:VK)(x:V)(H1:Hp):Prop
 |mk (a C dx fs v:_) (h0:x=.ref a) (h1:H1 a=some (.ins C dx fs)) (h2:Cls K C) (h3:AH K C f) (h4:fs.lookup f=some v) (h5:Q v H1)
def tFld(K:Fg)(ta:TE)(f:Str):TE:=λU H Q=>ta U H (FldP K f Q)
def sFld(K:Fg)(ta tv:TE)(f:Str):TS:=λD U H=>tv U H λy H1=>ta U H1 λx H2=>∃a C dx fs,x=.ref a/\H2 a=some (.ins C dx fs)/\Cls K C/\AH K C f/\fs.length<1000 /\
 D.nx U (upd H2 a (.ins C dx (Fj f y fs)))
def InOp(X:Cx)(op:Operator)(rd:V->V->Hp->VK->Prop):Prop :=
 ∀(aa:Zao)(s:Shared)(U:St)(H:Hp)(x y:V)(u v:Value)(Q:VK),Inv X aa U H s->RelV x u->RelV y v->rd x y H Q->wpAny (model X.prog X.w) X.A (inplaceOp op u v) (EP X aa U Q) X.xe s
def Vw(K:Fg)(ta tv:TE)(rd:V->V->Hp->VK->Prop)(f:Str):TS:=λD U H=>ta U H λx H1=>∃a C dx fs v,x=.ref a/\H1 a=some (.ins C dx fs)/\Cls K C/\AH K C f/\fs.lookup f=some v /\
 tv U H1 λy H2=>rd v y H2 λz H3=>∃fJ ak,H3 a=some (.ins C fJ ak)/\ak.length<1000/\D.nx U (upd H3 a (.ins C fJ (Fj f z ak)))
theorem EO{f}(he:PE X e ta)(hb:Zab X.env e f):PE X (.Attribute e f pos) (tFld X.K ta f):=by intro aa s U H Q I h;refine X9 hb (thn (he aa s U H _ I h) λu s1 aj=>?_);obtain⟨x,H1,I1,rx,a,C,dx,fs,v,ex,ea,c,n,l,q⟩:= aj;subst ex;obtain rfl:u=Value.ref a:=rx;exact Hh I1 ea c n l λu' s2 I2 ru=>⟨v,H1,I2,ru,q⟩
theorem ZN{f}(ha:PE X o ta)(hv:PE X value tv)(hs:swapsWith value (some (.Attribute o f aP)) pos.line X.env=pure false):PS X (.Assign [.Attribute o f aP] value pos) (sFld X.K ta tv f):=by intro aa s U H D I h;refine plainObj_wpAny_Assign_Attribute (thn (hv aa s U H _ I h) λu s1 ⟨y,H1,I1,ry,q⟩=>thn (ha aa s1 U H1 _ I1 q) λov s2 aj=>?_) hs;obtain⟨x,H2,I2,rx,a,C,dx,fs,ex,ea,c,n,l,q2⟩:= aj;subst ex;obtain rfl:ov=Value.ref a:=rx;exact G3 I2 ea c n l ry λs3 I3=>⟨U,_,I3,q2⟩
theorem NV{f}(ha:PE X o ta)(hv:PE X value tv)(lu:InOp X op rd):PS X (.AugAssign (.Attribute o f tpos) op value pos) (Vw X.K ta tv rd f):=by
 intro aa s U H D I h;refine wpAny_AugAssign_AttributeAny (thn (ha aa s U H _ I h) λov s1 aj=>?_);obtain⟨x,H1,I1,rx,a,C,dx,fs,v,ex,ea,c,n,l,q⟩:= aj;subst ex;obtain rfl:ov=Value.ref a:=rx;refine Hh I1 ea c n l λu s2 I2 ru=>thn (hv aa s2 U H1 _ I2 q) λw3 s3 aj => ?_
 obtain⟨y,H2,I3,ry,q3⟩:= aj;refine thn (lu aa s3 U H2 v y u w3 _ I3 ru ry q3) λw4 s4 iI=>?_
 obtain⟨z,H3,I4,rz,fJ,ak,kB,l',q4⟩:= iI;exact G3 I4 kB c n l' rz λs5 I5=>⟨U,_,I5,q4⟩
def rSub:V->V->Hp->VK->Prop:=λx y H Q=>∃i j,x=.int i/\y=.int j/\Q (.int (i-j)) H
theorem JaN:InOp X .Sub rSub:=by
 rintro aa s U H x y u v Q I rx ry ⟨i,j,rfl,rfl,q⟩
 obtain⟨t,rfl⟩:=(show ∃t,u=Value.int i t from rx)
 obtain⟨t',rfl⟩:=(show ∃t',v=Value.int j t' from ry)
 exact isub_int ⟨.int (i-j),H,I.tok _,⟨_,rfl⟩,q⟩
variable{Q:Zcv}
inductive Md(K:Fg)(H:Hp):V->Value->Prop where
 |l:Md K H .l (.type "NoneType")
 |v (x:Bool):Md K H (.v x) (.type "bool")
 |int (i:Int):Md K H (.int i) (.type "int")
 |str (x:Str):Md K H (.str x) (.type "str")
 |yP (x:UInt64):Md K H (.yP x) (.type "float")
 |lst {a:Addr} {xs:List V} (e:H a=some (.lst xs)):Md K H (.ref a) (.type "list")
 |frz {a:Addr} {o:Obj} {xs:List V} (e:H a=some (.frz o (.lst xs))):Md K H (.ref a) (.type "list")
 |tup {a:Addr} {xs:List V} (e:H a=some (.tup xs)):Md K H (.ref a) (.type "tuple")
 |n {a:Addr} {af:List (Key×V)} (e:H a=some (.n af)):Md K H (.ref a) (.type "dict")
 |dT {a:Addr} {af:List (List Key×V)} (e:H a=some (.dT af)):Md K H (.ref a) (.type "dict")
 |ins {a C dx:Addr} {fs:List (Str×V)} (e:H a=some (.ins C dx fs)) (cl:Cls K C) (ha:findIn K (.ref C) "__class__"=some (some (.builtin "object.__class__")))
   (hn:specialIn K (.builtin "object.__class__") "__get__"=some (some (.builtin "getset_descriptor.__get__"))) (jN:takesIn K (.builtin "object.__class__")=some true)
   (hm:mroIn K C (.type "object")=some true):Md K H (.ref a) (.ref C)
theorem OR{x:V}{u t:Value}(I:Inv X aa U H s)(rx:RelV x u)(ty:Md X.K H x t)(e:kitOne X.K t c=some b)(h:∀tk,Q (.bool b) {s with toks:=tk}):
  wpAny (model X.prog X.w) A (call (.builtin "isinstance") [u,c]) Q E s:=by
 cases ty with
 |l=>cases(show u=Value.none from rx);exact kia_one PySem.W.kitx_none I.kIn True.intro e (λz=>nomatch z) h
 |v y=>cases(show u=Value.bool y from rx);exact kia_one PySem.W.kitx_bool I.kIn True.intro e (λz=>nomatch z) h
 |int i=>obtain⟨t,q⟩:=(show ∃t,u=Value.int i t from rx);cases q;exact kia_one PySem.W.kitx_int I.kIn True.intro e (λz=>nomatch z) h
 |str y=>obtain⟨t,q⟩:=(show ∃t,u=Value.str y t from rx);cases q;exact kia_one PySem.W.kitx_str I.kIn True.intro e (λz=>nomatch z) h
 |yP y=>obtain⟨t,q⟩:=(show ∃t,u=Value.float y t from rx);cases q;exact kia_one PySem.W.kitx_float I.kIn True.intro e (λz=>nomatch z) h
 |@lst a xs ea =>
  cases(show u=Value.ref a from rx);obtain⟨_,_,n,_,h1⟩:=(show A0 X.prog X.w H s.heap a (.lst xs)from I.z9 a _ ea)
  exact kia_one kitx_list I.kIn ⟨_,h1,rfl⟩ e (λz=>nomatch z) h
 |@frz a ob xs ea =>
  cases(show u=Value.ref a from rx);obtain⟨_,_,_,n,_,h1⟩:=(show A0 X.prog X.w H s.heap a (.frz ob (.lst xs))from I.z9 a _ ea)
  exact kia_one kitx_list I.kIn ⟨_,h1,rfl⟩ e (λz=>nomatch z) h
 |@tup a xs ea =>
  cases(show u=Value.ref a from rx);obtain⟨_,_,_,p⟩:=(show A0 X.prog X.w H s.heap a (.tup xs)from I.z9 a _ ea)
  obtain⟨o,h1,h2,_⟩:=p;exact kia_one PySem.W.kitx_tuple I.kIn ⟨o,h1,h2⟩ e (λz=>nomatch z) h
 |@n a af ea =>
  cases(show u=Value.ref a from rx);obtain⟨_,_,vs,_,p⟩:=(show A0 X.prog X.w H s.heap a (.n af)from I.z9 a _ ea)
  obtain⟨o,es,ep,h1,h2,_⟩:=p;exact kia_one kitx_dict I.kIn ⟨o,h1,h2.1⟩ e (λz=>nomatch z) h
 |@dT a af ea =>
  cases(show u=Value.ref a from rx);obtain⟨_,_,xs,_,o,es,ep,h1,h2,_⟩:=(show A0 X.prog X.w H s.heap a (.dT af)from I.z9 a _ ea)
  exact kia_one kitx_dict I.kIn ⟨o,h1,h2.1⟩ e (λz=>nomatch z) h
 |@ins a C dx fs ea cl ha hn jN hm =>cases(show u=Value.ref a from rx);obtain⟨mA,O,_⟩:=HX I.z9 ea;obtain⟨od,J,_⟩:=O.look;exact kia_one (PySem.W.kitx_own (cl.get _) cl.hd ha hn jN hm) I.kIn J e (λz=>nomatch z) h
structure C8(k:Nat)(A:Around):Prop where
 hd:A.handled=none
 dp:A.depth+3*k+5<recursionLimit
 un:A.units+16*k+200<cLine
theorem C8.mono(r:C8 k A)(h:j<=k):C8 j A:=⟨r.hd,by have:=r.dp;lia,by have:=r.un;lia⟩
theorem C8.deeper(r:C8 (k+1) A)(env:Env):C8 k (A.deeper env) :=
 ⟨r.hd,by have:=r.dp;show A.depth+1+3*k+5<_;lia,by have:=r.un;show A.units+3+16*k+200<_;lia⟩
theorem MF{us:List Value}{kw:List (Str×Value)}:(A.under (.builtin "type.__call__" ⟨.ref C::us,kw⟩)).depth=A.depth+1:=by first|rfl|simp[guardIds]
theorem MD{us:List Value}{kw:List (Str×Value)}:(A.under (.builtin "type.__call__" ⟨.ref C::us,kw⟩)).units=A.units+1:=by first|rfl|simp[Code.isFrame]
theorem C8.make(r:C8 (k+1) A)(C:Addr)(us:List Value)(kw:List (Str×Value)):C8 k (A.under (.builtin "type.__call__" ⟨.ref C::us,kw⟩)) :=
 ⟨r.hd,by have:=r.dp;rw[MF];lia,by have:=r.un;rw[MD];lia⟩
theorem C8.depth(r:C8 k A):A.depth<recursionLimit:=by have:=r.dp;lia
theorem C8.units(r:C8 k A):A.units+64<cLine:=by have:=r.un;lia
def Y4:TA:=λ_ H Q=>Q [] H
def Y9(ta:TE)(tr:TA):TA:=λU H Q=>ta U H λx H1=>tr U H1 λxs H2=>Q (x::xs) H2
theorem FV:PA X [] Y4:=λ_ _ _ _ H Q I h=>Calls.spliced_nil ⟨[],H,I,.nil,h⟩
theorem B5{t}(ha:PE X e te)(hr:PA X es t)(hs:Zsc X.env e es:=by rfl):PA X (e::es) (Y9 te t):=by
 intro pos aa s U H Q I h;rw[hs];refine Calls.spliced_cons (thn (ha aa s U H _ I h) λu s1 aj=>?_);obtain⟨x,H1,I1,r1,q1⟩:= aj;refine thn (hr pos aa s1 U H1 _ I1 q1) λus s2 aj => ?_
 obtain⟨xs,H2,I2,r2,q2⟩:= aj;exact⟨x::xs,H2,I2,.cons r1 r2,q2⟩
def tTup(t:TA):TE:=λU H Q=>t U H λxs H1=>xs.length<=sizeLine/\∀p,H1 p=none->Q (.ref p) (upd H1 p (.tup xs))
def tLst(t:TA):TE:=λU H Q=>t U H λxs H1=>xs.length<=sizeLine/\∀p,H1 p=none->Q (.ref p) (upd H1 p (.lst xs))
theorem ZV{t}(h:PA X es t):PE X (.Tuple es x1 pos) (tTup t):=by intro aa s U H Q I hq;refine wpAny_Tuple_spliced (thn (h pos aa s U H _ I hq) λus s1 ⟨xs,H1,I1,r,z,q⟩=>⟨by rw[<- r.length];exact z,?_⟩);have hf:=I1.z9.fresh (n9 _);refine⟨.ref s1.heap.objs.size,upd H1 s1.heap.objs.size (.tup xs),I1.laid (λb u e=>nR _ e) (n9 _) ?_,rfl,q _ hf⟩;exact⟨z,us,r,⟨_,n5 _ rfl,rfl,_,rfl,rfl⟩⟩
theorem Ua{t}(h:PA X es t):PE X (.List es pos) (tLst t):=by intro aa s U H Q I hq;refine wpAny_List_spliced (thn (h pos aa s U H _ I hq) λus s1 ⟨xs,H1,I1,r,z,q⟩=>⟨by rw[<- r.length];exact z,?_⟩);have hf:=I1.z9.fresh (n9 _);refine⟨.ref s1.heap.objs.size,upd H1 s1.heap.objs.size (.lst xs),I1.laid (λb u e=>nR _ e) (n9 _) ?_,rfl,q _ hf⟩;exact⟨z,us,0,r,n5 _ rfl⟩
abbrev Sp:=List V->Hp->VK->XK->Prop
abbrev CXT:=List Env->Hp->Shared->XK->Value->Shared->Prop
structure Yg(P:Program)(w:World)(K:Fg)(mg:Zsv)(base:Heap)(A:Around)(outer:List Env)(s:Shared)(H:Hp):Prop where
 frames:A.frames=some outer
 mod:Mod K mg base
 bs:∀b o,base.get? b=some o->s.heap.get? b=some o/\H b=none
 zi:base.objs.size<=s.heap.objs.size
 LP:s.heap.FunFrames base outer
 yW:∀b∈frs outer,H b=none
 z9:HOk P w H s.heap
 bare:AllBare s.gens
inductive CE(outer:List Env)(P:Program)(w:World)(H:Hp)(s:Shared)(Q:VK)(u:Value)(s':Shared):Prop
 |mk (v:V) (H':Hp) (h0:s'.os=s.os) (h1:AllBare s'.gens) (h2:Un (frs outer) [] H H' s.heap s'.heap) (h3:HOk P w H' s'.heap) (h4:RelV v u) (h5:Q v H')
def CR(CX:CXT)(outer:List Env)(P:Program)(w:World)(H:Hp)(s:Shared)(Q:VK)(E:XK)(r:Result)(s':Shared):Prop :=
 match r with|.ok (.ret u)=>CE outer P w H s Q u s'|.ok _=>False|.error e=>CX outer H s E e s'
structure EY(P:Program)(w:World)(K:Fg)(mg:Zsv)(base:Heap)(CX:CXT)(k:Nat)(f:Addr)(fd:FuncData)(ps:List Str)(sp:Sp):Prop where
 len:∀vs H Q E,sp vs H Q E->vs.length=ps.length
 run:∀(A:Around)(outer:List Env)(s:Shared)(H:Hp)(args:Args)(us:List Value)(vs:List V)(Q:VK)(E:XK),C8 k A->Yg P w K mg base A outer s H->BindsTo s fd args (ps.zip us)->Vals vs us->sp vs H Q E ->
  codeAny (model P w) A (.call (.ref f) args) (CR CX outer P w H s Q E) s
theorem EY.imp{P:Program}{mg:Zsv}{base:Heap}{CX:CXT}{k:Nat}{fd:FuncData}{ps:List Str}{sp j3:Sp}(F:EY P w K mg base CX k f fd ps sp)
  (h:∀vs H Q E,j3 vs H Q E->sp vs H Q E):EY P w K mg base CX k f fd ps j3 :=
 ⟨λvs H Q E q=>F.len vs H Q E (h _ _ _ _ q),λA outer s H args us vs Q E hr he hb hv hs=>F.run A outer s H args us vs Q E hr he hb hv (h _ _ _ _ hs)⟩
theorem Yg.make{P:Program}{mg:Zsv}{base:Heap}{outer:List Env}(e:Yg P w K mg base A outer s H)(C:Addr)(us:List Value)(kw:List (Str×Value)):
  Yg P w K mg base (A.under (.builtin "type.__call__" ⟨.ref C::us,kw⟩)) outer s H:=⟨by first|exact e.frames|(simpa[pushEnvs]using e.frames),e.mod,e.bs,e.zi,e.LP,e.yW,e.z9,e.bare⟩
theorem Inv.env0(I:Inv X aa U H s):Yg X.prog X.w X.K X.mg X.base X.A X.stack s H :=
 ⟨I.ok.frames,I.ok.mod,I.bs,oB I.ok.zi I.sz,I.stack,I.Kg,I.z9,I.bare⟩
theorem Inv.after{Q}{u}(I:Inv X aa U H s)(h:CE X.stack X.prog X.w H s Q u s'):EP X aa U Q u s':=by obtain⟨v,H',os,bare,un,z9,r,q⟩:=h;obtain⟨hh,g,d,t,bo⟩:=s';obtain rfl:bo=s.os:=os;exact⟨v,H',I.call un z9 bare (λb z=>absurd z (by simp)),r,q⟩
def Vh(C:Addr)(m:Str)(sp:Sp)(cm:List V)(E:XK)(ta:TE)(t:TA):TE:=λU H Q=>ta U H λx H1=>∃a dx fs,x=.ref a/\H1 a=some (.ins C dx fs)/\fs.lookup m=none /\
 t U H1 λvs H2=>sp (x::(vs++cm)) H2 Q E
def Y7(C:Addr)(sp:Sp)(cm:List V)(E:XK)(t:TA):TE:=λU H Q=>t U H λvs H1=>∀x dx,H1 x=none->H1 dx=none->dx≠x ->
 sp (.ref x::(vs++cm)) (upd (upd H1 dx (.own x)) x (.ins C dx [])) (λv H2=>v=.l/\Q (.ref x) H2) E
def Binds(K:Fg)(fd:FuncData)(ps:List Str)(ds:List Value):Prop :=
 ∀(s:Shared)(us:List Value),K.In s.heap->(us++ds).length=ps.length->BindsTo s fd ⟨us,[]⟩ (ps.zip (us++ds))
theorem Binds.all{fd:FuncData}{ps:List Str}(h:∀us:List Value,us.length=ps.length->bindArgs fd ⟨us,[]⟩=pure (ps.zip us)):Binds K fd ps []:=λs us _ hl=>by rw[oN]at hl ⊢;exact .of_eq (h us hl)
def Passes(CX:CXT)(X:Cx)(E:XK):Prop:=∀(aa:Zao)(U:St)(H:Hp)(s:Shared)(e:Value)(s':Shared),Inv X aa U H s->CX X.stack H s E e s'->X.xe e s'
variable{k:Nat}
theorem Zn{E}{Q}(F:EY X.prog X.w X.K X.mg X.base CX k f fd ps sp)(hr:C8 k X.A)(hb:Binds X.K fd ps ds)(hd:Vals cm ds)(hx:Passes CX X E)
  (I:Inv X aa U H s) (r:Vals vs us) (h:sp (vs++cm) H Q E):wpAny (model X.prog X.w) X.A (call (.ref f) us) (EP X aa U Q) X.xe s:=by
 have r2:=r.append hd;have hl:(us++ds).length=ps.length:=by rw[<- r2.length];exact F.len _ _ _ _ h
 refine wpAny_call (codeAny_mono (F.run X.A X.stack s H ⟨us,[]⟩ (us++ds) (vs++cm) Q E hr I.env0 (hb s us I.kIn hl) r2 h) λr s' hq=>?_);cases r with|error e=>exact hx aa U H s e s' I hq|ok fl =>cases fl with|ret u=>exact I.after hq|next=>exact False.elim hq|brk=>exact False.elim hq|cont=>exact False.elim hq
theorem Rc{E}(he:PE X o ta)(c:Cls X.K C)(hm:Meth X.K C m f)(F:EY X.prog X.w X.K X.mg X.base CX k f fd ps sp)(hr:C8 k X.A)(hb:Binds X.K fd ps ds)(hd:Vals cm ds)(hx:Passes CX X E)
  (ht:eval (.Call (.Attribute o m aA) [] [] pos) X.env=(do
   let ov <- eval o X.env
   standAt aA.atName
   let(f,first) <- holding [ov] (getMethod ov m pl)
   callWith pos f first (backTo pos (starEach [] X.env)) (backToKw pos (keywordEach [] X.env))):=by rfl) :
  PE X (.Call (.Attribute o m aA) [] [] pos) (Vh C m sp cm E ta Y4):=by
 intro aa s U H Q I h;refine methodCall_KW (thn (he aa s U H _ I h) λu s1 aj=>?_) ht;obtain⟨x,H1,I1,rx,a,dx,fs,ex,ea,l,q⟩:= aj;subst ex;obtain rfl:u=Value.ref a:=rx;refine Hg I1 ea c hm l ?_;exact PySem.W.callWith_K0 I1.kIn hm.kp (Zn (vs:=[.ref a]) F hr hb hd hx I1 (.cons rfl .nil) q)
structure Mk(K:Fg)(C f:Addr):Prop where
 makes:makesIn K C=true
 init:findIn K (.ref C) "__init__"=some (some (.ref f))
 fn:isFn K (.ref f)=true
 kp:keepIn K (.ref C)=true
theorem QL{E}{Q}(M:Mk X.K C f)(F:EY X.prog X.w X.K X.mg X.base CX k f fd ps sp)(hr:C8 (k+1) X.A)(hb:Binds X.K fd ps ds)(hd:Vals cm ds)
  (hx:Passes CX X E) (I:Inv X aa U H s) (r:Vals vs us)
  (h:∀x dx,H x=none->H dx=none->dx≠x->sp (.ref x::(vs++cm)) (upd (upd H dx (.own x)) x (.ins C dx [])) (λv H2=>v=.l/\Q (.ref x) H2) E) :
  wpAny (model X.prog X.w) X.A (call (.ref C) us) (EP X aa U Q) X.xe s:=by
 have hq:=h (s.heap.objs.size+1) s.heap.objs.size (I.z9.fresh (Nat.le_succ _)) (I.z9.fresh (n9 _)) (oA (qE _));have I2:=Inv.made (C:=C) I;have r2:Vals (V.ref (s.heap.objs.size+1)::(vs++cm)) (Value.ref (s.heap.objs.size+1)::(us++ds)):=.cons rfl (r.append hd);have hl:=by have e:=r2.length;rw[F.len _ _ _ _ hq]at e;exact e.symm
 refine wpAny_call (Rx I.kIn M.makes M.init (beq_iff_eq.mp M.fn) (codeAny_mono (F.run _ X.stack _ _ ⟨Value.ref (s.heap.objs.size+1)::us,[]⟩ (Value.ref (s.heap.objs.size+1)::(us++ds)) _ _ E (hr.make C us [])
  (I2.env0.make C us []) (hb _ (Value.ref (s.heap.objs.size+1)::us) I2.kIn hl) r2 hq) λr s' fZ=>?_))
 cases r with|error e=>exact hx aa U _ _ e s' I2 fZ|ok fl =>cases fl with|ret u =>obtain⟨v,H',I3,rv,ev,q3⟩:=I2.after fZ;subst ev;exact⟨rv,⟨V.ref (s.heap.objs.size+1),H',I3,rfl,q3⟩⟩|next=>exact False.elim fZ|brk=>exact False.elim fZ|cont=>exact False.elim fZ
theorem VV{E}{t}{x}(M:Mk X.K C f)(F:EY X.prog X.w X.K X.mg X.base CX k f fd ps sp)(hr:C8 (k+1) X.A)(hg:Gl X x)(hm:X.mg x=some (.ref C))(hb:Binds X.K fd ps ds)(hd:Vals cm ds)(hx:Passes CX X E)
  (ha:PA X (e::es) t) (aQ:Zdb x:=by decide) (he:Zsc X.env e es:=by rfl) (aC:Zbt X.env pos es:=by rfl) :
  PE X (.Call (.Name x p) (e::es) [] pos) (Y7 C sp cm E t):=by
 intro aa s U H Q I h;refine wpAny_Call_Name_kw (EA I hg hm ?_ aQ);refine callWith_K I.ok.mod.yT M.kp (thn (ha pos aa s U H _ I h) λus s1 ⟨vs,H1,I1,r,q⟩=>⟨I1.kIn,?_⟩) he aC;exact QL M F hr hb hd hx I1 r q
def PK(X:Cx)(iP:List Keyword)(t:TA):Prop :=
 ∀(pos:Pos)(aa:Zao)(s:Shared)(U:St)(H:Hp)(Q:List V->Hp->Prop),Inv X aa U H s->t U H Q->wpAny (model X.prog X.w) X.A (evalAll ((backToKw pos (keywordEach iP X.env)).map (·.2))) (AP X aa U Q) X.xe s
theorem ZO:PK X [] Y4:=λ_ _ _ _ H Q I h=>wpAny_evalAll_nil ⟨[],H,I,.nil,h⟩
theorem VQ{t}(ha:PE X e te)(hr:PK X iP t):PK X (⟨nm,e,kpos⟩:: iP) (Y9 te t):=by
 intro pos aa s U H Q I h;refine wpAny_evalAll_cons (nM (thn (ha aa s U H _ I h) λu s1 ⟨x,H1,I1,r1,q1⟩=>nM (wpAny_standAt (nW ?_))));refine thn (hr pos aa s1 U H1 _ I1 q1) λus s2 aj => ?_
 obtain⟨xs,H2,I2,r2,q2⟩:= aj;exact⟨x::xs,H2,I2,.cons r1 r2,q2⟩
structure IE(N P:List Str)(sc:Scope):Prop where
 kind:sc.kind=.function
 co:sc.isCoroutine=false
 gen:sc.isGenerator=false
 nd:N.Nodup
 pre:N.take P.length=P
 par:∀x∈P,sc.names.lookup x=some .local\/sc.names.lookup x=some .cell
 yD:∀y∈sc.names,y.2≠.free
theorem JN{kindOf:Str->Option NameKind}{x:Str}:∀{binds:List (Str×Value)}{m:Zsv},(∀v,(x,v)∉binds)->bindL kindOf binds m x=m x
 | [],_,_=>rfl
 |(n,v)::r,m,h=>by
  unfold bindL;rw[JN λw hw=>h w (nZ _ hw)];split
  .have:x≠n:=by rintro rfl;exact h v n4
   simp[this]
  .rfl
theorem JP{kindOf:Str->Option NameKind}{x:Str}:∀{binds:List (Str×Value)}{m:Zsv},(∀v,(x,v)∉binds)->bindC kindOf binds m x=m x
 | [],_,_=>rfl
 |(n,v)::r,m,h=>by
  unfold bindC;rw[JP λw hw=>h w (nZ _ hw)];split
  .rfl
  .have:x≠n:=by rintro rfl;exact h v n4
   simp[this]
theorem JO{kindOf:Str->Option NameKind}{x:Str}:∀{P:List Str}{vs:List Value}{i:Nat}{m:Zsv},P.Nodup->P[i]?=some x->vs[i]?=some v->kindOf x=some .local ->
  bindL kindOf (P.zip vs) m x=some v
 | [],_,_,_,_,h,_,_=>by simp at h
 |_::_,[],_,_,_,_,h,_=>by simp at h
 |p::P,w::vs,0,m,nd,h1,h2,hk=>by simp at h1 h2;subst h1;subst h2;show bindL kindOf ((p,w)::P.zip vs) m p=_;unfold bindL;rw[JN λv hv=>(oK.mp nd).1 (qt hv).1,if_pos hk];simp
 |p::P,w::vs,i+1,m,nd,h1,h2,hk=>by unfold bindL;exact JO (i:=i) (oK.mp nd).2 (by simpa using h1) (by simpa using h2) hk
theorem JQ{kindOf:Str->Option NameKind}{x:Str}:∀{P:List Str}{vs:List Value}{i:Nat}{m:Zsv},P.Nodup->P[i]?=some x->vs[i]?=some v->kindOf x≠some .local ->
  bindC kindOf (P.zip vs) m x=some v
 | [],_,_,_,_,h,_,_=>by simp at h
 |_::_,[],_,_,_,_,h,_=>by simp at h
 |p::P,w::vs,0,m,nd,h1,h2,hk=>by simp at h1 h2;subst h1;subst h2;show bindC kindOf ((p,w)::P.zip vs) m p=_;unfold bindC;rw[JP λv hv=>(oK.mp nd).1 (qt hv).1,if_neg hk];simp
 |p::P,w::vs,i+1,m,nd,h1,h2,hk=>by unfold bindC;exact JQ (i:=i) (oK.mp nd).2 (by simpa using h1) (by simpa using h2) hk
def start(N:List Str)(vs:List V):St:=vs.map some++List.replicate (N.length-vs.length) none
def M0(CX:CXT)(P:Program)(w:World)(K:Fg)(mg:Zsv)(base:Heap)(N:List Str)(qual:Str)(scope:Scope)(f:Addr)(cd:Value)(A:Around)(outer:List Env)(s:Shared)(H:Hp)(E:XK):Cx where
 prog:=P
 w:=w
 K:=K
 mg:=mg
 base:=base
 A:=A.deeper (envOfC qual scope s.heap.objs.size f cd)
 N:=N
 zW:=s
 y0:=H
 env:=envOfC qual scope s.heap.objs.size f cd
 outer:=outer
 stack:=envOfC qual scope s.heap.objs.size f cd::outer
 ex:=[]
 calm:=true
 fn:=λ_=>true
 pn:=[]
 xe:=λe s'=>wpAny (model P w) (A.deeper (envOfC qual scope s.heap.objs.size f cd)) (leaving (envOfC qual scope s.heap.objs.size f cd) e) (λ_ iW=>CX outer H s E e iW) (λe' iW=>CX outer H s E e' iW) s'
theorem L4{sc:Scope}{n:Nat}{x:Str}(h:sc.names.lookup x=some .cell):∃c,(cellsFrom n sc.names []).lookup x=some c:=by have q:=PySem.W.cellsFrom_some sc.names n [] (.inl h);exact pK.mp q
theorem OT{CX:CXT}{P:Program}{mg:Zsv}{base:Heap}{N ps:List Str}{qual:Str}{scope:Scope}{cd:Value}{outer:List Env}{s1:Shared}{E:XK}{us:List Value}{vs:List V}
  (S:IE N ps scope) (hd:A.handled=none) (e0:Yg P w K mg base A outer s H) (hl:vs.length=ps.length) (r:Vals vs us)
  (x:InCallC s s.heap.objs.size (bindL (envOfC qual scope s.heap.objs.size f cd).kindOf (ps.zip us) λ_=>none) (cellsFrom (s.heap.objs.size+1) scope.names []) (bindC (envOfC qual scope s.heap.objs.size f cd).kindOf (ps.zip us) λ_=>none) s1) :
  Inv (M0 CX P w K mg base N qual scope f cd A outer s H E) [] (start N vs) H s1:=by
 have aC:ps.length<=N.length:=by have:=congrArg List.length S.pre;rw[oX]at this;lia
 obtain⟨h1,tk,rfl,hk⟩:=x.done;have gq:∀b:Addr,b∉(M0 CX P w K mg base N qual scope f cd A outer s H E).ex:=λb z=>absurd (show b∈([]:List Addr)from z) (by simp)
 refine⟨⟨e0.mod,S.kind,rfl,rfl,n9 _,λy z c h1 h2=>?_,λy hy=>?_,λy c _ h=>?_,λ_=>hd,Around.frames_deeper e0.frames,.inr ⟨rfl,rfl⟩,λb z=>absurd z (gq b),e0.bs,e0.zi,λb _ _=>gq b,λb z=>absurd z (gq b),e0.LP,e0.yW⟩,
  rfl,e0.bare,Un.kept hk,⟨_,x.toInCall.ns,λi y v h1 h2 h3=>?_⟩,λy c h=>⟨_,x.cell y c h⟩,e0.z9.fresh (n9 _),λy c h=>?_,λp hp=>absurd (show p∈([]:Zao)from hp) (by simp),e0.z9.kept hk,?_⟩
 .exact name_of_addr x.apart (PySem.mem_of_lookup h1) (PySem.mem_of_lookup h2)
 .have hy:scope.names.lookup y=some .cell\/scope.names.lookup y=some .free:=hy;rcases hy with hy|hy
  .exact L4 hy
  .exact absurd rfl (S.yD _ (PySem.mem_of_lookup hy))
 .exact Nat.le_of_lt (x.above y c (PySem.mem_of_lookup h))
 .have hi:i<vs.length:=by
   unfold start at h2;by_cases hi:i<vs.length
   .exact hi
   .rw[List.getElem?_append_right (by simpa using hi)]at h2;rw[List.getElem?_replicate]at h2;split at h2<;>cases (h2)
  have ha:vs[i]?=some v:=by unfold start at h2;rw[qw (by simpa using hi),ou]at h2;cases e:vs[i]? with|none=>rw[e]at h2;cases (h2)|some a=>rw[e]at h2;cases (h2);rfl
  obtain⟨u,hu,rv⟩:=r.get ha;have hp:ps[i]?=some y:=by rwa[<- S.pre,List.getElem?_take_of_lt (by lia)]
  have jX:ps.Nodup:=by rw[<- S.pre];exact S.nd.sublist (px _ _)
  refine⟨u,rv,?_⟩;rcases S.par y (pJ hp)with k|k
  .exact .inl ⟨k,JO jX hp hu k⟩
  .obtain⟨c,e⟩:=L4 (n:=s.heap.objs.size+1) k;refine .inr ⟨.inl k,c,e,?_⟩;have q:=x.cell y c e;rwa[JQ jX hp hu (by show scope.names.lookup y≠_;rw[k];decide)]at q
 .exact e0.z9.fresh (Nat.le_of_lt (x.above y c (PySem.mem_of_lookup h)))
 .unfold start;show _=N.length;rw[oi,nX,List.length_replicate]
  lia
variable{x:Str}{p pos:Pos}{e:Expr}{es:List Expr}{t:TA}{r:List V->Hp->VK->Prop}
section
variable{id:String}
def tCB(r:List V->Hp->VK->Prop)(t:TA):TE:=λU H Q=>t U H λvs H1=>r vs H1 Q
theorem Fl(hc:BK X (.builtin id) r)(hg:Gl X x)(hm:X.mg x=none)(hv:bootBuiltins x=some (.builtin id))(ha:PA X (e::es) t)(hn:x≠"__name__":=by decide)(aQ:Zdb x:=by decide)
  (he:Zsc X.env e es:=by rfl) (aC:Zbt X.env pos es:=by rfl):PE X (.Call (.Name x p) (e::es) [] pos) (tCB r t):=by
 intro aa s U H Q I h;refine wpAny_Call_Name_kw (Dh I hg hm hv ?_ hn aQ);exact PyProof.Rows.callWith_builtin1 (thn (ha pos aa s U H _ I h) λus s1 ⟨vs,H1,I1,r1,q1⟩=>hc aa s1 U H1 vs us Q I1 r1 q1) he aC
theorem N7(hc:BK X (.type T) r)(hg:Gl X x)(hm:X.mg x=none)(hv:bootBuiltins x=some (.type T))(ha:PA X (e::es) t)(hn:x≠"__name__":=by decide)(aQ:Zdb x:=by decide)
  (he:Zsc X.env e es:=by rfl) (aC:Zbt X.env pos es:=by rfl):PE X (.Call (.Name x p) (e::es) [] pos) (tCB r t):=by
 intro aa s U H Q I h;refine wpAny_Call_Name_kw (Dh I hg hm hv ?_ hn aQ);exact callWith_type1 (thn (ha pos aa s U H _ I h) λus s1 ⟨vs,H1,I1,r1,q1⟩=>hc aa s1 U H1 vs us Q I1 r1 q1) he aC
end
end Lake.L2
namespace HT
open PySem PyProof.Rows
section
open PySem.SeqAt
open PySem.AutoSeq1 (wpAny_loadPart')
open PySem.MeetsSeq PySem.MeetsSeq2 PySem.MeetsSeq3
end
variable{E:Zcv}
theorem X0(ht:IsTup s.heap t vs.toArray)(hb:IsTup s.heap b ws.toArray)(hv:vs≠[])
  (h1:ws=[]->Q (.ref t) s) (h2:ws≠[]->Q (.ref s.heap.objs.size) {s with heap:=s.heap.push {cls:=.type "tuple",data:=.seq (vs++ws).toArray} })
  (hsz:vs.length+ws.length<=sizeLine):wpAny (model prog w) A (binaryOp .Add (.ref t) (.ref b)) Q E s:=by
 obtain⟨⟨cls,dd,data,sl⟩,ho,hc,n,hd⟩:=id ht;obtain⟨⟨g7,fh,data2,du⟩,eT,bN,n2,hd2⟩:=id hb;subst hc hd bN hd2;have e:vs.toArray++ws.toArray=(vs++ws).toArray:=by simp
 by_cases hw:ws=[]
 .exact concat_meets ⟨_,ho,rfl⟩ ⟨_,eT,rfl⟩ noFill_tuple_add seq_tuple_add slot_tuple_add entry_tuple_add (args_tuple_add_2 _ _)
   (tuple_addW1 t b vs.toArray ws.toArray n n2 dd fh sl du (by simpa using hv) (by simp[hw])) ⟨ho,eT,h1 hw⟩
 .refine concat_meets ⟨_,ho,rfl⟩ ⟨_,eT,rfl⟩ noFill_tuple_add seq_tuple_add slot_tuple_add entry_tuple_add (args_tuple_add_2 _ _)
   (tuple_addW2 t b vs.toArray ws.toArray n n2 dd fh sl du (by simpa using hv) (by simpa using hw) (by rwa[nV,nV])) ⟨ho,eT,?_⟩
  rw[e];exact h2 hw
def sIx(n d:Nat):Option Int->Nat
 |none=>d
 |some v=>if v<0 then(v+(n:Int)).toNat else min v.toNat n
theorem sIx_le(n d:Nat)(hd:d<=n)(o:Option Int):sIx n d o<=n:=by
 cases o with
 |none=>exact hd
 |some v =>
  show(if v<0 then(v+(n:Int)).toNat else min v.toNat n)<=n;by_cases hv:v<0
  .rw[if_pos hv];lia
  .rw[if_neg hv];exact Nat.min_le_right _ _
theorem PU(v:Int)(n d:Nat):(if v<0 then max (v+(n:Int)) 0 else min v (n:Int))=((sIx n d (some v):Nat):Int):=by
 show(if v<0 then max (v+(n:Int)) 0 else min v (n:Int))=(((if v<0 then(v+(n:Int)).toNat else min v.toNat n):Nat):Int);by_cases hv:v<0
 .simp only[if_pos hv];lia
 .simp only[if_neg hv];lia
theorem Nb(lo hi:Option Int)(n:Nat):Builtin.Slice.sliceAdjust lo hi 1 (n:Int)=(((sIx n 0 lo:Nat):Int),((sIx n n hi:Nat):Int)):=by
 have h1:¬((1:Int)<0):=by lia
 unfold Builtin.Slice.sliceAdjust;refine Prod.ext ?_ ?_
 .cases lo with|none=>rfl|some v=>exact PU v n 0
 .cases hi with|none=>rfl|some v=>exact PU v n n
theorem Mz(i j:Nat):Builtin.Slice.slicePlaces (i:Int) (j:Int) 1=j-i:=by unfold Builtin.Slice.slicePlaces;split<;>lia
theorem G2(p:IsPart v o)(h:Q o s):wpAny (model prog w) A (Builtin.Slice.slicePartIndex v) Q E s:=by cases p with|none=>exact slicePart_none h|int i t=>exact slicePart_int h
theorem C3{sl:Addr}{vl vu:Value}{lo hi:Option Int}{n:Nat}{Q:Int×Int×Nat->Shared->Prop}(hs:s.heap.IsSliceOf sl vl vu .none)(pl:IsPart vl lo)(pu:IsPart vu hi)
  (h:Q (((sIx n 0 lo:Nat):Int),1,sIx n n hi-sIx n 0 lo) s):wpAny (model prog w) A (Builtin.Slice.sliceApplied (.ref sl) (pure (n:Int))) Q E s:=by
 obtain⟨os,eU,fq,fQ⟩:=id hs;refine nM (nM (oW eU fQ (x:=vl) rfl (nM (oW eU fQ (x:=vu) rfl (nM (oW eU fQ (x:=.none) rfl (nW ?_)))))));refine nM (slicePart_none ?_);refine nM (G2 pl (nM (G2 pu (nM (nW ?_)))));show wpAny _ _ (match Builtin.Slice.sliceAdjust lo hi 1 (n:Int)with|(lo,hi)=>pure (lo,(1:Int),Builtin.Slice.slicePlaces lo hi 1)) _ _ s;rw[Nb lo hi n];show wpAny _ _ (pure (((sIx n 0 lo:Nat):Int),(1:Int),Builtin.Slice.slicePlaces ((sIx n 0 lo:Nat):Int) ((sIx n n hi:Nat):Int) 1)) _ _ s;rw[Mz];exact nW h
theorem Q6(xs:Array Value)(i k:Nat):((List.range k).filterMap λ(m:Nat)=>xs[((i:Int)+(m:Int)*1).toNat]?).toArray=((xs.toList.drop i).take k).toArray:=by
 have e:(λ(m:Nat)=>xs[((i:Int)+(m:Int)*1).toNat]?)=λm=>xs[i+m]?:=by
  funext m;have:((i:Int)+(m:Int)*1).toNat=i+m:=by lia
  rw[this]
 rw[e];have:=pick_run xs i k;rw[List.filterMap_map]at this;have e2:((λx=>xs[x]?)∘λx=>i+x)=λm=>xs[i+m]?:=rfl
 rw[e2]at this;rw[this]
theorem EC{t sl:Addr}{items:Array Value}{vl vu:Value}{lo hi:Option Int}{Q:Zcv}(ht:IsTup s.heap t items)(hs:s.heap.IsSliceOf sl vl vu .none)(pl:IsPart vl lo)(pu:IsPart vu hi)
  (hw:¬(sIx items.size 0 lo=0/\sIx items.size items.size hi=items.size))
  (h:Q (.ref s.heap.objs.size) {s with heap:=s.heap.push {cls:=.type "tuple",data:=.seq ((items.toList.drop (sIx items.size 0 lo)).take (sIx items.size items.size hi-sIx items.size 0 lo)).toArray} })
  (hsz:items.size<=sizeLine):wpAny (model prog w) A (getItem (.ref t) (.ref sl)) Q E s:=by
 have cc:sizeOk (.seq ((items.toList.drop (sIx items.size 0 lo)).take (sIx items.size items.size hi-sIx items.size 0 lo)).toArray):=by
  show((items.toList.drop (sIx items.size 0 lo)).take (sIx items.size items.size hi-sIx items.size 0 lo)).toArray.size<=sizeLine;rw[nV,oX,pX,pP]
  lia
 obtain⟨os,eU,fq,fQ⟩:=id hs;have kS:s.TypeIs (.ref sl) "slice":=⟨os,eU,fq⟩
 unfold getItem
 try with_reducible refine wpAny_holding ?_
 first|refine nM (nW ?_)|skip
 refine nM (wpAny_sequenceKey ht.typeIs (by decide) ?_);refine nM (wpAny_callSpecial?_slot (name:=Str.ofString "__getitem__") ht.typeIs slot_tuple_getitem
  (wpAny_call_entry slot_tuple_getitem ht.typeIs entry_tuple_getitem ?_ (args_tuple_getitem _ _)))
 show wpAny _ _ (Builtin.Tuple.tupleItemsOf (.ref t) >>= _) _ _ s;refine nM (tupleItemsOf_ ht ?_);refine nM (wpAny_typeOf kS ?_);refine nM (C3 hs pl pu ?_);have fX:¬((((sIx items.size 0 lo:Nat):Int)==0&&(1:Int)==1&&(sIx items.size items.size hi-sIx items.size 0 lo)==items.size)=true):=by intro q;rw[oy,oy]at q;have q1:((sIx items.size 0 lo:Nat):Int)=0:=eq_of_beq q.1.1;have q2:sIx items.size items.size hi-sIx items.size 0 lo=items.size:=eq_of_beq q.2;exact hw ⟨by lia,by lia⟩
 show wpAny _ _ (if(((sIx items.size 0 lo:Nat):Int)==0&&(1:Int)==1&&(sIx items.size items.size hi-sIx items.size 0 lo)==items.size)=true then _ else _) _ _ s;rw[if_neg fX,Q6]
 first
  |exact nM (m:=Builtin.Tuple.tupleExact _) (wpAny_newObj_type (nW ⟨_,rfl,nW h⟩) cc)
  |exact nM (m:=Builtin.Tuple.tupleExact _) (wpAny_newObj_type (nM (nW (nW ⟨_,rfl,nW h⟩))) cc)
  |exact nM (nM (m:=Builtin.Tuple.tupleExact _) (wpAny_newObj_type (nW (nW ⟨_,rfl,nW h⟩)) cc))
  |exact nM (nM (m:=Builtin.Tuple.tupleExact _) (wpAny_newObj_type (nW ⟨_,rfl,nW h⟩) cc))
end HT
namespace Lake.L2
open PySem PySem.Spec PyProof.Rows
abbrev TO:=St->Hp->(Option Int->Hp->Prop)->Prop
def PO(X:Cx)(e:Option Expr)(t:TO):Prop :=
 ∀(aa:Zao)(s:Shared)(U:St)(H:Hp)(Q:Option Int->Hp->Prop),Inv X aa U H s->t U H Q ->
  wpAny (model X.prog X.w) X.A (evalPart e X.env) (λu s'=>∃o H',Inv X aa U H' s'/\IsPart u o/\Q o H') X.xe s
def Vg:TO:=λ_ H Q=>Q none H
def tPart(t:TE):TO:=λU H Q=>t U H λx H1=>∃i,x=.int i/\Q (some i) H1
theorem intsAre_of:∀{us:List Value},Vals (ns.map V.int) us->IntsAre us ns:=by induction ns with|nil=>intro us r;rw[pF]at r;cases r;exact .nil|cons n ns ih =>intro us r;cases r with|cons r1 r2 =>obtain⟨t,e⟩:=r1;subst e;exact .cons n t (ih r2)
variable{X:Cx}{e:Expr}{te:TE}{lo hi:Option Expr}{tl th:TO}{pos p2:Pos}
theorem VO:PO X none Vg:=by intro aa s U H Q I h;exact nW ⟨none,H,I,.none,h⟩
theorem VN(h:PE X e te):PO X (some e) (tPart te):=by
 intro aa s U H Q I hw;refine thn (h aa s U H _ I hw) λu s1 aj=>?_
 obtain⟨x,H1,I1,r1,q1⟩:= aj;obtain⟨i,rfl,q⟩:=q1;obtain⟨t,rfl⟩:=r1;exact⟨some i,H1,I1,.int i t,q⟩
def SlR(X:Cx)(r:V->Option Int->Option Int->Hp->VK->Prop):Prop :=
 ∀(aa:Zao)(s:Shared)(U:St)(H:Hp)(x:V)(v vl vu:Value)(lo hi:Option Int)(sl:Addr)(Q:VK),Inv X aa U H s->RelV x v->s.heap.IsSliceOf sl vl vu .none->IsPart vl lo->IsPart vu hi->r x lo hi H Q ->
  ∃T id,typeLookup (.type T) "__getitem__"=pure (some (.builtin id))/\s.TypeIs v T/\wpAny (model X.prog X.w) X.A (getItem v (.ref sl)) (EP X aa U Q) X.xe s
theorem SlR.or(h:SlR X r)(h':SlR X r'):SlR X (λx lo hi H Q=>r x lo hi H Q\/r' x lo hi H Q):=by
 intro aa s U H x v vl vu lo hi sl Q I rx hs pl pu q;rcases q with q|q
 .exact h aa s U H x v vl vu lo hi sl Q I rx hs pl pu q
 .exact h' aa s U H x v vl vu lo hi sl Q I rx hs pl pu q
def tSl(r:V->Option Int->Option Int->Hp->VK->Prop)(te:TE)(tl th:TO):TE:=λU H Q=>te U H λx H1=>tl U H1 λl H2=>th U H2 λu H3=>r x l u H3 Q
theorem Rb{r:V->Option Int->Option Int->Hp->VK->Prop}(hr:SlR X r)(he:PE X e te)(hl:PO X lo tl)(hu:PO X hi th):PE X (.Subscript e (.Slice lo hi none p2) pos) (tSl r te tl th):=by
 intro aa s U H Q I h;refine Subscript_ (thn (he aa s U H _ I h) λv s1 aj=>?_);obtain⟨x,H1,I1,r1,q1⟩:= aj;refine wpAny_Slice (thn (hl aa s1 U H1 _ I1 q1) λvl s2 ⟨l,H2,I2,pl,q2⟩=>thn (hu aa s2 U H2 _ I2 q2) λvu s3 aj=>?_);obtain⟨u,H3,I3,pu,q3⟩:= aj;refine nW ?_;have I4:Inv X aa U H3 {s3 with heap:=s3.heap.push {cls:=.type "slice",data:=.fields #[vl,vu,.none]} }:=I3.kept (t':=s3.toks) λb ob q=>nR _ q
 obtain⟨T,id,hT,ht,hg⟩:=hr aa {s3 with heap:=s3.heap.push {cls:=.type "slice",data:=.fields #[vl,vu,.none]} } U H3 x v vl vu l u s3.heap.objs.size Q I4 r1 (Heap.IsSliceOf.new ..) pl pu q3;exact tail_any (ops:=[.ref s3.heap.objs.size,v]) ht hT hg (by with_unfolding_all rfl)
def XO(xs:List V)(lo hi:Option Int):List V:=(xs.drop (HT.sIx xs.length 0 lo)).take (HT.sIx xs.length xs.length hi-HT.sIx xs.length 0 lo)
theorem Gq(xs:List V)(lo hi:Option Int):(XO xs lo hi).length<=xs.length:=by
 unfold XO;rw[oX,pX]
 lia
def rSlT(K:Fg):V->Option Int->Option Int->Hp->VK->Prop:=λx lo hi H Q=>∃a xs,x=.ref a/\SqT K H a xs /\
 ¬(HT.sIx xs.length 0 lo=0/\HT.sIx xs.length xs.length hi=xs.length)/\∀p,H p=none->Q (.ref p) (upd H p (.tup (XO xs lo hi)))
theorem Zg:SlR X (rSlT X.K):=by
 intro aa s U H x v vl vu lo hi sl Q I rx hs pl pu h;obtain⟨a,xs,rfl,hx,hw,q⟩:=h;cases rx;obtain⟨its,r,ht,hz⟩:=I.tuple hx;have hlen:its.toArray.size=xs.length:=by rw[nV];exact r.length.symm
 refine⟨"tuple",_,PyProof.Rows.slot_tuple_getitem.lookup,ht.typeIs,?_⟩;refine HT.EC ht hs pl pu (by rwa[hlen]) ?_ (by rwa[hlen]);rw[hlen];refine⟨.ref s.heap.objs.size,_,I.laid (t':=s.toks) (o:=.tup (XO xs lo hi)) (λb ob q=>nR _ q) (n9 _) ?_,rfl,q _ (I.z9.fresh (n9 _))⟩;exact⟨oB (Gq xs lo hi) hz,_,(r.drop (HT.sIx xs.length 0 lo)).take (HT.sIx xs.length xs.length hi-HT.sIx xs.length 0 lo),PlT.new _ _⟩
def Zu(K:Fg):R2:=λx y H Q=>∃a b xs ys,x=.ref a/\y=.ref b/\SqT K H a xs/\SqT K H b ys/\xs≠[]/\xs.length+ys.length<=sizeLine /\
 (ys=[]->Q (.ref a) H)/\(ys≠[]->∀p,H p=none->Q (.ref p) (upd H p (.tup (xs++ys))))
theorem Vals.Kt(r:Vals xs us):us=[]↔xs=[]:=by cases r with|nil=>simp|cons _ _=>simp
theorem Wa:OpR X (binaryOp .Add) (Zu X.K):=by intro aa s U H x y v u Q I rx ry h;obtain⟨a,b,xs,ys,rfl,rfl,ha,hb,hx,hz,q1,q2⟩:=h;cases rx;cases ry;obtain⟨its,r1,p1,_⟩:=I.tuple ha;obtain⟨aU,r2,p2,_⟩:=I.tuple hb;refine HT.X0 p1 p2 (λz=>hx (r1.Kt.mp z)) (λz=>⟨.ref a,H,I,rfl,q1 (r2.Kt.mp z)⟩) (λz=>?_) (by rwa[<- r1.length,<- r2.length]);refine⟨.ref s.heap.objs.size,_,I.laid (λb ob q=>nR _ q) (n9 _) ?_,rfl,q2 (λw=>z (r2.Kt.mpr w)) _ (I.z9.fresh (n9 _))⟩;exact⟨by rw[oi];exact hz,_,r1.append r2,PlT.new _ _⟩
def ixN(n:Nat)(i:Int):Option Nat:=if 0<=i then(if i<n then some i.toNat else none)else if -(n:Int)<=i then some (i+n).toNat else none
def atI{α:Type}(xs:List α)(i:Int):Option α:=(ixN xs.length i).bind λj=>xs[j]?
theorem OO(h:ixN n i=some j):seqIndex? i n=some j/\j<n/\-(n:Int)<=i/\i<n:=by
 unfold ixN at h;by_cases h0:0<=i
 .rw[if_pos h0]at h;by_cases h1:i<n
  .rw[if_pos h1]at h;have e:=Option.some.inj h;exact⟨by rw[seqIndex_of h0 h1,e],by lia,by lia,h1⟩
  .rw[if_neg h1]at h;cases h
 .rw[if_neg h0]at h;by_cases h1:-(n:Int)<=i
  .rw[if_pos h1]at h;have e:=Option.some.inj h;exact⟨by rw[seqIndex_neg (by lia) h1,e],by lia,h1,by lia⟩
  .rw[if_neg h1]at h;cases h
theorem KZ(h:atI xs i=some v):∃j,seqIndex? i xs.length=some j/\xs[j]?=some v/\j<xs.length/\-(xs.length:Int)<=i/\i<xs.length:=by unfold atI at h;cases e:ixN xs.length i with|none=>rw[e]at h;cases h|some j =>rw[e]at h;obtain⟨h1,h2,h3,h4⟩:=OO e;exact⟨j,h1,h,h2,h3,h4⟩
theorem AZ{α:Type}{xs:List α}{j:Nat}{v:α}(h:xs[j]?=some v):atI xs (j:Int)=some v:=by
 have hj:j<xs.length:=(n6.mp h).1;have e:ixN xs.length (j:Int)=some j:=by unfold ixN;rw[if_pos (by lia),if_pos (by lia)];simp
 unfold atI;rwa[e]
def ID(b:Expr):Prop:=∀o i,subscripted b false o i=operate [o,i] (getItem o i)
def IxR(X:Cx)(r:R2):Prop :=
 ∀(value aD:Expr)(aa:Zao)(s:Shared)(U:St)(H:Hp)(x y:V)(v u:Value)(Q:VK),Inv X aa U H s->RelV x v->RelV y u->r x y H Q ->
  subscripted aD false v u=operate [v,u] (getItem v u)->wpAny (model X.prog X.w) X.A (subscriptTail value aD v u) (EP X aa U Q) X.xe s
def MtR(X:Cx)(id:String)(r:V->List V->Hp->VK->Prop):Prop :=
 ∀(aa:Zao)(s:Shared)(U:St)(H:Hp)(x:V)(xs:List V)(v:Value)(us:List Value)(Q:VK),Inv X aa U H s->RelV x v->Vals xs us->r x xs H Q ->
  wpAny (model X.prog X.w) X.A (call (.builtin id) (v::us)) (EP X aa U Q) X.xe s
variable{o:Expr}{es:List Expr}{to:TE}{name:Str}{aA ay:Pos}{T:String}{r:V->List V->Hp->VK->Prop}
section
theorem IxR.or{r}(h:IxR X r)(h':IxR X r'):IxR X (λx y H Q=>r x y H Q\/r' x y H Q):=by
 intro value aD aa s U H x y v u Q I rx ry q hs;rcases q with q|q
 .exact h value aD aa s U H x y v u Q I rx ry q hs
 .exact h' value aD aa s U H x y v u Q I rx ry q hs
theorem Z0{r}(hr:IxR X r)(ha:PE X a ta)(hb:PE X b tb)(hs:ID b):PE X (.Subscript a b pos) (tOp r ta tb):=by intro aa s U H Q I h;exact Subscript_ (binT ha hb I h λv u s2 x y H2 I2 rx ry q=>hr a b aa s2 U H2 x y v u Q I2 rx ry q (hs _ _))
inductive rIxL(K:Fg)(x:V)(y:V)(H:Hp)(Q:VK):Prop
 |mk (p xs i v:_) (h0:x=.ref p) (h1:y=.int i) (h2:SqL K H p xs) (h3:atI xs i=some v) (h4:Q v H)
inductive rIxT(K:Fg)(x:V)(y:V)(H:Hp)(Q:VK):Prop
 |mk (p xs i v:_) (h0:x=.ref p) (h1:y=.int i) (h2:SqT K H p xs) (h3:atI xs i=some v) (h4:Q v H)
inductive rIxS(x:V)(y:V)(H:Hp)(Q:VK):Prop
 |mk (z i c:_) (h0:x=.str z) (h1:y=.int i) (h2:z.length<=sizeLine) (h3:atI z.cps.toList i=some c) (h4:Q (.str ⟨#[c]⟩) H)
theorem ON:IxR X (rIxL X.K):=by
 intro value aD aa s U H x y v u Q I rx ry h hs;obtain⟨p,xs,i,z,rfl,rfl,hq,he,q⟩:=h;cases rx;obtain⟨t,rfl⟩:=ry;obtain⟨its,r,pl,hz⟩:=I.list hq;obtain⟨j,h1,h2,h3,h4,h5⟩:=KZ he;obtain⟨w,ew,bM⟩:=r.get h2;have hl:=r.length;have hn:=Hc;have aN:EP X aa U Q w s:=⟨z,H,I,bM,q⟩
 by_cases h0:0<=i
 .have hj:i.toNat=j:=by rw[seqIndex_of h0 h5]at h1;exact Option.some.inj h1
  exact item_listR pl.isList h0 (by lia) (by rw[hj];simpa using ew) aN hs
 .have hj:(i+(its.toArray.size:Int)).toNat=j:=by rw[seqIndex_neg (by lia) h4]at h1;rw[nV,<- hl];exact Option.some.inj h1
  exact subscriptTail_builtinR (x:=w) pl.isList.typeIs slot_list_getitem.lookup
   (wpAny_getItem_list_neg (Q:=λr s'=>r=w/\EP X aa U Q r s') pl.isList (by lia) (by rw[nV]<;>lia) (by lia) (by rw[hj];simpa using ew) ⟨rfl,aN⟩) hs
theorem JaF:IxR X (rIxT X.K):=by
 intro value aD aa s U H x y v u Q I rx ry h hs;obtain⟨p,xs,i,z,rfl,rfl,hq,he,q⟩:=h;cases rx;obtain⟨t,rfl⟩:=ry;obtain⟨its,r,pl,hz⟩:=I.tuple hq;obtain⟨j,h1,h2,h3,h4,h5⟩:=KZ he;obtain⟨w,ew,bM⟩:=r.get h2;have hl:=r.length;have hn:=Hc;have aN:EP X aa U Q w s:=⟨z,H,I,bM,q⟩
 exact subscriptTail_builtinR (x:=w) pl.typeIs slot_tuple_getitem.lookup
  (getItem_tuple (j:=j) (Q:=λr s'=>r=w/\EP X aa U Q r s') pl (by lia) (by lia) (by rwa[nV,<- hl]) (by simpa using ew) ⟨rfl,aN⟩) hs
theorem JaG:IxR X rIxS:=by
 intro value aD aa s U H x y v u Q I rx ry h hs;obtain⟨z,i,c,rfl,rfl,hz,he,q⟩:=h;obtain⟨t,rfl⟩:=rx;obtain⟨t',rfl⟩:=ry;obtain⟨j,h1,h2,h3,h4,h5⟩:=KZ he;have hl:z.cps.toList.length=z.length:=by simp[Str.length]
 rw[hl]at h1 h4 h5;have hn:=Hc;exact tail_any (typeIs_str s z t) slot_str_getitem.lookup (getItem_str (c:=c) (by have e1:decide (i < -(2^63:Int))=false:=oF (by lia);have e2:decide (i>=2^63)=false:=oF (by lia);rw[e1,e2,Bool.or_false]) (by rw[h1];simpa using h2) ⟨.str ⟨#[c]⟩,H,I.tok _,⟨_,rfl⟩,q⟩) hs
def rIx(K:Fg):R2:=λx y H Q=>rIxL K x y H Q\/rIxT K x y H Q\/rIxS x y H Q
theorem JaH:IxR X (rIx X.K):=ON.or (JaF.or JaG)
theorem MC(its:List Value)(n j:Nat)(u:Value):Obj.mapSeq (·.setIfInBounds j u) {cls:=.type "list",data:=.seq its.toArray n}={cls:=.type "list",data:=.seq (its.set j u).toArray n}:=by simp[Obj.mapSeq]
theorem Inv.lst(I:Inv X aa U H s)(h:H p=some (.lst xs)):
  ∃(its:List Value)(n:Nat),Vals xs its/\s.heap.get? p=some {cls:=.type "list",data:=.seq its.toArray n}/\xs.length<=sizeLine:=by
 obtain⟨z,its,n,r,e⟩:=I.z9 p _ h;exact⟨its,n,r,e,z⟩
theorem Inv.Jav{aa:Zao}{U:St}{H:Hp}{s:Shared}{p:Addr}{xs ys:List V}{its aH:List Value}{n n':Nat}{f:Obj->Obj}(I:Inv X aa U H s)(h:H p=some (.lst xs))
  (ho:s.heap.get? p=some {cls:=.type "list",data:=.seq its.toArray n}) (hf:f {cls:=.type "list",data:=.seq its.toArray n}={cls:=.type "list",data:=.seq aH.toArray n' }) (r:Vals ys aH) (hz:ys.length<=sizeLine) (t:Nat) :
  Inv X aa U (upd H p (.lst ys)) {s with heap:=s.heap.update p f,toks:=t}:=by
 have e:(s.heap.update p f).get? p=some {cls:=.type "list",data:=.seq aH.toArray n' }:=by rw[pe f ho (by rw[hf]<;>rfl),hf]
 refine I.write (x:=p) (e:=p) (by rw[h];trivial) (.inl rfl) (λb u hb q=>(oJ _ _ (Ne.symm hb)).trans q) ⟨_,e⟩ ?_;exact⟨hz,aH,n',r,e⟩
inductive Vz(o:V)(i:V)(v:V)(H:Hp)(Q:Hp->Prop):Prop
 |mk (p xs k j:_) (h0:o=.ref p) (h1:i=.int k) (h2:H p=some (.lst xs)) (h3:ixN xs.length k=some j) (h4:Q (upd H p (.lst (xs.set j v))))
theorem set_list:Ti X Vz:=by
 intro aa s U H o i v ov iv u Q I ro ri rv h;obtain⟨p,xs,k,j,rfl,rfl,hp,hj,q⟩:=h;cases ro;obtain⟨t,rfl⟩:=ri;obtain⟨its,n,r,ho,hz⟩:=I.lst hp;obtain⟨h1,h2,h3,h4⟩:=OO hj;have hl:=r.length;have hn:=Hc;have I':Inv X aa U (upd H p (.lst (xs.set j v))) {s with heap:=s.heap.update p (Obj.mapSeq (·.setIfInBounds j u))} :=
  I.Jav hp ho (MC its n j u) (r.set rv j) (by rwa[List.length_set]) s.toks
 by_cases h0:0<=k
 .have hk:k.toNat=j:=by rw[seqIndex_of h0 h4]at h1;exact Option.some.inj h1
  exact PySem.W.ki_setAt ho h0 (by lia) (by rwa[nV,<- hl]) (by rw[hk];exact⟨_,I',q⟩)
 .have hk:(k+(its.toArray.size:Int)).toNat=j:=by rw[seqIndex_neg (by lia) h3]at h1;rw[nV,<- hl];exact Option.some.inj h1
  exact PySem.W.ki_setBack ho (by lia) (by rwa[nV,<- hl]) (by lia) (by rw[hk];exact⟨_,I',q⟩)
theorem IT(lo hi:Option Int)(n:Nat):(sliceBounds lo hi none n).1=((HT.sIx n 0 lo:Nat):Int)/\(sliceBounds lo hi none n).2.1=((HT.sIx n n hi:Nat):Int)/\(sliceBounds lo hi none n).2.2=1:=by
 refine⟨?_,?_,rfl⟩
 .cases lo with
  |none=>simp[sliceBounds,HT.sIx]
  |some i =>
   simp only[sliceBounds,HT.sIx,Option.getD_none,if_true];by_cases h:i<0
   .simp only[h,if_true]<;>lia
   .simp only[h,if_false]<;>lia
 .cases hi with
  |none=>simp[sliceBounds,HT.sIx]
  |some i =>
   simp only[sliceBounds,HT.sIx,Option.getD_none,if_true];by_cases h:i<0
   .simp only[h,if_true]<;>lia
   .simp only[h,if_false]<;>lia
theorem Hx(its:List Value)(lo hi:Option Int):slicePick its.toArray lo hi none=((its.drop (HT.sIx its.length 0 lo)).take (HT.sIx its.length its.length hi-HT.sIx its.length 0 lo)).toArray:=by obtain⟨h1,h2,h3⟩:=IT lo hi its.toArray.size;unfold slicePick;rw[h1,h2,h3];simp only[sliceRange_one,pick_run]<;>rfl
inductive rSlL(K:Fg)(x:V)(lo:Option Int)(hi:Option Int)(H:Hp)(Q:VK):Prop
 |mk (a xs:_) (h0:x=.ref a) (h1:SqL K H a xs) (h2:∀p,H p=none->Q (.ref p) (upd H p (.lst (XO xs lo hi))))
theorem Vs:SlR X (rSlL X.K):=by intro aa s U H x v vl vu lo hi sl Q I rx hs pl pu h;obtain⟨a,xs,rfl,hx,q⟩:=h;cases rx;obtain⟨its,r,ht,hz⟩:=I.list hx;have hlen:=r.length;refine⟨"list",_,slot_list_getitem.lookup,ht.isList.typeIs,?_⟩;refine wpAny_getItem_list_slice ht.isList hs pl pu .none (by simp) ?_ (by rw[nV]<;>lia);rw[Hx,<- hlen];refine⟨.ref s.heap.objs.size,_,I.laid (λb ob q=>nR _ q) (n9 _) ?_,rfl,q _ (I.z9.fresh (n9 _))⟩;exact⟨oB (Gq xs lo hi) hz,_,0,(r.drop (HT.sIx xs.length 0 lo)).take (HT.sIx xs.length xs.length hi-HT.sIx xs.length 0 lo),n5 _ rfl⟩
def E1:V->Bool
 |.l=>true
 |.v _=>true
 |.int _=>true
 |.str _=>true
 |_=>false
def eqV:V->V->Bool
 |.l,.l=>true
 |.v a,.v b=>a==b
 |.v a,.int b=>(if a then 1 else 0)==b
 |.int a,.v b=>a==(if b then 1 else 0)
 |.int a,.int b=>a==b
 |.str a,.str b=>a==b
 |_,_=>false
theorem UL(ry:RelV y u)(rx:RelV x v)(fy:E1 y=true)(fx:E1 x=true):SeqAt.EqAt A s u v (eqV y x):=by
 cases y with
 |l =>cases ry;cases x with|l=>cases rx;exact SeqAt.EqAt.same _|v b=>cases rx;exact SeqAt.EqAt.none_bool b|int b=>obtain⟨t,rfl⟩:=rx;exact SeqAt.EqAt.none_int b t|str b=>obtain⟨t,rfl⟩:=rx;exact SeqAt.EqAt.none_str b t|_=>exact absurd (show false=true from fx) oz
 |v a =>cases ry;cases x with|l=>cases rx;exact SeqAt.EqAt.bool_none a|v b=>cases rx;exact SeqAt.EqAt.bool_bool a b|int b=>obtain⟨t,rfl⟩:=rx;exact SeqAt.EqAt.bool_int a b t|str b=>obtain⟨t,rfl⟩:=rx;exact SeqAt.EqAt.bool_str a b t|_=>exact absurd (show false=true from fx) oz
 |int a =>obtain⟨t',rfl⟩:=ry;cases x with|l=>cases rx;exact SeqAt.EqAt.int_none a t'|v b=>cases rx;exact SeqAt.EqAt.int_bool a t' b|int b=>obtain⟨t,rfl⟩:=rx;exact SeqAt.EqAt.int_int a t' b t|str b=>obtain⟨t,rfl⟩:=rx;exact SeqAt.EqAt.int_str a t' b t|_=>exact absurd (show false=true from fx) oz
 |str a =>obtain⟨t',rfl⟩:=ry;cases x with|l=>cases rx;exact SeqAt.EqAt.str_none a t'|v b=>cases rx;exact SeqAt.EqAt.str_bool a t' b|int b=>obtain⟨t,rfl⟩:=rx;exact SeqAt.EqAt.str_int a t' b t|str b=>obtain⟨t,rfl⟩:=rx;exact SeqAt.EqAt.str_str a t' b t|_=>exact absurd (show false=true from fx) oz
 |_=>exact absurd (show false=true from fy) oz
def eqU(x:V)(u:Value):Bool:=match u with|.none=>eqV .l x|.bool b=>eqV (.v b) x|.int i _=>eqV (.int i) x|.str z _=>eqV (.str z) x|_=>false
theorem UK(r:RelV y u)(f:E1 y=true):eqU x u=eqV y x:=by cases y with|l=>cases r;rfl|v b=>cases r;rfl|int i=>obtain⟨t,rfl⟩:=r;rfl|str z=>obtain⟨t,rfl⟩:=r;rfl|_=>exact absurd (show false=true from f) oz
theorem GD:∀{xs:List V}{us:List Value},Vals xs us->xs.all E1=true->us.any (eqU x)=xs.any λy=>eqV y x
 |_,_,.nil,_=>rfl
 |y::xs,u::us,.cons r t,f=>by rw[qD,oy]at f;rw[qh,qh,UK r f.1,GD t f.2]
theorem Eh(rx:RelV x v)(fx:E1 x=true):∀{xs:List V}{us:List Value},Vals xs us->xs.all E1=true->∀u∈us,SeqAt.EqAt A s u v (eqU x u)
 |_,_,.nil,_=>λu hu=>by cases hu
 |y::xs,u::us,.cons r t,f=>λu' hu=>by
  rw[qD,oy]at f;rcases oh.mp hu with rfl|hu
  .rw[UK r f.1];exact UL r rx f.1 fx
  .exact Eh rx fx t f.2 u' hu
def inV(x:V)(xs:List V):Bool:=xs.any λy=>eqV y x
inductive rIn(K:Fg)(neg:Bool)(x:V)(y:V)(H:Hp)(Q:VK):Prop
 |mk (p xs:_) (h0:y=.ref p) (h1:(SqL K H p xs\/SqT K H p xs)/\E1 x=true/\xs.all E1=true/\Q (.v (if neg then !inV x xs else inV x xs)) H)
theorem Ji:OpR X (compareOp .In) (rIn X.K false):=by
 intro aa s U H x y v u Q I rx ry h;obtain⟨p,xs,rfl,hq,fx,fs,q⟩:=h;cases ry;rcases hq with hq|hq
 .obtain⟨its,r,pl,hz⟩:=I.list hq;refine SeqAt.in_listAt (eqU x) pl.isList (λw hw=>Eh rx fx r fs w (by simpa using hw)) ⟨.v _,H,I,rfl,?_⟩;rwa[show its.toArray.any (eqU x)=its.any (eqU x) by simp,GD r fs]
 .obtain⟨its,r,pl,hz⟩:=I.tuple hq;refine SeqAt.in_tupleAt (eqU x) pl (λw hw=>Eh rx fx r fs w (by simpa using hw)) ⟨.v _,H,I,rfl,?_⟩;rwa[show its.toArray.any (eqU x)=its.any (eqU x) by simp,GD r fs]
theorem Jg:OpR X (compareOp .NotIn) (rIn X.K true):=by
 intro aa s U H x y v u Q I rx ry h;obtain⟨p,xs,rfl,hq,fx,fs,q⟩:=h;cases ry;rcases hq with hq|hq
 .obtain⟨its,r,pl,hz⟩:=I.list hq;refine SeqAt.notIn_listAt (eqU x) pl.isList (λw hw=>Eh rx fx r fs w (by simpa using hw)) ⟨.v _,H,I,rfl,?_⟩;rwa[show its.toArray.any (eqU x)=its.any (eqU x) by simp,GD r fs]
 .obtain⟨its,r,pl,hz⟩:=I.tuple hq;refine SeqAt.notIn_tupleAt (eqU x) pl (λw hw=>Eh rx fx r fs w (by simpa using hw)) ⟨.v _,H,I,rfl,?_⟩;rwa[show its.toArray.any (eqU x)=its.any (eqU x) by simp,GD r fs]
theorem Jf:OpR X (compareOp .NotIn) (λx y H Q=>∃i j,x=.str i/\y=.str j/\Q (.v (!(!(Builtin.Str.occurrences j i 0 j.length 1).isEmpty))) H):=by intro aa s U H x y v u Q I rx ry h;obtain⟨i,j,rfl,rfl,q⟩:=h;obtain⟨t,rfl⟩:=rx;obtain⟨t',rfl⟩:=ry;exact notIn_str ⟨.v _,H,I,rfl,q⟩
theorem JL:BK X (.builtin "len") (λxs H Q=>∃p ys,xs=[.ref p]/\(SqL X.K H p ys\/SqT X.K H p ys)/\Q (.int ys.length) H):=by
 intro aa s U H xs us Q I r h;obtain⟨p,ys,rfl,hq,q⟩:=h;obtain⟨u,rfl,rx⟩:=vals1 r;cases rx;have hn:=Hc;rcases hq with hq|hq
 .obtain⟨its,r',pl,hz⟩:=I.list hq;have hlen:=r'.length;exact Calls.call_len_list pl.isList (by simp only[nV]<;>lia) ⟨.int ys.length,H,I.tok _,⟨s.toks+1,by rw[nV,hlen]⟩,q⟩
 .obtain⟨its,r',pl,hz⟩:=I.tuple hq;have hlen:=r'.length;exact len_tuple pl (by simp only[nV]<;>lia) ⟨.int ys.length,H,I.tok _,⟨s.toks+1,by rw[nV,hlen]⟩,q⟩
theorem JK:BK X (.builtin "len") (λxs H Q=>∃z,xs=[.str z]/\z.length<=sizeLine/\Q (.int z.length) H):=by intro aa s U H xs us Q I r h;obtain⟨z,rfl,hz,q⟩:=h;obtain⟨u,rfl,t,rfl⟩:=vals1 r;have hn:=Hc;exact len_str (by lia) ⟨.int z.length,H,I.tok _,⟨_,rfl⟩,q⟩
theorem JJ:BK X (.type "list") (λxs H Q=>∃p ys,xs=[.ref p]/\(SqL X.K H p ys\/SqT X.K H p ys)/\∀l,H l=none->Q (.ref l) (upd H l (.lst ys))):=by
 intro aa s U H xs us Q I r h;obtain⟨p,ys,rfl,hq,q⟩:=h;obtain⟨u,rfl,rx⟩:=vals1 r;cases rx;have aN:∀(its:List Value),Vals ys its->ys.length<=sizeLine->∀(h':Heap)(c':Nat),(∀b o',s.heap.get? b=some o'->h'.get? b=some o') ->
   h'.get? s.heap.objs.size=some {cls:=.type "list",dict:=none,data:=.seq its.toArray c',slots:=#[]}->EP X aa U Q (.ref s.heap.objs.size) {s with heap:=h' }:=λits r' hz h' c' kp e =>
  ⟨.ref s.heap.objs.size,_,I.laid (t':=s.toks) kp (n9 _) (show A0 X.prog X.w _ h' _ (.lst ys)from⟨hz,its,c',r',e⟩),rfl,q _ (I.z9.fresh (n9 _))⟩
 rcases hq with hq|hq
 .obtain⟨its,r',pl,hz⟩:=I.list hq;have hlen:=r'.length;obtain⟨o,ho,hc,n,hd⟩:=pl.isList;exact call_list_seq p (.inl rfl) ho hc hd (λh' c' kp e=>aN its r' hz h' c' kp e) (by simp only[nV]<;>lia)
 .obtain⟨its,r',pl,hz⟩:=I.tuple hq;have hlen:=r'.length;obtain⟨o,ho,hc,n,hd⟩:=pl;exact call_list_seq p (.inr rfl) ho hc hd (λh' c' kp e=>aN its r' hz h' c' kp e) (by simp only[nV]<;>lia)
theorem Ir:BK X (.type "tuple") (λxs H Q=>∃p ys,xs=[.ref p]/\((SqL X.K H p ys/\∀l,H l=none->Q (.ref l) (upd H l (.tup ys)))\/(SqT X.K H p ys/\Q (.ref p) H))):=by
 intro aa s U H xs us Q I r h;obtain⟨p,ys,rfl,h⟩:=h;obtain⟨u,rfl,rx⟩:=vals1 r;cases rx;rcases h with⟨hq,q⟩|⟨hq,q⟩
 .obtain⟨its,r',pl,hz⟩:=I.list hq;have hlen:=r'.length;refine call_tuple_list pl.isList (λh' kp=>?_) (by simp only[nV]<;>lia);have I1:Inv X aa U H {s with heap:=h' }:=I.kept (t':=s.toks) kp;have I2:Inv X aa U (upd H h'.objs.size (.tup ys)) {s with heap:=h'.push {cls:=.type "tuple",data:=.seq its.toArray} } :=
   I1.laid (t':=s.toks) (λb o e=>nR _ e) (n9 _) (show A0 X.prog X.w _ _ _ (.tup ys)from⟨hz,its,r',PlT.new _ _⟩)
  exact⟨.ref h'.objs.size,_,I2,rfl,q _ (I1.z9.fresh (n9 _))⟩
 .obtain⟨its,r',pl,hz⟩:=I.tuple hq;exact call_tuple_same pl ⟨.ref p,H,I,rfl,q⟩
def tyV(K:Fg)(T:String)(x:V)(H:Hp):Prop:=match x with
 |.str _=>T="str"
 |.int _=>T="int"
 |.ref p=>(T="list"/\∃xs,SqL K H p xs)\/(T="tuple"/\∃o,K.lookup p=some o/\o.cls=.type "tuple"/\o.dict=none)\/
   (T="dict"/\((∃af,H p=some (.n af))\/∃af,H p=some (.dT af)))\/(T="set"/\∃S n,H p=some (.set S n))
 |_=>False
theorem TC{aa:Zao}{U:St}{H:Hp}{s:Shared}{T:String}{x:V}{v:Value}(I:Inv X aa U H s)(r:RelV x v)(ty:tyV X.K T x H):
  s.TypeIs v T/\∀a,v=.ref a->∃ob,s.heap.get? a=some ob/\ob.dict=none:=by
 cases x with
 |str z =>obtain⟨t,rfl⟩:=r;cases(show T="str" from ty);exact⟨typeIs_str s z t,λ_ e=>nomatch e⟩
 |int i =>obtain⟨t,rfl⟩:=r;cases(show T="int" from ty);exact⟨typeIs_int s i t,λ_ e=>nomatch e⟩
 |ref p =>
  cases r;rcases ty with⟨rfl,xs,hq⟩|⟨rfl,o,hk,hc,hd⟩|⟨rfl,hk⟩|⟨rfl,S,n,hk⟩
  .obtain⟨its,_,pl,_⟩:=I.list hq;refine⟨pl.isList.typeIs,λa e=>?_⟩;cases e;obtain⟨o,n,e,c,hd,_⟩:=pl;exact⟨o,e,hd⟩
  .refine⟨⟨o,I.kIn p o hk,hc⟩,λa e=>?_⟩;cases e;exact⟨o,I.kIn _ o hk,hd⟩
  .have z:∃o,s.heap.get? p=some o/\o.ExactDict:=by
    rcases hk with⟨af,hk⟩|⟨af,hk⟩
    .obtain⟨_,_,_,_,o,_,_,e,ex,_⟩:=I.z9 p _ hk;exact⟨o,e,ex⟩
    .obtain⟨_,_,_,_,o,_,_,e,ex,_⟩:=I.z9 p _ hk;exact⟨o,e,ex⟩
   obtain⟨o,e,ex⟩:=z;refine⟨⟨o,e,ex.1⟩,λa e2=>?_⟩;cases e2;exact⟨o,e,ex.2.1⟩
  .obtain⟨o,_,_,_,e,ex,_⟩:=I.z9 p _ hk;refine⟨⟨o,e,ex.1⟩,λa e2=>?_⟩;cases e2;exact⟨o,e,ex.2.1⟩
 |_=>exact False.elim ty
def tBM0(K:Fg)(T:String)(r:V->List V->Hp->VK->Prop)(to:TE):TE:=λU H Q=>to U H λx H1=>tyV K T x H1/\r x [] H1 Q
def tBM(K:Fg)(T:String)(r:V->List V->Hp->VK->Prop)(to:TE)(t:TA):TE:=λU H Q=>to U H λx H1=>tyV K T x H1/\t U H1 λxs H2=>r x xs H2 Q
variable{t:TA}{id:String}
theorem Ub(pa:PlainAttrs T)(slot:Slot T name id)(bV:typeOf (.builtin id)=pure (.type "method_descriptor"))(hm:MtR X id r)(ho:PE X o to)
  (aE:Zab X.env o name:=by rfl) (aG:(aA.endLine==ay.line)=true:=by rfl):PE X (.Call (.Attribute o name aA) [] [] ay) (tBM0 X.K T r to):=by
 intro aa s U H Q I h;refine wpAny_Call_method0_late aE aG (thn (ho aa s U H _ I h) λv s1 aj=>?_);obtain⟨x,H1,I1,r1,ty,q1⟩:= aj;obtain⟨h1,h2⟩:=TC I1 r1 ty;exact⟨T,id,pa,slot,bV,h1,h2,Calls.callWith_builtin rfl (PySem.evalArgs_none (hm aa s1 U H1 x [] v [] Q I1 r1 .nil q1))⟩
theorem V0(pa:PlainAttrs T)(slot:Slot T name id)(bV:typeOf (.builtin id)=pure (.type "method_descriptor"))(hm:MtR X id r)(ho:PE X o to)(ha:PA X (e::es) t)
  (aE:Zab X.env o name:=by rfl)
  (bR:((backTo ay (starEach (e::es) X.env)).all (λx=>!x.1)&&(backToKw ay (keywordEach [] X.env)).all (λx=>x.1.isSome)
  &&decide ((e::es).length+([]:List Keyword).length+(if([]:List Keyword).isEmpty then 0 else 1)<30))=true:=by rfl)
  (aG:(aA.endLine==ay.line)=true:=by rfl) (hs:Zsc X.env e es:=by rfl) (bh:Zbt X.env ay es:=by rfl) :
  PE X (.Call (.Attribute o name aA) (e::es) [] ay) (tBM X.K T r to t):=by
 intro aa s U H Q I h;refine wpAny_Call_method_late aE bR aG rfl (thn (ho aa s U H _ I h) λv s1 aj=>?_);obtain⟨x,H1,I1,r1,ty,q1⟩:= aj;obtain⟨h1,h2⟩:=TC I1 r1 ty;refine⟨T,id,pa,slot,bV,h1,h2,?_⟩;have hA:=ha ay aa s1 U H1 _ I1 q1;rw[hs]at hA ⊢;refine Calls.callWith_builtin (by show(false||(backTo ay (starEach es X.env)).any (·.1))=false;rw[bh]<;>rfl) (Calls.evalArgs_plain ?_);refine thn hA λus s2 aj => ?_
 obtain⟨vs,H2,I2,r2,q2⟩:= aj;exact hm aa s2 U H2 x vs v us Q I2 r1 r2 q2
end
def MtM(X:Cx)(id:String)(r:V->List V->Hp->VK->Prop):Prop :=
 ∀(aa:Zao)(s:Shared)(U:St)(H:Hp)(x:V)(xs:List V)(v:Value)(us:List Value)(Q:VK),Inv X aa U H s->RelV x v->Vals xs us->r x xs H Q ->
  wpAny (model X.prog X.w) X.A (call (.builtin id) (v::us)) (EP X aa U Q) X.xe s
theorem Vals.one:∀{x:V}{us:List Value},Vals [x] us->∃u,us=[u]/\RelV x u
 |_,_,.cons r .nil=>⟨_,rfl,r⟩
theorem Vals.zero:∀{us:List Value},Vals [] us->us=[]
 |_,.nil=>rfl
theorem Vals.dropLast(h:Vals xs us):Vals xs.dropLast us.dropLast:=by induction h with|nil=>exact .nil|cons r t ih =>cases t with|nil=>exact .nil|cons q t'=>exact .cons r ih
theorem MY{α:Type}(l:List α):l.eraseIdx (l.length-1)=l.dropLast:=by
 induction l with
 |nil=>rfl
 |cons a r ih =>
  cases r with
  |nil=>rfl
  |cons b r =>
   have e:(a::b::r).length-1=((b::r).length-1)+1:=by
    have h1:(a::b::r).length=r.length+2:=rfl;have h2:(b::r).length=r.length+1:=rfl
    lia
   rw[e,List.eraseIdx_cons_succ,ih]
   all_goals rfl
theorem Inv.WB{its aH:List Value}{n:Nat}{f:Array Value->Array Value}{t':Nat}(I:Inv X aa U H s)(hH:H l=some (.lst xs))
  (e:s.heap.get? l=some {cls:=.type "list",data:=.seq its.toArray n}) (hf:f its.toArray=aH.toArray) (hv:Vals ys aH) (hz:ys.length<=sizeLine) :
  Inv X aa U (upd H l (.lst ys)) {s with heap:=s.heap.update l (Obj.mapSeq f),toks:=t' }:=by
 have q:=PySem.IsL.update e f;rw[hf]at q;refine I.write (by rw[hH];exact trivial) (.inl rfl) (λb' u hb hu=>(oJ s.heap (Obj.mapSeq f) (Ne.symm hb)).trans hu) ⟨_,q⟩ ?_;exact⟨hz,aH,_,hv,q⟩
theorem Inv.lnew(I:Inv X aa U H s)(hv:Vals ys its)(hz:ys.length<=sizeLine):
  Inv X aa U (upd H s.heap.objs.size (.lst ys)) {s with heap:=s.heap.push {cls:=.type "list",data:=.seq its.toArray},toks:=t' } :=
 I.laid (λ_ _ q=>nR _ q) (n9 _) ⟨hz,its,0,hv,n5 _ rfl⟩
theorem Inv.fresh(I:Inv X aa U H s):H s.heap.objs.size=none:=I.z9.fresh (n9 _)
theorem Inv.Uk(I:Inv X aa U H s)(hH:H l=some (.lst xs)):xs.length<=sizeLine/\∃(its:List Value)(n:Nat),Vals xs its/\xs.length=its.length/\s.heap.get? l=some {cls:=.type "list",data:=.seq its.toArray n}:=by obtain⟨z,its,n,r,e⟩:=I.z9 l _ hH;exact⟨z,its,n,r,r.length,e⟩
theorem Lv(h:n<=sizeLine):Builtin.List.listTooLong n=false:=by exact oF (by lia)
inductive NN(x:V)(vs:List V)(H:Hp)(Q:VK):Prop
 |mk (l xs y:_) (h0:x=.ref l) (h1:vs=[y]) (h2:H l=some (.lst xs)) (h3:xs.length<sizeLine) (h4:Q .l (upd H l (.lst (xs++[y]))))
theorem FY:MtM X "list.append" NN:=by
 intro aa s U H x vs v us Q I rx rv h;obtain⟨l,xs,y,rfl,rfl,hH,hz,q⟩:=h;cases rx;obtain⟨u,rfl,ru⟩:=rv.one;obtain⟨z,its,n,r,hl,e⟩:=I.Uk hH;refine call_meets F.slot_list_append ⟨_,e,rfl⟩ F.entry_list_append (F.args_list_append_2 _ _) (PySem.list_append l its.toArray n u (by rw[nV];lia)) ⟨e,?_⟩;refine⟨.l,_,I.WB hH e (by simp) (r.append (.cons ru .nil)) ?_,rfl,q⟩;rw[oi,oI]
 lia
inductive HB(x:V)(vs:List V)(H:Hp)(Q:VK):Prop
 |mk (l b xs zs:_) (h0:x=.ref l) (h1:vs=[.ref b]) (h2:H l=some (.lst xs)) (h3:H b=some (.lst zs)) (h4:xs.length+zs.length<=sizeLine) (h5:Q .l (upd H l (.lst (xs++zs))))
theorem Oo:MtM X "list.extend" HB:=by
 intro aa s U H x vs v us Q I rx rv h;obtain⟨l,b,xs,zs,rfl,rfl,hH,hB,hz,q⟩:=h;cases rx;obtain⟨u,rfl,ru⟩:=rv.one;cases ru;obtain⟨z,its,n,r,hl,e⟩:=I.Uk hH;obtain⟨z2,aU,n2,r2,bu,e2⟩:=I.Uk hB;have hsz:its.toArray.size+aU.toArray.size<=sizeLine:=by rw[nV,nV];lia
 have fU:¬(!its.toArray.isEmpty&&Builtin.List.listTooLong (its.toArray.size+aU.toArray.size))=true:=by rw[Lv hsz,Bool.and_false];exact oz
 refine call_meets F.slot_list_extend ⟨_,e,rfl⟩ F.entry_list_extend (F.args_list_extend_2 _ _)
  (AutoSeq1.list_extend_list_list_0 l its.toArray n b aU.toArray n2 fU (by rw[nV];lia) (by lia)) ⟨e,e2,?_⟩
 refine⟨.l,_,I.WB (aH:=its++aU) hH e (by simp) (r.append r2) ?_,rfl,q⟩;rw[oi]
 lia
inductive rPop(x:V)(vs:List V)(H:Hp)(Q:VK):Prop
 |mk (l xs y:_) (h0:x=.ref l) (h1:vs=[]) (h2:H l=some (.lst xs)) (h3:xs[xs.length-1]?=some y) (h4:Q y (upd H l (.lst xs.dropLast)))
theorem Jao:MtM X "list.pop" rPop:=by
 intro aa s U H x vs v us Q I rx rv h;obtain⟨l,xs,y,rfl,rfl,hH,hy,q⟩:=h;cases rx;have lL:=rv.zero;subst lL;obtain⟨z,its,n,r,hl,e⟩:=I.Uk hH;obtain⟨u,hu,ru⟩:=r.get hy;have lS:its.toArray[its.toArray.size-1]?=some u:=by show its.toArray[its.length-1]?=some u;rwa[<- Array.getElem?_toList,<- hl]
 refine call_meets F.slot_list_pop ⟨_,e,rfl⟩ F.entry_list_pop (F.args_list_pop_1 _) (MeetsSeq.list_pop_last l its.toArray n u lS (by rw[nV];lia)) ⟨e,?_⟩;refine⟨y,_,I.WB (aH:=its.dropLast) hH e ?_ r.dropLast ?_,ru,q⟩
 .show its.toArray.eraseIdxIfInBounds (its.toArray.size-1)=its.dropLast.toArray;rw[nV,List.eraseIdxIfInBounds_toArray,MY]
 .rw[List.length_dropLast]
  lia
inductive rCat(x:V)(y:V)(H:Hp)(Q:VK):Prop
 |mk (l b xs zs:_) (h0:x=.ref l) (h1:y=.ref b) (h2:H l=some (.lst xs)) (h3:H b=some (.lst zs)) (h4:xs.length+zs.length<=sizeLine) (h5:∀p,H p=none->Q (.ref p) (upd H p (.lst (xs++zs))))
theorem Jab:OpR X (binaryOp .Add) rCat:=by
 intro aa s U H x y v u Q I rx ry h;obtain⟨l,b,xs,zs,rfl,rfl,hH,hB,hz,q⟩:=h;cases rx;cases ry;obtain⟨z,its,n,r,hl,e⟩:=I.Uk hH;obtain⟨z2,aU,n2,r2,bu,e2⟩:=I.Uk hB;refine PySem.P.add_list e e2 ?_ (by rw[nV,nV];lia);have ea:its.toArray++aU.toArray=(its++aU).toArray:=by simp
 rw[ea];exact⟨.ref _,_,I.lnew (t':=s.toks) (r.append r2) (by rw[oi];lia),rfl,q _ I.fresh⟩
variable{E:Zcv}
set_option maxRecDepth 100000 in
section
variable{κ:Type}[DecidableEq κ]
def J6(af:List (κ×V))(k:κ):Option V:=(af.find? λkv=>decide (kv.1=k)).map (·.2)
def putK(af:List (κ×V))(k:κ)(v:V):List (κ×V) :=
 if(af.any λkv=>decide (kv.1=k))=true then af.map (λkv=>if kv.1=k then(kv.1,v)else kv)else af++[(k,v)]
theorem Eb{p:κ×V}{r:List (κ×V)}{k:κ}(e:p.1=k):J6 (p::r) k=some p.2:=by simp[J6,e]
theorem Ec{p:κ×V}{r:List (κ×V)}{k:κ}(e:¬p.1=k):J6 (p::r) k=J6 r k:=by simp[J6,e]
theorem K2(k:κ):∀af:List (κ×V),(af.any λkv=>decide (kv.1=k))=(J6 af k).isSome
 | []=>rfl
 |p::r=>by
  rw[qh];by_cases e:p.1=k
  .simp only[Eb e,oO e,Bool.true_or,Option.isSome_some]
  .rw[Ec e,oF e,Bool.false_or];exact K2 k r
theorem DZ(af:List (κ×V))(k:κ)(v:V):(putK af k v).length<=af.length+1:=by
 unfold putK;split
 .rw[nX];lia
 .rw[oi,n8,List.length_nil];lia
theorem A6.Dj{o}(r:A6 o u):o.isSome=u.isSome:=by
 cases o with
 |none=>cases u with|none=>rfl|some _=>exact(show False from r).elim
 |some _=>cases u with|none=>exact(show False from r).elim|some _=>rfl
theorem KV.val{af:List (κ×V)}{vs:List (κ×Value)}(r:KV af vs)(k:κ):A6 (J6 af k) (valueAt vs k):=by
 induction r with
 |nil=>exact True.intro
 |@cons p q ps qs h t ih =>
  obtain⟨h1,h2⟩:=h;by_cases e:p.1=k
  .have e':q.1=k:=h1.symm.trans e;have b:valueAt (q::qs) k=some q.2:=by simp[valueAt,e']
   rwa[Eb e,b]
  .have e':¬q.1=k:=λz=>e (h1.trans z)
   have b:valueAt (q::qs) k=valueAt qs k:=by simp[valueAt,e']
   rwa[Ec e,b]
theorem KV.any{af:List (κ×V)}{vs:List (κ×Value)}(r:KV af vs)(k:κ):(af.any λkv=>decide (kv.1=k))=vs.any λkv=>decide (kv.1=k):=by induction r with|nil=>rfl|cons h t ih=>rw[qh,qh,ih,h.1]
theorem KV.repl(r:KV af vs)(k:κ)(ry:RelV y u):
  KV (af.map λkv=>if kv.1=k then(kv.1,y)else kv) (vs.map λkv=>if kv.1=k then(kv.1,u)else kv):=by
 induction r with
 |nil=>exact .nil
 |@cons p q ps qs h t ih =>
  rw[nQ,nQ];refine .cons ?_ ih;obtain⟨h1,h2⟩:=h;by_cases e:p.1=k
  .rw[if_pos e,if_pos (h1.symm.trans e)];exact⟨h1,ry⟩
  .rw[if_neg e,if_neg (λz=>e (h1.trans z))];exact⟨h1,h2⟩
theorem KV.put(r:KV af vs)(k:κ)(ry:RelV y u):KV (putK af k y) (stored vs k u):=by
 unfold putK stored;rw[r.any k];by_cases e:(vs.any λkv=>decide (kv.1=k))=true
 .rw[if_pos e,if_pos e];exact r.repl k ry
 .rw[if_neg e,if_neg e];exact Paired.snoc r ⟨rfl,ry⟩
theorem KV.length(r:KV af vs):af.length=vs.length:=Paired.length r
end
theorem MH(r:RelV (kV k) u):(A4 P w).is k u=true:=by cases k with|inl i=>obtain⟨t,e⟩:=(show ∃t,u=Value.int i t from r);subst e;exact Kv P w i t|inr x=>obtain⟨t,e⟩:=(show ∃t,u=Value.str x t from r);subst e;exact Ku P w x t
theorem Jo:∀{ks:List Key}{us:List Value},Vals (ks.map kV) us->ItemsAre (A4 P w) ks us
 | [],_,r=>by rw[pF]at r;cases r;exact .nil
 |k::ks,_,r=>by cases r with|cons h t=>exact .cons (MH h) (Jo t)
abbrev KT(H:Hp):List (List Key×V)->List (List Key×Addr×Value)->Prop:=Paired λp q=>p.1=q.1/\H q.2.1=some (.tup (p.1.map kV))/\RelV p.2 q.2.2
theorem KT.val{H:Hp}{af:List (List Key×V)}{xs:List (List Key×Addr×Value)}(r:KT H af xs)(k:List Key):A6 (J6 af k) ((atKey xs k).map (·.2)):=by
 induction r with
 |nil=>exact True.intro
 |@cons p q ps qs h t ih =>
  obtain⟨h1,_,h2⟩:=h;by_cases e:p.1=k
  .have e':q.1=k:=h1.symm.trans e;have b:atKey (q::qs) k=some q.2:=by simp[atKey,e']
   rwa[Eb e,b]
  .have e':¬q.1=k:=λz=>e (h1.trans z)
   have b:atKey (q::qs) k=atKey qs k:=by simp[atKey,e']
   rwa[Ec e,b]
theorem KT.repl(r:KT H af xs)(k:List Key)(ry:RelV y u):
  KT H (af.map λkv=>if kv.1=k then(kv.1,y)else kv) (xs.map (putAt k u)):=by
 induction r with
 |nil=>exact .nil
 |@cons p q ps qs h t ih =>
  rw[nQ,nQ];refine .cons ?_ ih;obtain⟨h1,h2,h3⟩:=h;unfold putAt;by_cases e:p.1=k
  .rw[if_pos e,if_pos (h1.symm.trans e)];exact⟨h1,h2,ry⟩
  .rw[if_neg e,if_neg (λz=>e (h1.trans z))];exact⟨h1,h2,h3⟩
theorem KT.put{H:Hp}{af:List (List Key×V)}{xs:List (List Key×Addr×Value)}(r:KT H af xs)(k:List Key){b:Addr}{y:V}{u:Value}(hb:H b=some (.tup (k.map kV)))(ry:RelV y u):
  KT H (putK af k y) (storedH xs k b u):=by
 have e:(af.any λkv=>decide (kv.1=k))=(atKey xs k).isSome:=by rw[K2,(r.val k).Dj,Option.isSome_map]
 unfold putK storedH;rw[e];by_cases q:(atKey xs k).isSome=true
 .rw[if_pos q,if_pos q];exact r.repl k ry
 .rw[if_neg q,if_neg q];exact Paired.snoc r ⟨rfl,hb,ry⟩
theorem KT.keeps(r:KT H af xs)(ht:∀b ys,H b=some (.tup ys)->H' b=some (.tup ys)):KT H' af xs :=
 Paired.mapP r λ_ _ z=>⟨z.1,ht _ _ z.2.1,z.2.2⟩
theorem Zs(ok:HOk P w H h)(e:Rd H a u):A0 P w H h a u:=e.ok ok
theorem E2(ok:HOk P w H h)(e:Rd H a (.n af)):af.length<=sizeLine/\(a==sysModules)=false/\∃vs,KV af vs/\h.DictOf (A4 P w) a vs :=
 show A0 P w H h a (.n af)from Zs ok e
theorem Jb2(ok:HOk P w H h)(e:H a=some (.n af)):af.length<=sizeLine/\(a==sysModules)=false/\∃vs,KV af vs/\h.DictOf (A4 P w) a vs:=E2 ok (.inl e)
theorem Jn(ok:HOk P w H h)(e:H a=some (.tup (ks.map kV))):(tupleKind (A4 P w)).is h ks a:=by
 obtain⟨_,its,r,o,h1,h2,n,h3,_⟩:=(show A0 P w H h a (.tup (ks.map kV))from ok a _ e)
 exact⟨o,its.toArray,n,h1,h2,h3,by simpa using Jo r⟩
theorem MZ{af:List (List Key×V)}(ok:HOk P w H h)(e:Rd H a (.dT af)):af.length<=sizeLine/\(a==sysModules)=false /\
  ∃xs,KT H af xs/\h.DictOfH (tupleKind (A4 P w)) a xs:=by
 obtain⟨z,y,xs,r,o,es,ep,h1,h2,h3,h4,h5⟩:=(show A0 P w H h a (.dT af)from Zs ok e)
 refine⟨z,y,xs,r,o,es,ep,h1,h2,h3,h4,λx hx=>?_,h5⟩;have all:∀{l:List (List Key×V)}{m:List (List Key×Addr×Value)},KT H l m->∀x∈m,(tupleKind (A4 P w)).is h x.1 x.2.1:=by
  intro l m q
  induction q with
  |nil=>intro x hx;exact nomatch hx
  |@cons p q ps qs hq t ih =>
   intro x hx;rcases oh.mp hx with e|hx
   .subst e;exact Jn ok (by rw[<- hq.1];exact hq.2.1)
   .exact ih x hx
 exact all r x hx
theorem dt_of(ok:HOk P w H h)(e:H a=some (.dT af)):af.length<=sizeLine/\(a==sysModules)=false /\
  ∃xs,KT H af xs/\h.DictOfH (tupleKind (A4 P w)) a xs:=MZ ok (.inl e)
def J1(H:Hp)(a:Addr)(y:V)(r:Option V):Prop :=
 (∃af k,Rd H a (.n af)/\y=kV k/\r=J6 af k)\/∃af k b,Rd H a (.dT af)/\y=.ref b/\H b=some (.tup (k.map kV))/\r=J6 af k
def Ng(H:Hp)(a:Addr)(y v:V)(H':Hp):Prop :=
 (∃af k,H a=some (.n af)/\y=kV k/\af.length<sizeLine/\H'=upd H a (.n (putK af k v)))\/
 ∃af k b,H a=some (.dT af)/\y=.ref b/\H b=some (.tup (k.map kV))/\af.length<sizeLine/\H'=upd H a (.dT (putK af k v))
theorem J1.k{H:Hp}{a:Addr}{af:List (Key×V)}{k:Key}(e:H a=some (.n af)):J1 H a (kV k) (J6 af k):=.inl ⟨af,k,.inl e,rfl,rfl⟩
theorem J1.t{H:Hp}{a b:Addr}{af:List (List Key×V)}{k:List Key}(e:H a=some (.dT af))(eb:H b=some (.tup (k.map kV))):J1 H a (.ref b) (J6 af k):=.inr ⟨af,k,b,.inl e,rfl,eb,rfl⟩
theorem Ng.k{H:Hp}{a:Addr}{af:List (Key×V)}{k:Key}{v:V}(e:H a=some (.n af))(hl:af.length<sizeLine):Ng H a (kV k) v (upd H a (.n (putK af k v))):=.inl ⟨af,k,e,rfl,hl,rfl⟩
theorem Ng.t{H:Hp}{a b:Addr}{af:List (List Key×V)}{k:List Key}{v:V}(e:H a=some (.dT af))(eb:H b=some (.tup (k.map kV)))(hl:af.length<sizeLine):
  Ng H a (.ref b) v (upd H a (.dT (putK af k v))):=.inr ⟨af,k,b,e,rfl,eb,hl,rfl⟩
theorem Inv.big(I:Inv X aa U H s):sysModules<s.heap.objs.size:=by have h:=(I.mod.glob.keeps I.bk).lt;exact pE (by decide) h
theorem JA(hu:A.units+1<cLine)(I:Inv X aa U H s)(g:J1 H a y (some v))(ry:RelV y u)(h:∀w' s',Inv X aa U H s'->RelV v w'->Q w' s'):
  wpAny (model X.prog X.w) A (getItem (.ref a) u) Q E s:=by
 rcases g with⟨af,k,e,ey,l⟩|⟨af,k,b,e,ey,eb,l⟩
 .subst ey;obtain⟨z,hd,vs,aB,dd⟩:=E2 I.z9 e;obtain⟨w',hw,bM⟩:=A6.some_of (by rw[l];exact aB.val k);exact wpAny_getItem_of (MH ry) dd.mapOf hw (h w' _ (I.tok _) bM)
 .subst ey;cases(show u=Value.ref b from ry);obtain⟨z,hd,xs,aB,dd⟩:=MZ I.z9 e;obtain⟨w',hw,bM⟩:=A6.some_of (by rw[l];exact aB.val k);obtain⟨p,hp,lx⟩:=nY.mp hw;refine wpAny_getItem_heap (tupleKind_room_in1 hu) (Jn I.z9 eb) dd hp ?_;rw[lx];exact h w' _ (I.tok _) bM
theorem d_in{o}(hu:A.units+1<cLine)(I:Inv X aa U H s)(g:J1 H a y o)(ry:RelV y u)(h:∀s',Inv X aa U H s'->Q (.bool o.isSome) s'):
  wpAny (model X.prog X.w) A (compareOp .In u (.ref a)) Q E s:=by
 rcases g with⟨af,k,e,ey,l⟩|⟨af,k,b,e,ey,eb,l⟩
 .subst ey;obtain⟨z,hd,vs,aB,dd⟩:=E2 I.z9 e;refine wpAny_in_of (MH ry) hd dd.mapOf ?_;rw[<- (aB.val k).Dj,<- l];exact h _ (I.tok _)
 .subst ey;cases(show u=Value.ref b from ry);obtain⟨z,hd,xs,aB,dd⟩:=MZ I.z9 e;refine wpAny_in_heap (tupleKind_room_in1 hu) (Jn I.z9 eb) hd dd ?_;have q:=(aB.val k).Dj;rw[Option.isSome_map]at q;rw[<- q,<- l];exact h _ (I.tok _)
theorem XM{o}(hu:A.units+1<cLine)(I:Inv X aa U H s)(g:J1 H a y o)(ry:RelV y u)(h:∀s',Inv X aa U H s'->Q (.bool (!o.isSome)) s'):
  wpAny (model X.prog X.w) A (compareOp .NotIn u (.ref a)) Q E s:=by
 rcases g with⟨af,k,e,ey,l⟩|⟨af,k,b,e,ey,eb,l⟩
 .subst ey;obtain⟨z,hd,vs,aB,dd⟩:=E2 I.z9 e;refine wpAny_notIn_of (MH ry) hd dd.mapOf ?_;rw[<- (aB.val k).Dj,<- l];exact h _ (I.tok _)
 .subst ey;cases(show u=Value.ref b from ry);obtain⟨z,hd,xs,aB,dd⟩:=MZ I.z9 e;refine wpAny_notIn_heap (tupleKind_room_in1 hu) (Jn I.z9 eb) hd dd ?_;have q:=(aB.val k).Dj;rw[Option.isSome_map]at q;rw[<- q,<- l];exact h _ (I.tok _)
theorem PQ(I:Inv X aa U H s)(mu:Mut (H a))(hs:Heap.SameBut a s.heap h')(he:∃q,h'.get? a=some q)(new:A0 X.prog X.w (upd H a ob) h' a ob):
  Inv X aa U (upd H a ob) {s with heap:=h',toks:=t' } :=
 I.write mu (.inl rfl) (λb q hb z=>(hs.2 b hb).trans z) he new
theorem PC(z:af.length<=sizeLine)(hd:(a==sysModules)=false)(aB:KV af vs)(dd:h'.DictOf (A4 P w) a vs):
  A0 P w H' h' a (.n af):=⟨z,hd,vs,aB,dd⟩
theorem Jz{r}{H':Hp}{Q:Unit->Shared->Prop}(hu:A.units+1<cLine)(I:Inv X aa U H s)(g:Ng H a y v H')(ry:RelV y u)(rv:RelV v r)(h:∀s',Inv X aa U H' s'->Q () s'):
  wpAny (model X.prog X.w) A (setItem (.ref a) u r) Q E s:=by
 rcases g with⟨af,k,e,ey,l,eH⟩|⟨af,k,b,e,ey,eb,l,eH⟩
 .subst ey eH;obtain⟨z,hd,vs,aB,dd⟩:=Jb2 I.z9 e;have hz:vs.length<=sizeLine:=by rwa[<- aB.length]
  have hl:(putK af k v).length<=sizeLine:=by have:=DZ af k v;lia
  refine wpAny_setItem_pairs (hsz:=hz) (MH ry) dd λh' dw hs=>h _ ?_
  have he:∃q,h'.get? a=some q:=let⟨q,_,_,hq,_⟩:=dw;⟨q,hq⟩;exact PQ I (by rw[e];exact True.intro) hs he (PC hl hd (aB.put k rv) dw)
 .subst ey eH;cases(show u=Value.ref b from ry);obtain⟨z,hd,xs,aB,dd⟩:=dt_of I.z9 e;have hz:xs.length<=sizeLine:=by rwa[<- Paired.length aB]
  have hl:(putK af k v).length<=sizeLine:=by have:=DZ af k v;lia
  refine wpAny_setItem_heap (hsz:=hz) (tupleKind_room_in1 hu) (Jn I.z9 eb) dd λh' dw hs=>h _ ?_
  obtain⟨q,es,ep,hq,h2,h3,h4,_,h5⟩:=dw;refine PQ I (by rw[e];exact True.intro) hs ⟨q,hq⟩ ⟨hl,hd,_,(aB.put k eb rv).keeps λc ys ec=>?_,q,es,ep,hq,h2,h3,h4,h5⟩;rwa[Al (ne_of ec e (λz=>nomatch z))]
theorem d_len(I:Inv X aa U H s)(e:Rd H a (.n af))(h:∀t s',Inv X aa U H s'->Q (.int af.length t) s'):wpAny (model X.prog X.w) A (call (.builtin "len") [.ref a]) Q E s:=by obtain⟨z,hd,vs,aB,dd⟩:=E2 I.z9 e;refine call_len_dict hd dd (by rw[<- aB.length];rw[sizeLine_eq]at z;lia) ?_;rw[<- aB.length];exact h _ _ (I.tok _)
def NoSl(i:Expr):Prop:=∀ov iv,subscripted i false ov iv=operate [ov,iv] (getItem ov iv)
theorem Vn{prog:Program}{w:World}{A:Around}{s:Shared}{env:Env}{value aD:Expr}{id:String}{Q:Zcv}
  (hl:typeLookup (.type T) "__getitem__"=pure (some (.builtin id))) (hs:NoSl aD)
  (h:wpAny (model prog w) A (eval value env) (λo aw=>wpAny (model prog w) A (eval aD env) (λi bH=>bH.TypeIs o T/\wpAny (model prog w) A (getItem o i) Q E bH) E aw) E s) :
  wpAny (model prog w) A (eval (.Subscript value aD pos) env) Q E s:=by
 refine Subscript_ (wpAny_mono h (λo aw aL=>wpAny_mono aL (λi bH cZ=>?_) λ_ _ x=>x) λ_ _ x=>x);obtain⟨hT,cZ⟩:=cZ;refine nM ?_;refine nM (wpAny_specialOf hT hl ?_);have aN:wpAny (model prog w) A (subscripted aD false o i) (λr aX=>wpAny (model prog w) A (letTemporaryGo value o r >>= λ_=>pure r) Q E aX) E bH:=by rw[hs o i];exact wpAny_operating (wpAny_mono cZ (λr aX cB=>nM (wpAny_letTemporaryGo (nW cB))) λ_ _ x=>x)
 first
  |exact nW (nM aN)
  |exact nM (nW (nM aN))
  |exact nM aN
theorem Gn{o}(I:Inv X aa U H s)(g:J1 H a y o):s.TypeIs (.ref a) "dict":=by
 rcases g with⟨af,k,e,_,_⟩|⟨af,k,b,e,_,_,_⟩
 .obtain⟨_,_,vs,_,dd⟩:=E2 I.z9 e;exact dd.typeIs
 .obtain⟨_,_,xs,_,dd⟩:=MZ I.z9 e;exact dd.typeIs
def tDGet(td ty:TE):TE:=λU H Q=>td U H λx H1=>ty U H1 λy H2=>∃a v,x=.ref a/\J1 H2 a y (some v)/\Q v H2
def Zk(td ty tv:TE):TS:=λD U H=>tv U H λv H1=>td U H1 λx H2=>ty U H2 λy H3=>∃a H4,x=.ref a/\Ng H3 a y v H4/\D.nx U H4
theorem VX(hu:X.A.units+1<cLine)(ho:PE X o td)(hi:PE X i ty)(hs:NoSl i):PE X (.Subscript o i pos) (tDGet td ty):=by intro aa s U H Q I h;refine Vn PySem.F.slot_dict_getitem.lookup hs (thn (ho aa s U H _ I h) λu s1 ⟨x,H1,I1,rx,q1⟩=>thn (hi aa s1 U H1 _ I1 q1) λiv s2 aj=>?_);obtain⟨y,H2,I2,ry,a,v,ex,g,q2⟩:= aj;subst ex;obtain rfl:u=Value.ref a:=rx;exact⟨Gn I2 g,JA hu I2 g ry λw' s3 I3 bM=>⟨v,H2,I3,bM,q2⟩⟩
theorem Ko(hu:X.A.units+1<cLine)(ho:PE X o td)(hi:PE X i ty)(hv:PE X value tv)(hs:swapsWith value (some (.Subscript o i aP)) pos.line X.env=pure false):
  PS X (.Assign [.Subscript o i aP] value pos) (Zk td ty tv):=by
 intro aa s U H D I h;refine wpAny_Assign_Subscript (thn (hv aa s U H _ I h) λr s1 ⟨v,H1,I1,rv,q1⟩=>thn (ho aa s1 U H1 _ I1 q1) λu s2 ⟨x,H2,I2,rx,q2⟩=>thn (hi aa s2 U H2 _ I2 q2) λiv s3 aj=>?_) hs;obtain⟨y,H3,I3,ry,a,H4,ex,g,q3⟩:= aj;subst ex;obtain rfl:u=Value.ref a:=rx;exact Jz hu I3 g ry rv λs4 I4=>⟨U,H4,I4,q3⟩
theorem SH(h:Heap)(hb:sysModules<h.objs.size):A0 P w H (h.push {cls:=.type "dict",data:=.dict #[]}) h.objs.size (.n []) :=
 ⟨pf _,beq_eq_false_iff_ne.mpr (Ne.symm (oA hb)),[],.nil,Heap.DictOf.new h⟩
def Y8:TE:=λ_ H Q=>∀p,H p=none->Q (.ref p) (upd H p (.n []))
theorem Lr:PE X (.Dict [] [] pos) Y8:=λaa s U H Q I h =>wpAny_Dict_empty ⟨.ref s.heap.objs.size,_,I.laid (λ_ _ q=>nR _ q) (n9 _) (SH s.heap I.big),rfl,h _ (I.z9.fresh (n9 _))⟩
def IsD(H:Hp)(a:Addr):Prop:=(∃af,Rd H a (.n af))\/∃af,Rd H a (.dT af)
theorem JaL(I:Inv X aa U H s)(d:IsD H a):
  s.TypeIs (.ref a) "dict"/\(∀b,Value.ref a=.ref b->∃ob,s.heap.get? b=some ob/\ob.dict=none)/\(a==sysModules)=false:=by
 rcases d with⟨af,e⟩|⟨af,e⟩
 .obtain⟨_,hd,vs,_,dd⟩:=E2 I.z9 e;refine⟨dd.typeIs,λb q=>?_,hd⟩;cases q;obtain⟨ob,_,_,h1,h2,_⟩:=dd;exact⟨ob,h1,h2.2.1⟩
 .obtain⟨_,hd,xs,_,dd⟩:=MZ I.z9 e;refine⟨dd.typeIs,λb q=>?_,hd⟩;cases q;obtain⟨ob,_,_,h1,h2,_⟩:=dd;exact⟨ob,h1,h2.2.1⟩
theorem SI{Q:Zcv}(I:Inv X aa U H s)(e:Rd H a (.n af))(h:∀p s',H p=none->Inv X aa U (upd H p (.n af)) s'->Q (.ref p) s'):wpAny (model X.prog X.w) A (call (.type "dict") [.ref a]) Q E s:=by
 obtain⟨z,hd,vs,aB,dd⟩:=E2 I.z9 e;refine kt_call_dict hd dd (by rw[<- aB.length];exact z) λh' dw hs=>?_
 refine h _ _ (I.z9.fresh (n9 _)) (I.laid (a:=s.heap.objs.size) (o:=.n af) (t':=s.toks) (λb q hq=>?_) (n9 _) (PC z (beq_eq_false_iff_ne.mpr (Ne.symm (oA I.big))) aB dw));exact(hs.2 b (oA (oa hq))).trans (nR _ hq)
end Lake.L2
namespace Att
open PySem PySem.W PySem.Calls PyProof.Rows
theorem Gf:∀(ns:List Int)(vs:List Value),WellAll P h vs (ns.map WData.int)->IntsAre vs ns:=by
 intro ns
 induction ns with|nil =>intro vs w;cases w;exact .nil|cons n ns ih =>intro vs w;cases w with|cons a b =>cases a;exact .cons _ _ (ih _ b)
theorem NG{l:OpenLaw}{n:Nat}(hn:l.most=some n){P:Params}{h:Heap}{args:List WData}{vals:List Value}
  (cA:l.row.toRowW.claim.pre args=true) (gg:WellAll P h vals args) :
  ∃a vs ns,vals=[Value.ref a]/\args=[WData.list (ns.map WData.int)]/\h.get? a=some {cls:=.type "list",data:=.seq vs.toArray}/\IntsAre vs ns/\ns.length<=n:=by
 have lA:WShape.hasAll [] args [.list .int]=true:=(pre_splitW cA).1;have hc:l.pre.holds [] {args:=args}=true:=(pre_splitW cA).2;obtain⟨d,r,rfl,h1,h2⟩:=hasAllW_cons lA;obtain rfl:=hasAllW_nil h2;obtain⟨xs,rfl,h3⟩:=hasW_list h1;obtain⟨ns,rfl⟩:=items_int h3;have hlen:ns.length<=n:=by
  have h4:(WTm.not (.lt (.lit (.int (n:Int))) (.len (.arg 0)))).holds [] {args:=[.list (ns.map .int)]}=true:=by have h4:=(holds_andW hc).1;rwa[hn]at h4
  have h5:=condW_of h4 (w_not (w_lt w_lit (w_len_list (w_arg rfl))));refine Nat.le_of_not_lt λq=>?_
  first
   |(rw[oO q']at h5;exact absurd h5 (by decide))
   |(simp at h5;lia)
 cases gg with|cons w1 w2 =>cases w2;cases w1 with|list ho cN=>exact⟨_,_,ns,rfl,rfl,ho,Gf ns _ cN,hlen⟩
theorem NZ(l:OpenLaw)(args:List WData):l.row.toRowW.claim.post args (.bool true) args=true :=
 postW_of
  (show WShape.has [] (.bool true) .bool=true by first|rfl|decide|simp[WShape.armsAll])
  (show(WTm.eq .res (.lit (.bool true))).value [] {args:=args,res:=some (.bool true),after:=args}=some (.bool (true==true))from w_eq_bool (w_res rfl) w_lit) rfl
variable{E:Zcv}
end Att
namespace Lake.L2
open PySem PySem.Spec PyProof.Rows
theorem IL:∀{vs:List Value}{ns:List Int},IntsAre vs ns->Vals (ns.map V.int) vs
 |_,_,.nil=>.nil
 |_,_,.cons n t h=>.cons ⟨t,rfl⟩ (IL h)
def Only(H:Hp):Prop:=∀b,H b=none\/∃o xs,H b=some (.frz o (.lst xs))
theorem Rz{P:Program}{w:World}{K:Fg}{mg mb:Zsv}{CX:CXT}{k:Nat}{fa a:Addr}{fd:FuncData}{x:Str}{sp:Sp}{aw:Shared}{vs:List Value}{ns:List Int}
  (KX:K.In aw.heap) (jK:aw.heap.Ns mainGlobals mg) (hb:aw.heap.Ns builtinsNs mb) (kT:∀x:Str,x≠"__name__"->mb x=bootBuiltins x) (iC:aw.heap.NoLimit) (hg:aw.gens=#[])
  (ha:aw.heap.get? a=some {cls:=.type "list",data:=.seq vs.toArray}) (hi:IntsAre vs ns) (hl:ns.length<=sizeLine) (hr:C8 k callerA)
  (F:∀base:Heap,K.In base->base.Ns mainGlobals mg->EY P w K mg base CX k fa fd [x] sp) (fO:∀(s:Shared)(u:Value),BindsTo s fd ⟨[u],[]⟩ [(x,u)])
  (dq:∀H:Hp,Only H->SqL K H a (ns.map V.int)->sp [.ref a] H (λv _=>v=.v true) λ_ _ _=>False)
  (fN:∀H e s',CX [] H aw (λ_ _ _=>False) e s'->False) :
  codeAny (model P w) callerA (.call (.ref fa) ⟨[.ref a],[]⟩) (λr s'=>r=.ok (.ret (.bool true))/\OldK aw.heap s'.heap/\s'.os=aw.os/\AllBare s'.gens) aw:=by
 have rv:=IL hi;have iQ:=hi.length;have core:∀H:Hp,Only H->SqL K H a (ns.map V.int)->HOk P w H aw.heap->(∀b,H b≠none->b=a)->(H a≠none->K.lookup a=none) ->
   codeAny (model P w) callerA (.call (.ref fa) ⟨[.ref a],[]⟩) (λr s'=>r=.ok (.ret (.bool true))/\OldK aw.heap s'.heap/\s'.os=aw.os/\AllBare s'.gens) aw:=by
  intro H hO hS z9 hA hK;have b7:∀{b:Addr}{o:Obj},aw.heap.get? b=some o->H b=none->(RK aw.heap H).get? b=some o:=λe n=>RI e n
  have gq:∀{b:Addr}{o:Obj}{es:Array DictEntry}{ep:Nat},aw.heap.get? b=some o->o.data=.dict es ep->H b=none:=λ{b o es ep} e d=>by cases q:H b with|none=>rfl|some u =>have e':b=a:=hA b (by rw[q];simp);subst e';rw[ha]at e;cases e;have d':Data.seq vs.toArray _=Data.dict es ep:=d;cases d'
  have gP:∀{b:Addr}{m:Zsv},aw.heap.Ns b m->(RK aw.heap H).Ns b m:=λ{b m} ⟨o,es,ep,e,d,r⟩=>⟨o,es,ep,b7 e (gq e d),d,r⟩
  have ju:K.In (RK aw.heap H):=λb o e=>b7 (KX b o e) (by cases q:H b with|none=>rfl|some u =>have e':b=a:=hA b (by rw[q];simp);subst e';rw[hK (by rw[q];simp)]at e;cases e)
  have hM:Mod K mg (RK aw.heap H):=⟨ju,gP jK,⟨mb,gP hb,kT⟩,let⟨mc,h1,h2⟩:=iC;⟨mc,gP h1,h2⟩⟩
  have e0:Yg P w K mg (RK aw.heap H) callerA [] aw H:=⟨rfl,hM,λb o e=>Wg e,Nat.le_of_eq (OX _ _),trivial,λb hb=>absurd (show b∈([]:List Addr)from hb) (by simp),z9,.of_eq hg⟩
  refine codeAny_mono ((F _ ju (gP jK)).run callerA [] aw H ⟨[.ref a],[]⟩ [.ref a] [.ref a] _ _ hr e0 (fO aw (.ref a)) (.cons rfl .nil) (dq H hO hS)) λr s' h=>?_
  cases r with
  |error e=>exact(fN H e s' h).elim
  |ok fl =>
   cases fl with
   |next=>exact False.elim h
   |brk=>exact False.elim h
   |cont=>exact False.elim h
   |ret u =>
    obtain⟨v,H',os,bare,un,iH,r',q⟩:=h;have q':v=.v true:=q;subst q';obtain rfl:u=Value.bool true:=r';refine⟨rfl,OldK.of_keep λb o e=>?_,os,bare⟩;cases q:H b with
    |none=>exact un.keep b o e q (by intro z;exact absurd (show b∈([]:List Addr)from z) (by simp)) (by simp)
    |some u =>
     rcases hO b with z|⟨ob,xs,z⟩
     .rw[q]at z;cases z
     .have z2:=un.zQ b ob _ z;obtain⟨e1,_⟩:=z9 b _ z;obtain⟨e2,_⟩:=iH b _ z2;rw[e]at e1;cases e1;exact e2
 cases hk:K.lookup a with
 |some o =>have e:=KX a o hk;rw[ha]at e;cases e;refine core (λ_=>none) (λ_=>.inl rfl) (.inr ⟨_,vs.toArray,_,hk,rfl,rfl,rfl,by rw[nV,iQ];exact hl,by simpa using rv⟩) (λb u z=>by have z':(none:Option HO)=some u:=z;cases z') (λb z=>absurd rfl z) λz=>absurd rfl z
 |none =>
  refine core (λb=>if b=a then some (.frz {cls:=.type "list",data:=.seq vs.toArray} (.lst (ns.map V.int)))else none) (λb=>?_) (.inl (.inr ⟨{cls:=.type "list",data:=.seq vs.toArray},if_pos rfl⟩)) (λb u z=>?_) (λb z=>?_) λ_=>hk
  .by_cases hb:b=a
   .exact .inr ⟨_,_,if_pos hb⟩
   .exact .inl (if_neg hb)
  .by_cases hb:b=a
   .have z':=(if_pos hb).symm.trans z;cases z';subst hb;exact⟨ha,by rw[nX];exact hl,vs,_,rv,ha⟩
   .have z':=(if_neg hb).symm.trans z;cases z'
  .by_cases hb:b=a
   .exact hb
   .exact absurd (if_neg hb) z
def inClass(s:Stmt)(j:Nat):Stmt:=match s with|.ClassDef _ _ _ body _ _ _ _ _ _ _=>body.getD j (.Pass ⟨0,0,0,0⟩)|_=>.Pass ⟨0,0,0,0⟩
def Gp(s:Stmt):Arguments:=match s with|.FunctionDef _ a _ _ _ _ _ _ _ _=>a|_=>{posonlyargs:=[],args:=[],vararg:=none,kwonlyargs:=[],kw_defaults:=[],kwarg:=none,defaults:=[]}
def D7(s:Stmt):List Stmt:=match s with|.FunctionDef _ _ b _ _ _ _ _ _ _=>b|_=>[]
def Bk(s:Stmt):Scope:=match s with|.FunctionDef _ _ _ _ _ _ sc _ _ _=>sc|_=>{kind:=.function,names:=[],isGenerator:=false,isCoroutine:=false}
abbrev E0:XK:=λ_ _ _=>False
structure Fun(K:Fg)(x qual:Str)(st:Stmt)(f:Addr)(fd:FuncData):Prop where
 ex:∃(oc:Value)(od:Option Addr)(kV bJ pm:Value)(an:Option Addr)(cdv ct:Value)(eF:Array (Option Value)),
  fd=fnOf x qual (Gp st) (D7 st) (Bk st) .none kV bJ pm an cdv ct/\K.lookup f=some ⟨oc,od,.func fd,eF⟩/\codeIn K cdv qual=true
 kp:keepIn K (.ref f)=true
variable{K:Fg}
theorem Fun.binds{x qual:Str}{st:Stmt}{f:Addr}{fd:FuncData}{ps:List Str}(F:Fun K x qual st f fd)
  (h:∀(kV bJ pm:Value)(an:Option Addr)(cdv ct:Value)(us:List Value),us.length=ps.length->bindArgs (fnOf x qual (Gp st) (D7 st) (Bk st) .none kV bJ pm an cdv ct) ⟨us,[]⟩=pure (ps.zip us)):Binds K fd ps []:=by
 obtain⟨oc,od,kV,bJ,pm,an,cdv,ct,eF,rfl,lk,cq⟩:=F.ex;exact .all (h kV bJ pm an cdv ct)
theorem Uz{x qual:Str}{st:Stmt}{f:Addr}{oc:Value}{od an:Option Addr}{eF:Array (Option Value)}{kV bJ pm cdv ct:Value}(l:K.lookup f=some ⟨oc,od,.func (fnOf x qual (Gp st) (D7 st) (Bk st) .none kV bJ pm an cdv ct),eF⟩)
  (c:codeIn K cdv qual=true) (k:keepIn K (.ref f)=true):Fun K x qual st f (fnOf x qual (Gp st) (D7 st) (Bk st) .none kV bJ pm an cdv ct):=⟨⟨oc,od,kV,bJ,pm,an,cdv,ct,eF,rfl,l,c⟩,k⟩
theorem hu_of(hr:C8 k A):A.units+1<cLine:=Nat.lt_of_le_of_lt (Nat.add_le_add_left (by decide:1<=64) _) hr.units
theorem pv(i:Nat)(hN:X.N[i]?=some x:=by rfl)(hv:Vis X.env.scope x:=by first|exact Or.inl rfl|exact Or.inr (Or.inl rfl)|exact Or.inr (Or.inr rfl))(hd:Zdb x:=by decide)
  (cq:(x==("__classdict__":Str))=false:=by decide):PE X (.Name x pos) (Kb i):=ZU hN hv hd cq
section
variable{κ:Type}[DecidableEq κ]
end
theorem D8:∀(l:List (Str×NameKind))(cs:List (Str×Addr)),(∀y∈l,y.2=.free->∃c,env.cells.lookup y.1=some c)->(∀n c,cs.lookup n=some c->env.cells.lookup n=some c) ->
  ∃cl,(forIn l cs λ(x:Str×NameKind)(r:List (Str×Addr))=>match x with|(name,kind)=>if(kind==NameKind.free)=true then do let c <- cellOf env name;pure (ForInStep.yield ((name,c)::r))else pure (ForInStep.yield r))=(pure cl:Sem _) /\
   (∀n c,cl.lookup n=some c->env.cells.lookup n=some c)/\(∀y∈l,y.2=.free->∃c,cl.lookup y.1=some c)/\(∀n c,cs.lookup n=some c->∃c',cl.lookup n=some c')
 | [],cs,_,h2=>⟨cs,rfl,h2,(λ_ h=>nomatch h),λn c h=>⟨c,h⟩⟩
 |(n,k)::r,cs,h1,h2=>by
  by_cases e:k=.free
  .subst e;obtain⟨c,hc⟩:=h1 (n,.free) n4 rfl;have e1:cellOf env n=(pure c:Sem _):=by unfold cellOf;rw[hc]
   obtain⟨cl,q1,q2,q3,q4⟩:=D8 r ((n,c)::cs) (λy hy=>h1 y (nZ _ hy)) (λn' c' q=>by rw[oR]at q;cases hb:n'==n with|true=>rw[hb]at q;cases q;rw[beq_iff_eq.mp hb];exact hc|false=>rw[hb]at q;exact h2 _ _ q);have eB:=q4 n c (by simp);refine⟨cl,?_,q2,λy hy hf=>?_,λn' c' q=>?_⟩
   .rw[List.forIn_cons];simp only[e1];exact q1
   .rcases oh.mp hy with rfl|hy
    .exact eB
    .exact q3 y hy hf
   .by_cases hb:n'=n
    .subst hb;exact eB
    .exact q4 n' c' (by rwa[oR,beq_eq_false_iff_ne.mpr hb])
  .obtain⟨cl,q1,q2,q3,q4⟩:=D8 r cs (λy hy=>h1 y (nZ _ hy)) h2;refine⟨cl,?_,q2,λy hy hf=>?_,q4⟩
   .rw[List.forIn_cons];have hb:(k==NameKind.free)=false:=by simpa using e
    simp only[hb,pure_bind];exact q1
   .rcases oh.mp hy with rfl|hy
    .exact absurd hf e
    .exact q3 y hy hf
theorem Em(h:∀y∈sc.names,y.2=.free->∃c,env.cells.lookup y.1=some c):
  ∃cl,closureFor sc env=pure cl/\(∀n c,cl.lookup n=some c->env.cells.lookup n=some c)/\(∀y∈sc.names,y.2=.free->∃c,cl.lookup y.1=some c):=by
 obtain⟨cl,q1,q2,q3,_⟩:=D8 sc.names [] h (λn c q=>by simp at q);refine⟨cl,?_,q2,q3⟩;unfold closureFor;simp only[bind_pure];refine Eq.trans ?_ q1;congr 1
variable{R:Result->Shared->Prop}
theorem JD(I:Nat->Shared->Prop)
  (turn:∀n s,I n s->wpAny (model prog w) A (pyNext it) (λr aw=>match r with
   |none=>R (.ok .next) aw
   |some v=>wpAny (model prog w) A (letOwnedTupleGo target it v) (λ_ aw=>wpAny (model prog w) A (assign target env v) (λ_ bH =>
     wpAny (model prog w) A (forIn bj true λc r=>if r=true then do let ok <- isTrue c env (eval c env);pure (ForInStep.yield ok)else pure (ForInStep.yield r)) (λok aX =>
      if ok=true then wpAny (model prog w) A (eval elt env) (λx dQ =>wpAny (model prog w) A (call (.builtin "list.append") [ar,x]) (λ_ gC=>∃m,m<n/\I m gC) (λ_ _=>False) dQ) (λ_ _=>False) aX
      else ∃m,m<n/\I m aX) (λ_ _=>False) bH) (λ_ _=>False) aw) (λ_ _=>False) aw) (λ_ _=>False) s)
  (n:Nat) (h:I n s) :
  codeAny (model prog w) A (.compLoop (.ListComp elt [⟨target,av,bj,0⟩] scope pos) 0 it ar env) R s:=by
 refine codeAny_loop rfl I (λn s hI=>?_) n h;refine wpAny_noted ?_;refine nM (wpAny_standAt (nM (wpAny_mono (turn n s hI) (λr aw aL=>?_) λ_ _ h'=>h'.elim)));cases r with|none=>exact nW aL|some v =>refine nM (wpAny_mono aL (λ_ j4 gj=>?_) λ_ _ h'=>h'.elim);refine nM (wpAny_mono gj (λ_ bH cZ=>nM (wpAny_mono cZ (λok aX cB=>?_) λ_ _ h'=>h'.elim)) λ_ _ h'=>h'.elim);cases ok with|false=>exact nW ⟨rfl,cB⟩|true =>exact nM (nM (wpAny_mono cB (λx dQ iN=>nM (wpAny_mono iN (λ_ gC iO=>nW (nW ⟨rfl,iO⟩)) λ_ _ h'=>h'.elim)) λ_ _ h'=>h'.elim))
structure Me(fn sc:Scope):Prop where
 kind:sc.kind=.function
 yM:∀y∈sc.names,y.2≠.cell
 loc:∀y∈sc.names,y.2=.local->sc.names.lookup y.1=some .local
 fr:∀y∈sc.names,y.2=.free->fn.names.lookup y.1=some .cell\/fn.names.lookup y.1=some .free
def EU(fn sc:Scope):Bool :=
 decide (sc.kind=.function)&&sc.names.all λy=>decide (y.2≠.cell)&&(decide (y.2≠.local)||decide (sc.names.lookup y.1=some .local)) &&
  (decide (y.2≠.free)||decide (fn.names.lookup y.1=some .cell)||decide (fn.names.lookup y.1=some .free))
theorem JC(h:EU fn sc=true):Me fn sc:=by
 unfold EU at h;rw[oy,pj]at h;obtain⟨h1,h2⟩:=h;refine⟨oj h1,λy hy=>?_,λy hy e=>?_,λy hy e=>?_⟩
 all_goals
  have q:=h2 y hy;rw[oy,oy]at q;obtain⟨⟨q1,q2⟩,q3⟩:=q
 .exact oj q1
 .rw[pM]at q2;rcases q2 with q|q
  .exact absurd e (oj q)
  .exact oj q
 .rw[pM,pM]at q3;rcases q3 with(q|q)|q
  .exact absurd e (oj q)
  .exact .inl (oj q)
  .exact .inr (oj q)
theorem Cm{env:Env}:∀{names:List (Str×NameKind)},
  (names.map λ(n,k)=>if(k==NameKind.free&&env.scope.kind==.function&&env.kindOf n==some .cell)then(n,NameKind.cell)else(n,k)).lookup x=some k'->∃k,names.lookup x=some k/\(k'=k\/(k=.free/\k'=.cell))
 | [],h=>by simp at h
 |(n,k)::r,h=>by
  have h:List.lookup x ((if(k==NameKind.free&&env.scope.kind==.function&&env.kindOf n==some .cell)=true then(n,NameKind.cell)else(n,k))::_)=some k':=h;cases hx:x==n with
  |true =>
   refine⟨k,by simp[oR,hx],?_⟩;by_cases hc:(k==NameKind.free&&env.scope.kind==.function&&env.kindOf n==some .cell)=true
   .rw[if_pos hc]at h;simp only[oR,hx]at h;cases h;rw[oy,oy]at hc;exact .inr ⟨beq_iff_eq.mp hc.1.1,rfl⟩
   .rw[if_neg hc]at h;simp only[oR,hx]at h;cases h;exact .inl rfl
  |false =>
   obtain⟨k0,e1,e2⟩:=Cm (by
    by_cases hc:(k==NameKind.free&&env.scope.kind==.function&&env.kindOf n==some .cell)=true
    .rw[if_pos hc]at h;simpa only[oR,hx]using h
    .rw[if_neg hc]at h;simpa only[oR,hx]using h)
   exact⟨k0,by simp only[oR,hx];exact e1,e2⟩
def Bn(X:Cx)(N:List Str)(sc:Scope)(cl:List (Str×Addr))(C:Addr)(s:Shared)(H:Hp)(ex:List Addr):Cx :=
 {X with N:=N,zW:=s,y0:=H,env:=compEnvC sc cl C X.env,outer:=X.stack,stack:=X.stack,ex:=ex,fn:=λ_=>false,xe:=λ_ _=>False}
def Ea(XN:List Str)(sc:Scope):List Str->List (Option Nat)->Bool
 | [],[]=>true
 |n::r,none::q=>Ea XN sc r q
 |n::r,some i::q=>decide (XN[i]?=some n)&&decide (sc.names.lookup n=some .free)&&Ea XN sc r q
 |_,_=>false
def E3(U:St)(src:List (Option Nat)):St:=src.map λo=>o.bind λi=>(U[i]?).join
theorem Gu:∀{N:List Str}{src:List (Option Nat)},Ea XN sc N src=true->src.length=N.length
 | [],[],_=>rfl
 |_::r,none::q,h=>by rw[n8,n8,Gu (src:=q) h]
 |_::r,some i::q,h=>by unfold Ea at h;rw[oy]at h;rw[n8,n8,Gu h.2]
 | [],_::_,h=>by cases h
 |_::_,[],h=>by cases h
theorem JH:∀{N:List Str}{src:List (Option Nat)}{j i:Nat}{n:Str},Ea XN sc N src=true->N[j]?=some n->src[j]?=some (some i)->XN[i]?=some n/\sc.names.lookup n=some .free
 | [],_,j,i,n,_,h1,_=>by simp at h1
 |_::_,[],j,i,n,_,_,h2=>by simp at h2
 |n0::r,o::q,0,i,n,h,h1,h2=>by simp at h1 h2;subst h1;subst h2;unfold Ea at h;rw[oy,oy]at h;exact⟨oj h.1.1,oj h.1.2⟩
 |n0::r,o::q,j+1,i,n,h,h1,h2=>by refine JH ?_ (by simpa using h1) (by simpa using h2);cases o with|none=>exact h|some k =>unfold Ea at h;rw[oy]at h;exact h.2
variable{src:List (Option Nat)}
theorem Jce(I:Inv X aa U H s)(hf:∀b∈fp,GW X aa H b)(eN:∀b∈fp,b<s.heap.objs.size)(hS:Me X.env.scope sc)(hC:s.heap.objs.size<=C)
  (bQ:∀n c,cl.lookup n=some c->X.env.cells.lookup n=some c) (bN:∀y∈sc.names,y.2=.free->∃c,cl.lookup y.1=some c):(Bn X N sc cl C s H fp).Ok where
 mod:=I.ok.mod
 kind:=hS.kind
 glob:=I.ok.glob
 blt:=I.ok.blt
 above:=hC
 inj:=λx y c h1 h2=>I.ok.inj x y c (bQ _ _ h1) (bQ _ _ h2)
 has:=λx hx=>by
  have free:∀k',(k'=NameKind.cell\/k'=NameKind.free)->(relabel sc X.env).names.lookup x=some k'->∃c,cl.lookup x=some c:=λk' hk e=>by
   obtain⟨k,e1,e2⟩:=Cm e;have hm:=PySem.mem_of_lookup e1;exact bN _ hm (by
    rcases e2 with e2|⟨e2,_⟩
    .subst e2;rcases hk with hk|hk
     .exact absurd hk (hS.yM _ hm)
     .exact hk
    .exact e2)
  rcases hx with hx|hx
  .exact free _ (.inl rfl) hx
  .exact free _ (.inr rfl) hx
 yQ:=λx c h _=>absurd (show false=true from h) oz
 hd:=I.ok.hd
 frames:=I.ok.frames
 yJ:=.inl rfl
 yH:=λb hb=>⟨oA (oq (eN b hb) hC),λx c e=>(hf b hb).2.2.2.2.1 x c (bQ x c e)⟩
 bs:=I.bs
 zi:=oB I.ok.zi I.sz
 zd:=λb o e hb=>by
  rcases(hf b hb).2.2.2.1 with z|z
  .exact I.ok.zd b o e z
  .exact absurd (oq (oa e) (oB I.ok.zi z)) (pq _)
 zh:=λb hb hz=>by
  rcases oh.mp (I.IQ b hz)with z|z
  .exact(hf b hb).2.1 z
  .exact(hf b hb).2.2.1 z
 LP:=I.stack
 yW:=I.Kg
theorem X6(I:Inv X aa U H s)(hf:∀b∈fp,GW X aa H b)(eN:∀b∈fp,b<s.heap.objs.size)(hS:Me X.env.scope sc)
  (bQ:∀n c,cl.lookup n=some c->X.env.cells.lookup n=some c) (bN:∀y∈sc.names,y.2=.free->∃c,cl.lookup y.1=some c) (aT:Ea X.N sc N src=true)
  (hD:s.heap.objs.size<=D) (hC:s.heap.objs.size<=C) (gG:D≠C) (hk:∀b o,s.heap.get? b=some o->h'.get? b=some o) (hn:h'.Ns C m) (hl:h'.get? D=some {cls:=.type "list",data:=.seq (#[]:Array Value)}) :
  Inv (Bn X N sc cl C s H fp) aa (E3 U src) (upd H D (.lst [])) {s with heap:=h',toks:=tk}:=by
 have old:∀{b:Addr}{o:Obj},s.heap.get? b=some o->b≠D/\b≠C:=λ{b o} e=>⟨oA (oq (oa e) hD),oA (oq (oa e) hC)⟩
 refine⟨Jce I hf eN hS hC bQ bN,rfl,I.bare,Un.laid hk hD (I.z9.fresh hD),⟨m,hn,λj x v e1 e2 e3=>?_⟩,λx c e=>?_,?_,λx c e=>?_,λp hp=>?_,I.z9.laid hk hD ⟨pf _,[],0,.nil,hl⟩,?_⟩
 .unfold E3 at e2;rw[ou]at e2;cases q:src[j]? with
  |none=>rw[q]at e2;cases e2
  |some o =>
   rw[q]at e2;cases o with
   |none=>cases e2
   |some i =>
    have fK:(U[i]?).join=some v:=Option.some.inj e2;obtain⟨g1,g2⟩:=JH aT e1 q;obtain⟨m0,_,k8⟩:=I.loc;have cx:=hS.fr _ (PySem.mem_of_lookup g2) rfl;obtain⟨u,ru,lk⟩:=k8 i x v g1 (by cases r:U[i]? with|none=>rw[r]at fK;cases fK|some u=>rw[r]at fK;cases u with|none=>cases fK|some u=>have e5:=fK;cases e5;rfl) (cx.elim (λz=>.inr (.inl z)) λz=>.inr (.inr z));refine⟨u,ru,.inr ⟨?_,?_⟩⟩
    .rcases e3 with e3|e3|e3
     .obtain⟨k,r1,r2⟩:=Cm (show(relabel sc X.env).names.lookup x=some .local from e3);rw[g2]at r1;cases r1;rcases r2 with r2|⟨_,r2⟩<;>cases r2
     .exact .inl e3
     .exact .inr e3
    .obtain⟨c,hc⟩:=bN _ (PySem.mem_of_lookup g2) rfl;refine⟨c,hc,?_⟩;rcases lk with⟨lk,_⟩|⟨_,c',gH,z⟩
     .rcases cx with z|z
      .have z':X.env.kindOf x=some .cell:=z;rw[lk]at z';cases z'
      .have z':X.env.kindOf x=some .free:=z;rw[lk]at z';cases z'
     .have:=bQ _ _ hc;rw[gH]at this;cases this;obtain⟨o,ho,hd⟩:=z;exact⟨o,hk _ _ ho,hd⟩
 .obtain⟨v,o,ho,hd⟩:=I.cell x c (bQ x c e);exact⟨v,o,hk _ _ ho,hd⟩
 .show upd H D (.lst []) C=none;rw[Al (Ne.symm gG)];exact(I.z9.fresh hC)
 .obtain⟨v,o,ho,hd⟩:=I.cell x c (bQ x c e);rw[Al (old ho).1];exact I.zV x c (bQ x c e)
 .obtain⟨p1,p2,p3,p4,p5⟩:=I.pin p hp;refine⟨hk _ _ p1,by rw[Al (old p1).1];exact p2,(old p1).2,λz=>?_,p5⟩;rcases oh.mp (I.IQ _ z)with z|z
  .exact p3 z
  .exact p4 z
 .show(E3 U src).length=N.length;unfold E3;rw[nX];exact Gu aT
def UX(X:Cx)(bj:List Expr)(t:TT):Prop :=
 ∀(aa:Zao)(s:Shared)(U:St)(H:Hp)(Q:Bool->Hp->Prop),Inv X aa U H s->t U H Q ->
  wpAny (model X.prog X.w) X.A (forIn bj true λc r=>if r=true then do let ok <- isTrue c X.env (eval c X.env);pure (ForInStep.yield ok)else pure (ForInStep.yield r)) (TP X aa U Q) X.xe s
def tYes:TT:=λ_ H Q=>Q true H
theorem Q4:UX X [] tYes:=λaa s U H Q I h=>nW ⟨H,I,h⟩
theorem Q3(h:PT X c t):UX X [c] t:=by intro aa s U H Q I q;rw[List.forIn_cons];refine nM (nM (thn (h aa s U H Q I q) λb s1 q1=>nW ?_));exact nW q1
def Jb4(J:It)(g:TG)(tt:TT)(te:TE)(Q:VK)(mU:St)(H1:Hp):Prop:=∀D,H1 D=none ->
 ∃W:Nat->Nat->St->Hp->Prop,(∃m,W 0 m mU (upd H1 D (.lst [])))/\∀i m τ H2,W i m τ H2 ->
  (J.stop i H2/\Q (.ref D) H2)\/(J.go i H2/\∃N:St->Hp->Prop,(∀gZ H',N gZ H'->∃m',m'<m/\W (i+1) m' gZ H')/\∀x H3,J.yV i H2 x H3->g x τ H3 λbq H4=>tt bq H4 λb H5 =>if b=true then te bq H5 λy H6=>∃ys,H6 D=some (.lst ys)/\ys.length<sizeLine/\N bq (upd H6 D (.lst (ys++[y])))else N bq H5)
def Vk(src:List (Option Nat))(wi:TI)(g:TG)(tt:TT)(te:TE):TE:=λU H Q=>wi U H λJ H1=>Jb4 J g tt te Q (E3 U src) H1
theorem L0(aI:X.calm=true)(hS:Me X.env.scope sc)(aT:Ea X.N sc N src=true)
  (hg:∀cl C s H fp,PG (Bn X N sc cl C s H fp) tg g) (ht:∀cl C s H fp,UX (Bn X N sc cl C s H fp) bj tt) (he:∀cl C s H fp,PE (Bn X N sc cl C s H fp) elt te)
  {RR:Value->Addr->Result->Shared->Prop}
  (bQ:∀n c,cl.lookup n=some c->X.env.cells.lookup n=some c) (bN:∀y∈sc.names,y.2=.free->∃c,cl.lookup y.1=some c)
  (I:Inv X aa U H s) (T:Turn X.prog X.w X.K tg J fp it tn) (t0:tn 0 s.heap) (hf:∀b∈fp,GW X aa H b) (hw:Jb4 J g tt te Q (E3 U src) H)
  (hR:∀(D C:Addr)(s':Shared)(τ:St)(H':Hp)(m:Zsv),s.heap.objs.size<=C->s'.heap.Ns C m->Inv (Bn X N sc cl C s H fp) aa τ H' s'->(∀b∈fp,H' b=none)->Q (.ref D) H'->RR (.ref D) C (.ok .next) s') :
  wpAny (model X.prog X.w) X.A (newList []) (λar aX=>wpAny (model X.prog X.w) X.A (newFunctionEnv sc X.env.globals cl [] X.env.qual none .none (some X.env)) (λfI dQ =>codeAny (model X.prog X.w) X.A (.compStart (.ListComp elt [⟨tg,av,bj,0⟩] sc pos) 0 (.ref it) ar {fI with scope:=relabel sc X.env}) (RR ar fI.locals) dQ) E aX) E s:=by
 have eN:∀b∈fp,b<s.heap.objs.size:=λb hb=>by obtain⟨o,e,_⟩:=T.obj 0 _ t0 b hb;exact oa e
 refine wpAny_newObj_type (wpAny_newFunctionEnv hS.yM (by intro y hy;simp at hy) (λaL cX bU=>?_) hS.kind);generalize hH2:s.heap.push {cls:=.type "list",dict:=none,data:=.seq ([]:List Value).toArray}=H2 at cX bU ⊢;have hC:H2.objs.size=s.heap.objs.size+1:=by rw[<- hH2,o5]
 have gG:s.heap.objs.size≠H2.objs.size:=by rw[hC];exact oA (qE _)
 have dA:s.heap.objs.size<=H2.objs.size:=by rw[hC];exact Nat.le_succ _
 have old:=λb o e=>bU.extBut b o (oA (oq (oa e) dA)) (nR _ (hH2▸nR _ e))
 obtain⟨W,⟨m0,w0⟩,turn⟩:=hw s.heap.objs.size (I.z9.fresh (n9 _));have Y0:Inv (Bn X N sc cl H2.objs.size s H fp) aa (E3 U src) (upd H s.heap.objs.size (.lst [])) {s with heap:=aL,toks:=s.toks+([]:List (Str×Value)).length} :=
  X6 I hf eN hS bQ bN aT (n9 _) dA gG old cX (bU.extBut _ _ gG (nR _ (hH2▸n5 _ rfl)))
 have t1:tn 0 aL:=T.keep 0 _ _ t0 λb _ o e=>old b o e
 have b5:∀{H':Hp},(∀b∈fp,H' b=none)->∀b∈fp,GW (Bn X N sc cl H2.objs.size s H fp) aa H' b:=λ{H'} hn b hb =>⟨hn b hb,oA (oq (eN b hb) dA),Y0.ok.zh b hb,.inl hb,(Y0.ok.yH b hb).2,(hf b hb).2.2.2.2.2⟩
 have loop:∀aX:Shared,aX={s with heap:=aL,toks:=s.toks+([]:List (Str×Value)).length} ->
   codeAny (model X.prog X.w) X.A (.compLoop (.ListComp elt [⟨tg,av,bj,0⟩] sc pos) 0 (.ref it) (.ref s.heap.objs.size) (compEnvC sc cl H2.objs.size X.env)) (RR (.ref s.heap.objs.size) H2.objs.size) aX:=by
  rintro aX rfl
  refine JD (λn s'=>∃i τ H',Inv (Bn X N sc cl H2.objs.size s H fp) aa τ H' s'/\tn i s'.heap/\(∀b∈fp,H' b=none)/\W i n τ H') ?_ m0 ⟨0,_,_,Y0,t1,(λb hb=>by
  rw[Al (oA (eN b hb))];exact(hf b hb).1),w0⟩
  rintro n s4 ⟨i,τ,H4,I4,t4,fr4,w4⟩
  rcases turn i n τ H4 w4 with⟨stop,qn⟩|⟨go,Nx,hNx,step⟩
  .refine thn (T.done (Bn X N sc cl H2.objs.size s H fp) rfl rfl rfl aI i aa s4 τ H4 _ I4 (b5 fr4) t4 stop) λr s5 ⟨hr,I5⟩=>?_
   subst hr;obtain⟨m5,lg,_⟩:=I5.loc;exact hR _ _ s5 τ H4 m5 dA lg I5 fr4 qn
  .refine thn (T.item (Bn X N sc cl H2.objs.size s H fp) rfl rfl rfl aI i aa s4 τ H4 _ I4 (b5 fr4) t4 go) λr s5 ⟨u,hr,h5⟩=>?_
   subst hr;refine thn h5 λ_ s6 aj=>?_
   obtain⟨x,H6,I6,r6,y6,i4,kJ⟩:= aj;have again:∀{dR:St}{H7:Hp}{s7:Shared}{m':Nat},Inv (Bn X N sc cl H2.objs.size s H fp) (aa++Jc fp s6.heap) dR H7 s7->m'<n->W (i+1) m' dR H7 ->
     ∃m,m<n/\∃i τ H',Inv (Bn X N sc cl H2.objs.size s H fp) aa τ H' s7/\tn i s7.heap/\(∀b∈fp,H' b=none)/\W i m τ H':=λ{dR H7 s7 m'} I7 hm w7=>by
    refine⟨m',hm,i+1,dR,H7,I7.E9,T.keep _ _ _ i4 λb hb o e=>(I7.pin (b,o) (oP _ (oP _ (DC hb e)))).1,λb hb=>?_,w7⟩;obtain⟨o,e,d⟩:=T.obj _ _ i4 b hb;exact(I7.pin (b,o) (oP _ (oP _ (DC hb e)))).2.1
   refine thn (hg cl H2.objs.size s H fp _ s6 τ H6 x u _ (I6.pinned (b5 kJ) (T.obj _ _ i4)) r6 (step x H6 y6)) λ_ s7 aj=>?_
   obtain⟨dR,H7,I7,q7⟩:= aj;refine thn (ht cl H2.objs.size s H fp _ s7 dR H7 _ I7 q7) λb s8 aj=>?_
   obtain⟨H8,I8,q8⟩:= aj;cases b with
   |false =>obtain⟨m',hm,w8⟩:=hNx _ _ q8;exact again I8 hm w8
   |true =>
    refine thn (he cl H2.objs.size s H fp _ s8 dR H8 _ I8 q8) λv s9 aj=>?_
    obtain⟨y,H9,I9,r9,ys,kQ,hz,w9⟩:= aj;obtain⟨m',hm,w9⟩:=hNx _ _ w9;refine thn (FY _ s9 dR H9 (.ref s.heap.objs.size) [y] (.ref s.heap.objs.size) [v] (λ_ Hn=>W (i+1) m' dR Hn) I9 rfl (.cons r9 .nil) ⟨_,ys,y,rfl,rfl,kQ,hz,w9⟩) λ_ nK aj=>?_
    obtain⟨_,mV,kg,_,mS⟩:= aj;exact again kg hm mS
 exact codeAny_compStart_list (loop _ rfl) (T.self X.A 0 _ _ _ t1 (loop _ rfl))
theorem P5(I:Inv X aa U H s)(hf:∀b∈fp,GW X aa H b)(J:Inv (Bn X N sc cl C s H fp) aa τ H' s'):Inv X aa U H' s' :=
 I.Jcd J.os J.base J.z9 J.bare λb hb=>⟨(hf b hb).2.2.2.1,(hf b hb).2.1,(hf b hb).2.2.2.2.1,(hf b hb).2.2.2.2.2⟩
theorem X5(I:Inv X aa U H s)(hC:s.heap.objs.size<=C)(hf:∀b∈fp,GW X aa H b)
  (J:Inv (Bn X N sc cl C s H fp) aa τ H' s') (hs:Heap.SameBut C s'.heap h'):Inv X aa U H' {s' with heap:=h' }:=by
 refine(P5 I hf J).turned (λb o hb e=>hs.extBut b o hb e) J.free (qu (oq I.lt hC)) (.inr (oB I.sz hC)) (λx c e z=>?_) λp hp z=>?_
 .obtain⟨v,q⟩:=I.cell x c e;exact absurd (oq q.lt (by rwa[z])) (pq _)
 .exact absurd (oq (oa (I.pin p hp).1) (by rwa[z])) (pq _)
theorem VY(N:List Str)(src:List (Option Nat))(aI:X.calm=true)(hi:PI X tg av wi)(hg:∀cl C s H fp,PG (Bn X N sc cl C s H fp) tg g)(ht:∀cl C s H fp,UX (Bn X N sc cl C s H fp) bj tt)
  (he:∀cl C s H fp,PE (Bn X N sc cl C s H fp) elt te) (hS:EU X.env.scope sc=true:=by rfl) (aT:Ea X.N sc N src=true:=by rfl)
  (hs:Zfs X.env av:=by intro _;rfl):PE X (.ListComp elt [⟨tg,av,bj,0⟩] sc pos) (Vk src wi g tt te):=by
 intro aa s U H Q I h;have S:=JC hS;obtain⟨cl,ie,bQ,bN⟩:=Em λy hy e=>I.ok.has y.1 (S.fr y hy e)
 refine wpAny_comprehension_free rfl hs ie S.kind S.loc (thn (hi aa s U H _ I h) λv s1 h1=>thn h1 λgM s2 h2=>?_);obtain⟨it,fp,tn,J,H2,e,I2,T,t2,f2,hw⟩:=h2;subst e;refine L0 aI S aT hg ht he bQ bN I2 T t2 f2 hw λD C s' τ H' m hC hn J' _ q=>?_
 exact⟨m,hn,λh' lz=>⟨.ref D,H',X5 I2 hC f2 J' lz,rfl,q⟩⟩
theorem My{i:Nat}{y:Str}{aP b4:Pos}(N:List Str)(src:List (Option Nat))(aI:X.calm=true)(hN:X.N.Nodup)(fS:X.N[i]?=some y)(hy:Loc X.env.scope y)(hi:PI X tg av wi)(hg:∀cl C s H fp,PG (Bn X N sc cl C s H fp) tg g)(ht:∀cl C s H fp,UX (Bn X N sc cl C s H fp) bj tt)
  (he:∀cl C s H fp,PE (Bn X N sc cl C s H fp) elt te) (hS:EU X.env.scope sc=true:=by rfl) (aT:Ea X.N sc N src=true:=by rfl)
  (hs:Zfs X.env av:=by intro _;rfl) (gf:swapsWith (.ListComp elt [⟨tg,av,bj,0⟩] sc pos) (some (.Name y aP)) b4.line X.env=pure true:=by rfl)
  (hf:X.fn y=true\/X.env.scope.names.lookup y=some .local:=by first|exact .inl rfl|exact .inr rfl|assumption) :
  PS X (.Assign [.Name y aP] (.ListComp elt [⟨tg,av,bj,0⟩] sc pos) b4) (Zb (Vk src wi g tt te) (R6 i)):=by
 intro aa s U H D0 I h;have S:=JC hS;obtain⟨cl,ie,bQ,bN⟩:=Em (sc:=sc) (env:=X.env) λy hy e=>I.ok.has y.1 (S.fr y hy e)
 rw[exec_Assign_Name_used _ _ _ _ gf];refine nM (wpAny_standAt (nM ?_));refine nM (wpAny_mono (wpAny_comprehension_free (use:=some (assign (.Name y aP) X.env)) (Q:=λ_ s'=>SP X aa D0 .next s') rfl hs ie S.kind S.loc
  (thn (hi aa s U H _ I h) λv s1 h1=>thn h1 λgM s2 h2=>?_)) (λ_ s' hq=>nW (nW hq)) λ_ _ e=>e)
 obtain⟨it,fp,tn,J,H2,e,I2,T,t2,f2,hw⟩:=h2;subst e;refine L0 aI S aT hg ht he bQ bN I2 T t2 f2 hw (RR:=λar C=>compPost (model X.prog X.w) X.A X.xe (some (assign (.Name y aP) X.env)) (λ_ s'=>SP X aa D0 .next s') ar C) λD C s' τ H' m hC hn J' _ q=>?_
 have jV:∀{b:Addr}{o:Obj},s2.heap.get? b=some o->b≠C:=λe=>oA (oq (oa e) hC)
 have cC:∀x c,X.env.cells.lookup x=some c->c≠C:=λx c e=>by obtain⟨v,o,ho,_⟩:=I2.cell x c e;exact jV ho
 have lC:X.env.locals≠C:=oA (oq I2.lt hC);refine wpAny_assign_Name (IP (P5 I2 f2 J') hN fS hy (v:=.ref D) rfl (λs3 I3 aj=>?_) hf);obtain⟨a,sb,ha⟩:= aj;refine⟨m,hn.sameBut sb (by
  rcases ha with rfl|ha
  .exact Ne.symm lC
  .exact Ne.symm (cC _ _ ha)),λh' bK=>⟨_,H',I3.turned (it:=C) (t':=s3.toks) (λb o hb e=>bK.extBut b o hb e) J'.free (Ne.symm lC) (.inr (oB I2.sz hC)) cC (λp hp z=>jV (I2.pin p hp).1 z),q⟩⟩
end Lake.L2
namespace PySem
namespace F
end F
variable{R:Result->Shared->Prop}
variable{G:Array GenState->Array GenState->Prop}{n:Nat}{P:Nat->Value->Prop}{St:Nat->Shared->Prop}
variable{E:Zcv}
end PySem
namespace Lake.L2
open PySem PySem.Spec PyProof.Rows
theorem SW(hc:X.calm=true):BK X (.builtin "sum") (λxs H Q=>∃(l:Addr)(ns:List Int),xs=[.ref l]/\SqL X.K H l (ns.map V.int)/\Q (.int ns.sum) H):=by
 intro aa s U H xs us Q I r h;obtain⟨l,ns,rfl,hq,q⟩:=h;obtain⟨u,rfl,rx⟩:=vals1 r;cases rx;obtain⟨its,rv,pl,hz⟩:=I.list hq;have hi:=intsAre_of rv;obtain⟨zs,hx⟩:=hi.allInts.items;refine sum_intListG (I.ok.hd hc) (hx▸pl.isList) λh' tk t' hk=>?_
 have e1:ns=zs.toList.map (·.1):=by rw[<- nums_intItems,<- hx];exact(show numsOf its.toArray.toList=ns from hi.numsOf).symm
 have e2:preSum (numAt zs) zs.size=ns.sum:=by rw[preSum_eq,List.take_of_length_le (by simp),e1]
 rw[e2];exact⟨.int ns.sum,H,I.kept hk,⟨_,rfl⟩,q⟩
theorem BJ:∀{bs:List Bool}{us:List Value},Vals (bs.map V.v) us->us=bs.map Value.bool
 | [],_,.nil=>rfl
 |b::bs,_,.cons r t=>by cases(show _=Value.bool b from r);rw[nQ,BJ t]
theorem S0(hc:X.calm=true):BK X (.builtin "all") (λxs H Q=>∃(l:Addr)(bs:List Bool),xs=[.ref l]/\SqL X.K H l (bs.map V.v)/\Q (.v (bs.all id)) H):=by
 intro aa s U H xs us Q I r h;obtain⟨l,bs,rfl,hq,q⟩:=h;obtain⟨u,rfl,rx⟩:=vals1 r;cases rx;obtain⟨its,rv,pl,hz⟩:=I.list hq;have hb:=BJ rv;have hl:=pl.isList;refine call_all_walk (wpAny_pyIter_list hl ?_);refine⟨s.heap.objs.size,[s.heap.objs.size,l],[s.heap.objs.size],its.toArray.size,_,_,λi=>(bs[i]?).getD true,rfl,Walks.list (A:=X.A.in1) (I.ok.hd hc) _ l (oA (by obtain⟨_,e,_⟩:=hl;exact oa e)) its.toArray,
  ⟨⟨_,n5 _ rfl,rfl,rfl⟩,hl.push _⟩,λi v s' Q' E' hP hQ=>?_,λh' tk hk=>?_⟩
 .have e:=by simpa using hP
  rw[hb,ou]at e;cases eb:bs[i]? with|none=>rw[eb]at e;cases e|some b =>rw[eb]at e;have e':=Option.some.inj e;subst e';simp only[eb]at hQ;exact wpAny_truthy_bool hQ
 .have e:((List.range its.toArray.size).all λi=>(bs[i]?).getD true)=bs.all id:=by
   have hlen:its.toArray.size=bs.length:=by rw[hb];simp
   rw[hlen];rw[pC,pj,pj];constructor
   .intro hh b hm;obtain⟨i,hi,rfl⟩:=pZ hm;have:=hh i (pw.mpr hi);simpa[nO hi]using this
   .intro hh i hi;have b8:=pw.mp hi;have:=hh _ (pY b8);simpa[nO b8]using this
  rw[e];exact⟨.v _,H,I.kept (λb o e=>hk b o (λhm=>by rw[oE.mp hm]at e;exact pq _ (oa e)) (nR _ e)),rfl,q⟩
theorem V6:OpR X (binaryOp .Mult) (rI IntMulOk λi j=>.int (i*j)):=opI λ_ _ _ _ _ _ _ hc q=>mul_int q hc
theorem N9:OpR X (binaryOp .Mult) (λx y H Q=>∃z n,x=.str z/\y=.int n/\MulOk z n/\Q (.str (Txt.mul z n)) H):=by intro aa s U H x y v u Q I rx ry h;obtain⟨z,n,rfl,rfl,z9,q⟩:=h;obtain⟨t,rfl⟩:=rx;obtain⟨t',rfl⟩:=ry;exact SB.mul z9 λt' k=>⟨.str _,H,I.tok _,⟨_,rfl⟩,q⟩
theorem FK:∀{ys:List Str}{us:List Value},Vals (ys.map V.str) us->StrsAre us ys
 | [],_,.nil=>.nil
 |y::ys,_,.cons r t=>by
  obtain⟨tk,rfl⟩:=(show ∃tk,_=Value.str y tk from r)
  exact .cons _ _ (FK t)
theorem Ws:MtR X "str.join" (λx xs H Q=>∃(z:Str)(l:Addr)(ys:List Str),x=.str z/\xs=[.ref l]/\SqL X.K H l (ys.map V.str)/\(ys.map (·.length)).sum+ys.length*z.length<=16777216/\Q (.str (Txt.join z ys)) H):=by intro aa s U H x xs v us Q I rx rv h;obtain⟨z,l,ys,rfl,rfl,hq,z9,q⟩:=h;obtain⟨t,rfl⟩:=rx;obtain⟨u,rfl,ru⟩:=vals1 rv;cases ru;obtain⟨its,r,pl,hz⟩:=I.list hq;exact join_list pl.isList (FK r) z9 λt' k=>⟨.str _,H,I.tok _,⟨_,rfl⟩,q⟩
def Itrs(lo st:Int)(n:Nat):It:=⟨λi _=>i<n,λi H x H'=>H'=H/\x=.int (lo+i*st),λi _=>n<=i⟩
theorem J9{P:Program}{w:World}{K:Fg}{tg:Expr}(it:Addr)(lo st:Int)(n:Nat):Turn P w K tg (Itrs lo st n) [it] it (λi h=>IsRangeIter h it (lo+(i:Nat)*st) ((n:Int)-(i:Nat)) st) where
 mem:=by simp
 obj:=λi h st b hb=>by
  have e:b=it:=by simpa using hb
  subst e;exact⟨_,st,λv z=>by have z':Data.fields _=Data.cell v:=z;cases z'⟩
 keep:=λi h h' st k=>k it (by simp) _ st
 item:=by
  intro X hP hw hK hc i aa s U H E I hf mM hg;subst hP hw hK;obtain⟨f0,f1,f2,f3,f4,f5⟩:=hf it (by simp);have W:=Walks.range (prog:=X.prog) (w:=X.w) (I.ok.hd hc) it lo st n;refine W.item i s _ _ hg mM λv h' tk hv aY kk=>?_
  obtain⟨t,rfl⟩:=hv;have I1:Inv X aa U H {s with heap:=h',toks:=tk}:=I.turned (λb o hb e=>kk b o (by simpa using hb) e) f0 f1 f3 f4 f5;exact⟨_,rfl,Ky (s:={s with heap:=h',toks:=tk}) (n:="range_iterator") aY rfl rfl (by decide) ⟨.int (lo+i*st),H,I1,⟨t,rfl⟩,⟨rfl,rfl⟩,aY,λb hb=>(hf b hb).1⟩⟩
 done:=by intro X hP hw hK hc i aa s U H E I hf st hg;subst hP hw hK;obtain⟨f0,f1,f2,f3,f4,f5⟩:=hf it (by simp);exact wpAny_pyNext_range_end (I.ok.hd hc) st (by have:n<=i:=hg;lia) λh' eb=>⟨rfl,I.turned (t':=s.toks) (λb o hb e=>eb b o hb e) f0 f1 f3 f4 f5⟩
 self:=λ_ _ _ _ _ st h=>wpAny_pyIter_rangeiter st h
def JaU(ta:TA):TI:=λU H R=>ta U H λvs H1=>∃i j c:Int,vs=[.int i,.int j,.int c]/\0<c/\c<1073741824/\Builtin.Range.small i j c=true/\0<=Builtin.Range.rangeSize i j c/\R (Itrs i c (Builtin.Range.rangeSize i j c).toNat) H1
theorem N2{a b c:Expr}{ta:TA}{p pos:Pos}(hg:Gl X "range")(hm:X.mg "range"=none)(ha:PA X [a,b,c] ta)(hs:starEach [a,b,c] X.env=[(false,eval a X.env),(false,eval b X.env),(false,eval c X.env)]:=by rfl)
  (aR:Zs2 X.env b c:=by rfl):PI X tg (.Call (.Name "range" p) [a,b,c] [] pos) (JaU ta):=by
 intro aa s U H R I h;refine Call_ (Dh I hg hm boot_range (callWith_type1 (thn (ha pos aa s U H _ I h) λus s1 aj=>?_) (by rw[hs,aR]) (by rw[aR];rfl)));obtain⟨vs,H1,I1,r1,q1⟩:= aj;obtain⟨i,j,k,e,h0,hk,lB,hn,q⟩:=q1;subst e;cases r1 with
 |cons r rr =>
  cases rr with
  |cons r' rr =>
   cases rr with
   |cons r'' rr =>
    cases rr;obtain⟨t,rfl⟩:=r;obtain⟨t',rfl⟩:=r';obtain⟨gT,rfl⟩:=r'';refine call_range_3 (by lia) ?_ (.inl (PyProof.noPylong_small (by lia)));refine wpAny_pyIter_range (IsRange.new ..) lB ?_;have I2:Inv X aa U H1 {s1 with heap:=s1.heap.push {cls:=.type "range",data:=.fields #[.int i t,.int j t',.int k gT]},toks:=s1.toks}:=I1.kept λb o e=>nR _ e
    refine⟨(s1.heap.push {cls:=.type "range",data:=.fields #[.int i t,.int j t',.int k gT]}).objs.size,[(s1.heap.push {cls:=.type "range",data:=.fields #[.int i t,.int j t',.int k gT]}).objs.size],_,_,H1,rfl,
     I2.kept (t':=s1.toks) λb o e=>nR _ e,J9 _ i k (Builtin.Range.rangeSize i j k).toNat,?_,λb hb=>?_,q⟩
    .have e1:i+((0:Nat):Int)*k=i:=by simp
     have e2:(((Builtin.Range.rangeSize i j k).toNat:Nat):Int)-((0:Nat):Int)=Builtin.Range.rangeSize i j k:=by lia
     show IsRangeIter _ _ (i+((0:Nat):Int)*k) ((((Builtin.Range.rangeSize i j k).toNat:Nat):Int)-((0:Nat):Int)) k;rw[e1,e2];exact n5 _ rfl
    .have e:b=(s1.heap.push {cls:=.type "range",data:=.fields #[.int i t,.int j t',.int k gT]}).objs.size:=by simpa using hb
     subst e;exact I2.Qp (n9 _) (I2.z9.fresh (n9 _))
def Its(z:Str):It:=⟨λi _=>i<z.cps.size,λi H x H'=>H'=H/\∃c,z.cps[i]?=some c/\x=.str ⟨#[c]⟩,λi _=>z.cps.size<=i⟩
theorem Ja5(hQ:Q () s):wpAny M A (letOwnedTupleGo tg it (.str x t)) Q E s:=by
 cases tg<;>first
  |exact nW hQ
  |(cases it<;>exact nW hQ)
theorem QA{K:Fg}(it:Addr)(ty:String)(z:Str)(t:Tok)(bV:ty="str_ascii_iterator"\/ty="str_iterator"):Turn P w K tg (Its z) [it] it (λi h=>h.IsStrIter it ty z t i) where
 mem:=by simp
 obj:=λi h st b hb=>by
  have e:=by simpa using hb
  subst e;obtain⟨o,e,c,d⟩:=st;exact⟨o,e,λv z=>by rw[d]at z;cases z⟩
 keep:=λi h h' st k=>by obtain⟨o,e,c,d⟩:=st;exact⟨o,k it (by simp) o e,c,d⟩
 item:=by
  intro X hP hw hK hc i aa s U H E I hf st hg;subst hP hw hK;obtain⟨f0,f1,f2,f3,f4,f5⟩:=hf it (by simp);have aN:∀(v:Value)(h':Heap)(tk:Nat),SignAt z i v->h'.IsStrIter it ty z t (i+1)->(∀b o,b∉[it]->s.heap.get? b=some o->h'.get? b=some o) ->
    ∃u,some v=some u/\wpAny (model X.prog X.w) X.A (letOwnedTupleGo tg (.ref it) u) (λ_ s2=>∃x H',Inv X aa U H' s2/\RelV x u/\(Its z).yV i H x H'/\s2.heap.IsStrIter it ty z t (i+1)/\∀b∈[it],H' b=none) E {s with heap:=h',toks:=tk}:=λv h' tk hv aY kk=>by
   obtain⟨c,u,fq,rfl⟩:=hv;exact⟨_,rfl,Ja5 ⟨.str ⟨#[c]⟩,H,(I.turned (λb o hb e=>kk b o (by simpa using hb) e) f0 f1 f3 f4 f5),⟨u,rfl⟩,⟨rfl,c,fq,rfl⟩,aY,λb hb=>(hf b hb).1⟩⟩
  rcases bV with rfl|rfl
  .exact(Walks.strAscii (I.ok.hd hc) it z t).item i s _ _ hg st aN
  .exact(Walks.strWide (I.ok.hd hc) it z t).item i s _ _ hg st aN
 done:=by
  intro X hP hw hK hc i aa s U H E I hf st hg;obtain⟨f0,f1,f2,f3,f4,f5⟩:=hf it (by simp);have hz:=Array.getElem?_eq_none hg;rcases bV with rfl|rfl
  .exact wpAny_pyNext_ascii_end (I.ok.hd hc) st hz λh' ip=>⟨rfl,I.turned (λb o hb e=>ip b o hb e) f0 f1 f3 f4 f5⟩
  .exact wpAny_pyNext_wide_end (I.ok.hd hc) st hz λh' ip=>⟨rfl,I.turned (λb o hb e=>ip b o hb e) f0 f1 f3 f4 f5⟩
 self:=λ_ _ _ _ _ st h=>by
  rcases bV with rfl|rfl
  .exact wpAny_pyIter_striter_ascii st h
  .exact wpAny_pyIter_striter_wide st h
section
variable(K:Fg)
end
theorem Ol:MtM X "list.pop" (λx vs H Q=>∃l e z,x=.ref l/\vs=[]/\H l=some (.lst (e++[z]))/\Q z (upd H l (.lst e))):=by intro aa s U H x vs v us Q I rx rv h;obtain⟨l,e,z,rfl,rfl,hH,q⟩:=h;refine Jao aa s U H _ _ v us Q I rx rv ⟨l,e++[z],z,rfl,rfl,hH,by simp,?_⟩;rwa[pU]
structure FnAt(P:Program)(w:World)(K:Fg)(mg:Zsv)(base:Heap)(CX:CXT)(x:Str)(k:Nat)(ps:List Str)(sp:Sp):Prop where
 ex:∃f fd,EY P w K mg base CX k f fd ps sp/\mg x=some (.ref f)/\keepIn K (.ref f)=true/\Binds K fd ps []
variable{k:Nat}
theorem pe_gI(h:∃t,X.mg x=some (.int i t))(hg:Gl X x:=by rfl)(hd:Zdb x:=by decide):PE X (.Name x pos) (tC (.int i)):=by obtain⟨t,h⟩:=h;exact N5 hg h ⟨t,rfl⟩ hd
theorem pe_gS(h:∃t,X.mg x=some (.str z t))(hg:Gl X x:=by rfl)(hd:Zdb x:=by decide):PE X (.Name x pos) (tC (.str z)):=by obtain⟨t,h⟩:=h;exact N5 hg h ⟨t,rfl⟩ hd
theorem OI{k}(h:GO k v=true):RelV (kV k) v:=by
 rcases AV h with⟨i,t,rfl,rfl⟩|⟨x,t,rfl,rfl⟩
 .exact⟨t,rfl⟩
 .exact⟨t,rfl⟩
theorem IK(r:KV af vs)(h:ItemsOf (λi v=>∃k x,vs[i]?=some (k,x)/\GO k v=true) ar vs.length):Vals (af.map λkv=>kV kv.1) ar.toList:=by
 obtain⟨h1,h2⟩:=h;have key:∀(af:List (Key×V))(vs:List (Key×Value))(l:List Value),KV af vs->l.length=vs.length->(∀(j:Nat)(v:Value),l[j]?=some v->∃k x,vs[j]?=some (k,x)/\GO k v=true)->Vals (af.map λkv=>kV kv.1) l:=by
  intro af
  induction af with
  |nil =>intro vs l r hl _;cases r;have:=ql (by simpa using hl);subst this;exact .nil
  |cons p af ih =>
   intro vs l r hl hh;cases r with
   |@cons _ q _ vr e t =>
    cases l with
    |nil=>simp at hl
    |cons v l =>
     obtain⟨k,x,e1,e2⟩:=hh 0 v rfl;refine .cons ?_ (ih vr l t (by simpa using hl) λj w hw=>?_)
     .have:p.1=k:=by rw[e.1,(Option.some.inj e1)]
      show RelV (kV p.1) v;rw[this];exact OI e2
     .exact hh (j+1) w hw
 exact key af vs ar.toList r (by rwa[pP]) λj v e=>h2 j v (by rwa[<- Array.getElem?_toList])
structure Yf(P:Program)(w:World)(K:Fg)(mg:Zsv)(base:Heap)(CX:CXT)(C:Addr)(m:Str)(k:Nat)(ps:List Str)(sp:Sp):Prop where
 cl:Cls K C
 ex:∃f fd,EY P w K mg base CX k f fd ps sp/\Meth K C m f/\Binds K fd ps []
structure MkAt(P:Program)(w:World)(K:Fg)(mg:Zsv)(base:Heap)(CX:CXT)(x:Str)(C:Addr)(k:Nat)(ps:List Str)(sp:Sp):Prop where
 at_:mg x=some (.ref C)
 ex:∃f fd,EY P w K mg base CX k f fd ps sp/\Mk K C f/\Binds K fd ps []
theorem ZZ(G:Yf X.prog X.w X.K X.mg X.base CX C m k ps sp)(hr:C8 k X.A)(hx:Passes CX X E)(he:PE X o ta)
  (ht:eval (.Call (.Attribute o m aA) [] [] pos) X.env=(do
   let ov <- eval o X.env
   standAt aA.atName
   let(f,first) <- holding [ov] (getMethod ov m pl)
   callWith pos f first (backTo pos (starEach [] X.env)) (backToKw pos (keywordEach [] X.env))):=by rfl) :
  PE X (.Call (.Attribute o m aA) [] [] pos) (Vh C m sp [] E ta Y4):=by
 obtain⟨f,fd,F,hm,hb⟩:=G.ex;exact Rc he G.cl hm F hr hb .nil hx ht
theorem pe_mk(G:MkAt X.prog X.w X.K X.mg X.base CX x C k ps sp)(hr:C8 (k+1) X.A)(hx:Passes CX X E)(ha:PA X (e::es) t)(hg:Gl X x:=by rfl)(aQ:Zdb x:=by decide)
  (he:Zsc X.env e es:=by rfl) (aC:Zbt X.env pos es:=by rfl):PE X (.Call (.Name x p) (e::es) [] pos) (Y7 C sp [] E t):=by
 obtain⟨f,fd,F,M,hb⟩:=G.ex;exact VV M F hr hg G.at_ hb .nil hx ha aQ he aC
def orR(r r':R2):R2:=λx y H Q=>r x y H Q\/r' x y H Q
theorem OpR.orR(h:OpR X f r)(h':OpR X f r'):OpR X f (orR r r'):=λaa s U H x y v u Q I rx ry q=>q.elim (h aa s U H x y v u Q I rx ry) (h' aa s U H x y v u Q I rx ry)
theorem IxR.orR(h:IxR X r)(h':IxR X r'):IxR X (L2.orR r r'):=λvalue aD aa s U H x y v u Q I rx ry q e=>q.elim (λq=>h value aD aa s U H x y v u Q I rx ry q e) (λq=>h' value aD aa s U H x y v u Q I rx ry q e)
inductive Zt(x:V)(y:V)(H:Hp)(Q:VK):Prop
 |mk (a v:_) (h0:x=.ref a) (h1:J1 H a y (some v)) (h2:Q v H)
inductive rDIn(neg:Bool)(y:V)(x:V)(H:Hp)(Q:VK):Prop
 |mk (a o:_) (h0:x=.ref a) (h1:J1 H a y o) (h2:Q (.v (if neg then !o.isSome else o.isSome)) H)
theorem Ue(hu:X.A.units+1<cLine):OpR X (compareOp .In) (rDIn false):=by intro aa s U H y x v u Q I ry rx h;obtain⟨a,o,rfl,g,q⟩:=h;obtain rfl:u=Value.ref a:=rx;exact d_in hu I g ry λs3 I3=>⟨.v o.isSome,H,I3,rfl,q⟩
theorem Ob(hu:X.A.units+1<cLine):OpR X (compareOp .NotIn) (rDIn true):=by intro aa s U H y x v u Q I ry rx h;obtain⟨a,o,rfl,g,q⟩:=h;obtain rfl:u=Value.ref a:=rx;exact XM hu I g ry λs3 I3=>⟨.v (!o.isSome),H,I3,rfl,q⟩
theorem WM(hu:X.A.units+1<cLine):IxR X Zt:=by
 intro value aD aa s U H x y v u Q I rx ry h hs;obtain⟨a,w,rfl,g,q⟩:=h;obtain rfl:v=Value.ref a:=rx;have hT:=Gn I g;refine nM ?_;refine nM (wpAny_specialOf hT PySem.F.slot_dict_getitem.lookup ?_);have aN:wpAny (model X.prog X.w) X.A (subscripted aD false (.ref a) u) (λr aX=>wpAny (model X.prog X.w) X.A (letTemporaryGo value (.ref a) r >>= λ_=>pure r) (EP X aa U Q) X.xe aX) X.xe s:=by rw[hs];exact wpAny_operating (wpAny_mono (JA hu I g ry λw' s3 I3 bM=>⟨w,H,I3,bM,q⟩) (λr aX cB=>nM (wpAny_letTemporaryGo (nW cB))) λ_ _ x=>x)
 first
  |exact nW (nM aN)
  |exact nM (nW (nM aN))
  |exact nM aN
def Z6(r r':TSet):TSet:=λo i v H Q=>r o i v H Q\/r' o i v H Q
theorem Ti.orR(h:Ti X r)(h':Ti X r'):Ti X (Z6 r r'):=λaa s U H o i v ov iv u Q I r1 r2 r3 q=>q.elim (h aa s U H o i v ov iv u Q I r1 r2 r3) (h' aa s U H o i v ov iv u Q I r1 r2 r3)
inductive VA(o:V)(i:V)(v:V)(H:Hp)(Q:Hp->Prop):Prop
 |mk (a H4:_) (h0:o=.ref a) (h1:Ng H a i v H4) (h2:Q H4)
theorem set_dict(hu:X.A.units+1<cLine):Ti X VA:=by intro aa s U H o i v ov iv u Q I ro ri rv h;obtain⟨a,H4,rfl,g,q⟩:=h;obtain rfl:ov=Value.ref a:=ro;exact Jz hu I g ri rv λs4 I4=>⟨H4,I4,q⟩
def Uc(r r':List V->Hp->VK->Prop):List V->Hp->VK->Prop:=λvs H Q=>r vs H Q\/r' vs H Q
theorem BK.orR(h:BK X f r)(h':BK X f r'):BK X f (Uc r r'):=λaa s U H xs us Q I rx q=>q.elim (h aa s U H xs us Q I rx) (h' aa s U H xs us Q I rx)
def orMt(r r':V->List V->Hp->VK->Prop):V->List V->Hp->VK->Prop:=λx vs H Q=>r x vs H Q\/r' x vs H Q
theorem MtR.orR{id:String}(h:MtR X id r)(h':MtR X id r'):MtR X id (orMt r r'):=λaa s U H x xs v us Q I rx rs q=>q.elim (h aa s U H x xs v us Q I rx rs) (h' aa s U H x xs v us Q I rx rs)
def iSeq(K:Fg)(tl:TE):TI:=λU H R=>tl U H λx H1=>(∃a,x=.ref a/\(∃xs,SqL K H1 a xs)/\R (Itl K a) H1)\/(∃a,x=.ref a/\(∃xs,SqT K H1 a xs)/\R (Itt K a) H1)\/(∃z,x=.str z/\R (Its z) H1)
theorem ZP(hl:PE X l tl):PI X tg l (iSeq X.K tl):=by
 intro aa s U H R I h;have key:∀(x:V)(H1:Hp)(v:Value)(s1:Shared),Inv X aa U H1 s1->RelV x v->((∃a,x=.ref a/\(∃xs,SqL X.K H1 a xs)/\R (Itl X.K a) H1)\/(∃a,x=.ref a/\(∃xs,SqT X.K H1 a xs)/\R (Itt X.K a) H1)\/(∃z,x=.str z/\R (Its z) H1)) ->
   wpAny (model X.prog X.w) X.A (pyIter v) (PIE X aa U tg R) X.xe s1:=by
  intro x H1 v s1 I1 r1 q1;rcases q1 with⟨a,e,⟨xs,hq⟩,q⟩|⟨a,e,⟨xs,hq⟩,q⟩|⟨z,e,q⟩
  .subst e;cases r1;obtain⟨its,rv,p,hz⟩:=I1.list hq;refine wpAny_pyIter_list p.isList ?_;refine⟨s1.heap.objs.size,[s1.heap.objs.size],_,_,H1,rfl,I1.kept λb o e=>nR _ e,Nt a _,⟨_,n5 _ rfl,rfl,rfl⟩,λb hb=>?_,q⟩;have e:=by simpa using hb
   subst e;exact I1.Qp (n9 _) (I1.z9.fresh (n9 _))
  .subst e;cases r1;obtain⟨its,rv,p,hz⟩:=I1.tuple hq;refine wpAny_pyIter_tuple (show s1.heap.IsTuple a its.toArray from p) ?_;refine⟨s1.heap.objs.size,[s1.heap.objs.size],_,_,H1,rfl,I1.kept λb o e=>nR _ e,Ml a _,⟨_,n5 _ rfl,rfl,rfl⟩,λb hb=>?_,q⟩;have e:=by simpa using hb
   subst e;exact I1.Qp (n9 _) (I1.z9.fresh (n9 _))
  .subst e;obtain⟨t,rfl⟩:=r1;have go:∀(ty:String),(ty="str_ascii_iterator"\/ty="str_iterator")->PIE X aa U tg R (.ref s1.heap.objs.size) {s1 with heap:=s1.heap.push {cls:=.type ty,data:=.fields #[.str z t,.int 0 0]} }:=λty bV=>by
    refine⟨s1.heap.objs.size,[s1.heap.objs.size],_,_,H1,rfl,I1.kept λb o e=>nR _ e,QA _ ty z t bV,⟨_,n5 _ rfl,rfl,rfl⟩,λb hb=>?_,q⟩;have e:=by simpa using hb
    subst e;exact I1.Qp (n9 _) (I1.z9.fresh (n9 _))
   cases ha:z.cps.all (·<128)
   .exact wpAny_pyIter_wide ha (go _ (.inr rfl))
   .exact wpAny_pyIter_ascii ha (go _ (.inl rfl))
 refine thn (hl aa s U H _ I h) λv s1 aj => ?_
 obtain⟨x,H1,I1,r1,q1⟩:= aj;exact key x H1 v s1 I1 r1 q1
end Lake.L2
namespace PySem
namespace Zp
def Qk:Bool->Heap->Addr->Addr->Nat->Prop
 |true,h,it,l,k=>h.IsTupleIter it l k
 |false,h,it,l,k=>h.IsListIter it l k
def J2:Bool->Heap->Addr->Array Value->Prop
 |true,h,l,xs=>h.IsTuple l xs
 |false,h,l,xs=>h.IsList l xs
abbrev Stop(h:Heap)(e:Addr):Prop:=∃o,h.get? e=some o/\o.cls=.type "StopIteration"
variable{prog:Program}{w:World}{A:Around}{E Q:Zcv}{s:Shared}{k:Nat}{xs:Array Value}{b:Bool}{h h':Heap}
variable{n l1 l2:Nat}{b1 b2:Bool}{ys:Array Value}
theorem SE(hh:A.handled=none)(hit:s.heap.IsTupleIter it t k)(ht:s.heap.IsTuple t xs)(hQ:∀x h',xs[k]?=some x->h'.IsTupleIter it t (k+1)->Heap.SameBut it s.heap h'->Q x {s with heap:=h' })
  (hE:xs[k]?=none->∀h' e,Heap.ExtBut it s.heap h'->Stop h' e->E (.ref e) {s with heap:=h' }):wpAny (model prog w) A (Builtin.SmallTypes.nextOf (.ref it)) Q E s:=by
 obtain⟨⟨_,cls,_,_⟩,ho,hc,hd⟩:=id hit;obtain⟨⟨_,_,_,_⟩,nC,_,nl,kX⟩:=ht;subst hc hd kX;obtain⟨hp,g,d,tk,os⟩:=s;refine nM (wpAny_callSpecial?_slot hit.typeIs F.slot_tuple_iterator_next (wpAny_call_entry F.slot_tuple_iterator_next hit.typeIs F.entry_tuple_iterator_next ?_ (F.args_tuple_iterator_next_1 _)))
 wp_walk
 rw[qB];cases hx:xs[k]?
 .wp_walk
  unfold raiseNew
  wp_walk
  refine hE hx _ _ (((Heap.SameBut.update ..).extBut.push _).push _) ?_;exact⟨_,n5 _ rfl,rfl⟩
 .wp_walk
  exact⟨_,rfl,nW (hQ _ _ hx ⟨_,pe _ ho rfl,rfl,rfl⟩ (Heap.SameBut.update ..))⟩
theorem draw(hh:A.handled=none)(hit:Qk b s.heap it l k)(hl:J2 b s.heap l xs)(hQ:∀x h',xs[k]?=some x->Qk b h' it l (k+1)->Heap.SameBut it s.heap h'->Q x {s with heap:=h' })
  (hE:xs[k]?=none->∀h' e,Heap.ExtBut it s.heap h'->Stop h' e->E (.ref e) {s with heap:=h' }):wpAny (model prog w) A (Builtin.SmallTypes.nextOf (.ref it)) Q E s:=by
 cases b
 .cases hx:xs[k]?
  .exact wpAny_nextOf_list_end hh hit hl hx (hE hx)
  .exact wpAny_nextOf_list_item hit hl hx λh'=>hQ _ h' hx
 .exact SE hh hit hl hQ hE
theorem J2.at(c:J2 b h l xs)(e:∀o,h.get? l=some o->h'.get? l=some o):J2 b h' l xs:=by
 cases b
 .exact Heap.IsList.at c e
 .exact Heap.IsTuple.at c e
theorem Qk.at(c:Qk b h it l k)(e:∀o,h.get? it=some o->h'.get? it=some o):Qk b h' it l k:=by
 cases b
 .exact Heap.IsListIter.at c e
 .exact Heap.IsTupleIter.at c e
theorem Qk.obj(c:Qk b h it l k):∃o,h.get? it=some o/\∀v,o.data≠.cell v:=by cases b<;>exact let⟨o,e,_,d⟩:=c;⟨o,e,λv z=>by rw[d]at z;cases z⟩
theorem J2.lt(c:J2 b h l xs):l<h.objs.size:=by cases b<;>exact let⟨_,e,_⟩:=c;oa e
theorem kp{a b:Nat}(x:Heap.SameBut a h h')(e:h.get? b=some o)(ne:¬ @Eq Nat b a:=by lia):h'.get? b=some o:=(x.2 b ne).trans e
theorem ke{a b:Nat}(x:Heap.ExtBut a h h')(e:h.get? b=some o)(ne:¬ @Eq Nat b a:=by lia):h'.get? b=some o:=x b o ne e
theorem pu{b:Addr}(e:h.get? b=some o):(h.push o').get? b=some o:=nR _ e
abbrev ZS(h:Heap)(n:Nat)(u:Value)(f:Bool):Prop:=h.get? (n+4)=some {cls:=.type "zip",data:=.fields #[u,.bool f,.bool false,.ref (n+2),.ref (n+3)]}
structure Zst(b1 b2:Bool)(n l1 l2 i:Nat)(h:Heap):Prop where
 z:∃u f,(u=.none\/∃d:Nat,u=rawInt d)/\ZS h n u f
 p:IsPair h (n+2) (.ref n) (.ref (n+1))
 q:∃a b,IsPair h (n+3) a b
 a:Qk b1 h n l1 i
 b:Qk b2 h (n+1) l2 i
def Kp(n:Nat)(h h':Heap):Prop:=∀(c:Nat) o,(c<n\/n+5<=c)->h.get? c=some o->h'.get? c=some o
theorem NC(x:Heap.SameBut a h h')(z:h.get? a=some {cls:=.type "zip",data:=.fields vs})(y:Stop h e):Stop h' e:=by obtain⟨o,y,c⟩:=y;exact⟨o,kp x y λq=>by rw[q,z]at y;cases y;simp at c,c⟩
theorem Jck{Q:Option Obj->Shared->Prop}(h:Q (s.heap.get? a) s):wpAny (model prog w) A (loadIfAlive a) Q E s:=λ_ _ _=>h
theorem Sf{Q:Bool->Shared->Prop}(hu:u=.none\/∃d:Nat,u=rawInt d)(hz:ZS s.heap n u f)(h1:Q true s)(h2:∀h',ZS h' n u true->Heap.SameBut (n+4) s.heap h'->Q false {s with heap:=h' }):
  wpAny (model prog w) A (Builtin.SmallTypes.ownedTupleIsFree (.ref (n+4))) Q E s:=by
 refine nM (oW hz rfl rfl ?_);rcases hu with rfl|⟨d,rfl⟩
 .exact nW h1
 .show wpAny _ _ (loadIfAlive ((d:Int).toNat) >>= _) _ _ _;rw[qB];refine nM (Jck ?_);cases s.heap.get? d
  .exact nW h1
  .refine nM (oW hz rfl rfl ?_);cases f
   .exact nM (wpAny_setField_rec hz (by simp) λh3 he hs=>nW (h2 h3 he hs))
   .exact nW (h2 s.heap hz (Heap.SameBut.refl _ _))
theorem Qr(hh:A.handled=none)(t1:l1<n)(t2:l2<n)(st:Zst b1 b2 n l1 l2 k s.heap)(c1:J2 b1 s.heap l1 xs)(c2:J2 b2 s.heap l2 ys)
  (hQ:∀x y h',xs[k]?=some x->ys[k]?=some y->Zst b1 b2 n l1 l2 (k+1) h'->IsPair h' s.heap.objs.size x y->Kp n s.heap h'->Q (.ref s.heap.objs.size) {s with heap:=h' })
  (hE:(xs[k]?=none\/ys[k]?=none)->∀h' e,Kp n s.heap h'->Stop h' e->E (.ref e) {s with heap:=h' }) :
  wpAny (model prog w) A (Builtin.«zip.__next__» ⟨[.ref (n+4)],[]⟩) (λaN s'=>∃v,aN=.done (.ret v)/\Q v s') E s:=by
 obtain⟨⟨u,f,hu,hz⟩,hp,⟨a,b,hq⟩,i1,i2⟩:=st;have hl:@LT.lt Nat _ (n+4) s.heap.objs.size:=oa hz;have s2:2<=sizeLine:=by rw[sizeLine_eq];decide
 show wpAny _ _ (field (.ref (n+4)) 2 >>= _) _ _ _;refine nM (oW hz rfl rfl ?_);refine nM (oW hz rfl rfl (nM (wpAny_seqItems hp rfl ?_)));refine nM (Sf hu hz ?_ λha za sa=>?_)
 .simp only[if_true];refine nM (wpAny_rule (nM (oW hz rfl rfl (nM (wpAny_setField_rec hz (by simp) λha za sa=>nM ?_)))));refine nM (nM (wpAny_onRaise ?_));refine nM (draw hh (i1.at λo e=>kp sa e) (c1.at λo e=>kp sa e) (λx hb hx i1 sb=>nW ?_) λhx hb e eb he=>?_)
  .refine nM (wpAny_seqItems (kp sb (kp sa hq)) rfl (nM (wpAny_updateSeq_pair (kp sb (kp sa hq)) λhc qc sc=>nM (wpAny_letGo (nW (nM (nM (wpAny_onRaise ?_))))))));refine nM (draw hh (i2.at λo e=>kp sc (kp sb (kp sa e))) (c2.at λo e=>kp sc (kp sb (kp sa e))) (λy hd hy i2 sd=>nW ?_) λhy hd e eb he=>?_)
   .refine nM (wpAny_seqItems (kp sd qc) rfl (nM (wpAny_updateSeq_pair (kp sd qc) λhe qe se=>nM (wpAny_letGo (nW (nW (nM (wpAny_seqItems qe rfl (nM (wpAny_newTuple (nM ?_)))))))))));have sz:he.objs.size=s.heap.objs.size:=by rw[se.1,sd.1,sc.1,sb.1,sa.1]
    refine nM (wpAny_setField_rec (pu (kp se (kp sd (kp sc (kp sb za))))) (by simp) λhf zf sf=>wpAny_setField_rec zf (by simp) λhg zg sg=>nW ⟨_,rfl,?_⟩);have p1:=kp sg (kp sf (n5 _ rfl));rw[sz]at p1 zg ⊢;exact hQ x y hg hx hy ⟨⟨_,false,.inr ⟨_,rfl⟩,zg⟩,kp sg (kp sf (pu (kp se (kp sd (kp sc (kp sb (kp sa hp))))))),⟨x,y,kp sg (kp sf (pu qe))⟩,i1.at λo e=>kp sg (kp sf (pu (kp se (kp sd (kp sc e))))),i2.at λo e=>kp sg (kp sf (pu (kp se e)))⟩ p1 λc o h q=>kp sg (kp sf (pu (kp se (kp sd (kp sc (kp sb (kp sa q)))))))
   .exact wpAny_setField_rec (ke eb (kp sc (kp sb za))) (by simp) λhf _ sf=>hE (.inr hy) hf e (λc o h q=>kp sf (ke eb (kp sc (kp sb (kp sa q))))) (NC sf (ke eb (kp sc (kp sb za))) he)
  .exact wpAny_setField_rec (ke eb za) (by simp) λhf _ sf=>hE (.inl hx) hf e (λc o h q=>kp sf (ke eb (kp sa q))) (NC sf (ke eb za) he)
 .simp only[if_false,List.forIn_cons,List.forIn_nil];refine nM (nM (nM (wpAny_holding ?_)));refine nM (draw hh (i1.at λo e=>kp sa e) (c1.at λo e=>kp sa e) (λx hb hx i1 sb=>nW (nW ?_)) λhx hb e eb he=>hE (.inl hx) hb e (λc o h q=>ke eb (kp sa q)) he);refine nM (nM (wpAny_holding ?_));refine nM (draw hh (i2.at λo e=>kp sb (kp sa e)) (c2.at λo e=>kp sb (kp sa e)) (λy hc hy i2 sc=>nW (nW (nW (nM (wpAny_newTuple ?_))))) λhx hc e eb he=>hE (.inr hx) hc e (λc o h q=>ke eb (kp sb (kp sa q))) he);have sz:hc.objs.size=s.heap.objs.size:=by rw[sc.1,sb.1,sa.1]
  refine nW ⟨_,rfl,?_⟩;rw[sz];refine hQ x y _ hx hy ⟨⟨u,true,hu,pu (kp sc (kp sb za))⟩,pu (kp sc (kp sb (kp sa hp))),⟨a,b,pu (kp sc (kp sb (kp sa hq)))⟩,i1.at λo e=>pu (kp sc e),i2.at λo e=>pu e⟩ ?_ λc o h q=>pu (kp sc (kp sb (kp sa q)))
  rw[<- sz];exact n5 _ rfl
end Zp
end PySem
namespace PySem
namespace Zp
variable{prog:Program}{w:World}{A:Around}{E:Zcv}{s:Shared}{k n l1 l2:Nat}{xs ys:Array Value}{b1 b2:Bool}
theorem GX(hh:A.handled=none)(t1:l1<n)(t2:l2<n)(st:Zst b1 b2 n l1 l2 k s.heap)(c1:J2 b1 s.heap l1 xs)(c2:J2 b2 s.heap l2 ys)
  (hQ:∀x y h',xs[k]?=some x->ys[k]?=some y->Zst b1 b2 n l1 l2 (k+1) h'->IsPair h' s.heap.objs.size x y->Kp n s.heap h'->Q (some (.ref s.heap.objs.size)) {s with heap:=h' })
  (hE:(xs[k]?=none\/ys[k]?=none)->∀h',Kp n s.heap h'->Q none {s with heap:=h' }):wpAny (model prog w) A (pyNext (.ref (n+4))) Q E s:=by
 obtain⟨_,_,_,hz⟩:=st.z;have hT:s.TypeIs (.ref (n+4)) "zip":=⟨_,hz,rfl⟩
 exact nM (wpAny_attempt (wpAny_callSpecial?_slot hT F.slot_zip_next (wpAny_call_entry F.slot_zip_next hT F.entry_zip_next
  (Qr hh t1 t2 st c1 c2 (λx y h' a b c d e=>nW (hQ x y h' a b c d e)) λa h' e hk ⟨o,ho,hc⟩=>nM (wpAny_isInstance ⟨o,ho,hc⟩ isSubtype_stop (nW (hE a h' hk)))) (F.args_zip_next_1 _))))
theorem UZ{tg:Expr}(st:Zst b1 b2 n l1 l2 k s.heap)(h:∀h',Zst b1 b2 n l1 l2 k h'->Heap.SameBut (n+4) s.heap h'->Q () {s with heap:=h' }):wpAny (model prog w) A (letOwnedTupleGo tg (.ref (n+4)) v) Q E s:=by
 have h0:=h _ st (Heap.SameBut.refl _ _);obtain⟨⟨u,f,hu,hz⟩,hp,⟨a,b,hq⟩,i1,i2⟩:=st;cases tg<;>first|exact nW h0|skip
 all_goals cases v<;>first|exact nW h0|skip
 all_goals
  refine nM (wpAny_load hz ?_);dsimp only;split
  .refine nM (wpAny_rule ?_);exact wpAny_setField_rec hz (by simp) λh' z x=>h h' ⟨⟨.none,f,.inl rfl,z⟩,kp x hp,⟨a,b,kp x hq⟩,i1.at λo e=>kp x e,i2.at λo e=>kp x e⟩ x
  .exact nW h0
def JaK(b:Bool)(l:Addr):Obj:={cls:=.type (cond b "tuple_iterator" "list_iterator"),data:=.fields #[.ref l,.int 0 0]}
theorem its(c:J2 b s.heap l xs)(q:Q (.ref s.heap.objs.size) {s with heap:=s.heap.push (JaK b l)}):wpAny (model prog w) A (pyIter (.ref l)) Q E s:=by
 cases b
 .exact wpAny_pyIter_list c q
 .exact wpAny_pyIter_tuple c q
theorem Qk.new(e:h.get? it=some (JaK b l)):Qk b h it l 0:=by cases b<;>exact⟨_,e,rfl,rfl⟩
theorem SV(c1:J2 b1 s.heap l1 xs)(c2:J2 b2 s.heap l2 ys)(h:∀h',Zst b1 b2 s.heap.objs.size l1 l2 0 h'->(∀c o,s.heap.get? c=some o->h'.get? c=some o)->Q (.ref (s.heap.objs.size+4)) {s with heap:=h' }):
  wpAny (model prog w) A (call (.type "zip") [.ref l1,.ref l2]) Q E s:=by
 have M:Meets (Builtin.«zip.__new__» ⟨[.type "zip",.ref l1,.ref l2],[]⟩) (λ_ R s=>J2 b1 s.heap l1 xs/\J2 b2 s.heap l2 ys/\∀h',Zst b1 b2 s.heap.objs.size l1 l2 0 h'->(∀c o,s.heap.get? c=some o->h'.get? c=some o)->R (.ok (.ret (.ref (s.heap.objs.size+4)))) {s with heap:=h' }) :=
  .of_wp λprog w A R s h=>by
   obtain⟨c1,c2,h⟩:=h;have lI:=sub_zip
   wp_walk using its c1,its (c2.at λo e=>pu e)
   refine⟨_,rfl,?_⟩;simp only[o5];have at':∀{h:Heap}{o:Obj}{a:Nat},a=h.objs.size->o.isFreed=false->(h.push o).get? a=some o:=λe f=>e▸n5 _ f
   exact h _ ⟨⟨_,false,.inl rfl,at' (by simp only[o5]) rfl⟩,pu (pu (at' (by simp only[o5]) rfl)),⟨.none,.none,pu (at' (by simp only[o5]) rfl)⟩,.new (pu (pu (pu (pu (at' rfl rfl))))),.new (pu (pu (pu (at' (by simp only[o5]) rfl))))⟩ λc o e=>pu (pu (pu (pu (pu e))))
 exact callType_new F.called_zip (by decide) (F.typeCall_zip_2 _ _) (F.newCall_zip_2 _ _) (λobj=>F.args_object_init_3 obj _ _) F.entry_zip_new M ⟨c1,c2,λh' z k=>⟨⟨_,z.z.choose_spec.choose_spec.2,rfl⟩,h h' z k⟩⟩
end Zp
end PySem
namespace Lake.L2
open PySem PySem.Spec PyProof.Rows
def SqB(b:Bool)(K:Fg)(H:Hp)(a:Addr)(xs:List V):Prop:=match b with|true=>SqT K H a xs|false=>SqL K H a xs
theorem Inv.sqb(I:Inv X aa U H s)(h:SqB b X.K H a xs):∃its:List Value,Vals xs its/\Zp.J2 b s.heap a its.toArray/\xs.length<=sizeLine:=by
 cases b
 .exact let⟨its,r,p,z⟩:=I.list h;⟨its,r,p.isList,z⟩
 .exact let⟨its,r,p,z⟩:=I.tuple h;⟨its,r,p,z⟩
theorem Inv.ND(I:Inv X aa U H s)(h:SqB b X.K H a xs)(h':SqB b X.K H a ys):xs=ys:=by
 cases b
 .exact I.HR h h'
 .exact I.FD h h'
theorem Inv.OF{fp:List Addr}(I:Inv X aa U H s)(k:∀b o,b∉fp->s.heap.get? b=some o->h'.get? b=some o)(hf:∀b∈fp,GW X aa H b)
  (up:∀b u,H b=some u->H' b=some u) (dn:∀b u,H' b=some u->H b=some u\/(s.heap.objs.size<=b/\A0 X.prog X.w H' h' b u)):Inv X aa U H' {s with heap:=h',toks:=t' }:=by
 have gp:∀b u,H b=some u->b∉fp:=λb u e z=>by rw[(hf b z).1]at e;cases e
 refine I.step (λb hb=>?_) (λb o _ _ hc e _=>k b o hc e) (λb o _ _ hc e _=>⟨o.slots,k b o hc e⟩) (λb o _ e n=>?_)
  (λb o hc e=>⟨o,k b o hc e⟩) (λb _ e=>up b _ e) (λb _ _ e=>up b _ e) (λb ps e=>⟨#[],by rw[up b _ e];simp⟩) (λm hm=>?_) (λb u e=>?_) I.bare
 .obtain⟨f0,f1,f2,f3,f4,f5⟩:=hf b hb;exact⟨f3,f1,f4,f5⟩
 .cases q:H' b with
  |none=>rfl
  |some u =>
   rcases dn b u q with z|z
   .rw[n]at z;cases z
   .exact absurd (oq (oa e) z.1) (pq _)
 .obtain⟨o,es,ep,ho,r⟩:=hm;exact⟨o,es,ep,k _ o (λz=>(hf _ z).2.1 rfl) ho,r⟩
 .rcases dn b u e with z|z
  .refine(I.z9 b u z).Qm (λc v hc q=>k c v ?_ q) (λc q=>up c _ q) λc _ q=>up c _ q
   rcases hc with y|y
   .rw[y];exact gp b u z
   .exact gp c _ y
  .exact z.2
theorem Inv.J8{fp:List Addr}(I:Inv X aa U H s)(k:∀b o,b∉fp->s.heap.get? b=some o->h'.get? b=some o)(hf:∀b∈fp,GW X aa H b):Inv X aa U H {s with heap:=h',toks:=t' } :=
 I.OF k hf (λ_ _ e=>e) λ_ _ e=>.inl e
theorem Inv.WG{fp:List Addr}(I:Inv X aa U H s)(k:∀b o,b∉fp->s.heap.get? b=some o->h'.get? b=some o)(hf:∀b∈fp,GW X aa H b)(hp:s.heap.objs.size<=p)(new:A0 X.prog X.w (upd H p o) h' p o):
  Inv X aa U (upd H p o) {s with heap:=h',toks:=t' }:=by
 have fr:=I.z9.fresh hp;refine I.OF k hf (λb u e=>by rw[Al (AA e fr)];exact e) λb u e=>?_
 by_cases hb:b=p
 .subst hb;rw[An]at e;cases e;exact .inr ⟨hp,new⟩
 .rw[Al hb]at e;exact .inl e
abbrev RecIs(s:Shared)(v:Value)(T:String):Prop:=∃a vs,v=.ref a/\s.heap.get? a=some {cls:=.type T,data:=.fields vs}
def Hint(s:Shared)(v:Value):Prop:=∀(prog:Program)(w:World)(A:Around)(E:Zcv)(Q:Bool->Shared->Prop)(s2:Shared),(∀b o,s.heap.get? b=some o->s2.heap.get? b=some o)->(∀b tk,Q b {s2 with toks:=tk})->wpAny (model prog w) A (Builtin.List.listLengthHint v) Q E s2
def PIt(X:Cx)(tg av:Expr)(T:String)(wi:TI):Prop :=
 ∀(aa:Zao)(s:Shared)(U:St)(H:Hp)(R:It->Hp->Prop),Inv X aa U H s->wi U H R ->
  wpAny (model X.prog X.w) X.A (eval av X.env) (λv s1=>(RecIs s1 v T/\Hint s1 v)/\PIE X aa U tg R v s1) X.xe s
theorem PIt.pi(h:PIt X tg av T wi):PI X tg av wi:=λaa s U H R I q =>thn (h aa s U H R I q) λv s1 ⟨_,it,fp,tn,J,H',e,I',t,t0,f,r⟩=>by subst e;exact t.self _ 0 _ _ _ t0 ⟨it,fp,tn,J,H',rfl,I',t,t0,f,r⟩
def Itz(K:Fg)(b1:Bool)(a1:Addr)(b2:Bool)(a2:Addr):It :=
  ⟨λi H=>∃xs ys x y,SqB b1 K H a1 xs/\SqB b2 K H a2 ys/\xs[i]?=some x/\ys[i]?=some y,
   λi H x H'=>∃T vx vy,H T=none/\x=.ref T/\H'=upd H T (.tup [vx,vy])/\(∀xs,SqB b1 K H a1 xs->xs[i]?=some vx)/\∀ys,SqB b2 K H a2 ys->ys[i]?=some vy,
   λi H=>∃xs ys,SqB b1 K H a1 xs/\SqB b2 K H a2 ys/\(xs.length<=i\/ys.length<=i)⟩
abbrev fpZ(n:Nat):List Addr:=[n,n+1,n+2,n+3,n+4]
theorem UA(k:Zp.Kp n h h')(b:Addr)(o:Obj)(hb:b∉fpZ n)(e:h.get? b=some o):h'.get? b=some o:=by
 simp only[oh,ph,or_false]at hb;have:∀c:Nat,¬(c=n\/c=n+1\/c=n+2\/c=n+3\/c=n+4)->c<n\/n+5<=c:=by lia
 exact k b o (this b hb) e
theorem Qz{K:Fg}{n a1 a2:Nat}(t1:a1<n)(t2:a2<n):Turn P w K tg (Itz K b1 a1 b2 a2) (fpZ n) (n+4) (Zp.Zst b1 b2 n a1 a2) where
 mem:=by simp
 obj:=λi h ⟨⟨_,_,_,hz⟩,hp,⟨_,_,hq⟩,h1,h2⟩ b hb=>by
  simp only[oh,ph,or_false]at hb;rcases hb with rfl|rfl|rfl|rfl|rfl
  .exact h1.obj
  .exact h2.obj
  .exact⟨_,hp,nofun⟩
  .exact⟨_,hq,nofun⟩
  .exact⟨_,hz,nofun⟩
 keep:=λi h h' ⟨⟨u,f,e,hz⟩,hp,⟨a,b,hq⟩,h1,h2⟩ k=>⟨⟨u,f,e,k _ (by simp) _ hz⟩,k _ (by simp) _ hp,⟨a,b,k _ (by simp) _ hq⟩,h1.at λo e=>k _ (by simp) o e,h2.at λo e=>k _ (by simp) o e⟩
 item:=by
  intro X hP hw hK hc i aa s U H E I hf st ⟨xs,ys,x,y,q1,q2,ex,ey⟩;subst hP hw hK;obtain⟨eY,r1,c1,_⟩:=I.sqb q1;obtain⟨aU,r2,c2,_⟩:=I.sqb q2;obtain⟨u1,jO,mH⟩:=r1.get ex;obtain⟨u2,jP,mI⟩:=r2.get ey;have hz:=st.z;refine Zp.GX (I.ok.hd hc) t1 t2 st c1 c2 (λv1 v2 h' e1 e2 aY hp hk=>⟨_,rfl,Zp.UZ aY λh2 dP sb=>?_⟩) λhn=>?_
  .simp only[List.getElem?_toArray,jO,jP,Option.some.injEq]at e1 e2;subst e1 e2;obtain⟨_,_,_,hz⟩:=hz;have eQ:@LT.lt Nat _ (n+4) s.heap.objs.size:=oa hz;have fr:=I.z9.fresh (n9 s.heap.objs.size);refine⟨.ref s.heap.objs.size,_,I.WG (o:=.tup [x,y]) (λb o hb e=>sb.extBut _ _ (λq=>hb (by simp[q])) (UA hk b o hb e)) hf (n9 _) ⟨by show 2<=sizeLine;rw[sizeLine_eq];decide,[u1,u2],.cons mH (.cons mI .nil),⟨_,Zp.kp sb hp,rfl,_,rfl,rfl⟩⟩,rfl,⟨_,x,y,fr,rfl,rfl,λzs hz=>by rw[I.ND hz q1];exact ex,λzs hz=>by rw[I.ND hz q2];exact ey⟩,dP,λb hb=>?_⟩;rw[Al]
   .exact(hf b hb).1
   .rintro rfl
    simp only[oh,ph,or_false]at hb;have:∀c:Nat,n+4<c->¬(c=n\/c=n+1\/c=n+2\/c=n+3\/c=n+4):=by lia
    exact this _ eQ hb
  .simp[jO,jP]at hn
 done:=by
  intro X hP hw hK hc i aa s U H E I hf st ⟨xs,ys,q1,q2,hend⟩;subst hP hw hK;obtain⟨eY,r1,c1,_⟩:=I.sqb q1;obtain⟨aU,r2,c2,_⟩:=I.sqb q2;have e1:=r1.length;have e2:=r2.length;refine Zp.GX (I.ok.hd hc) t1 t2 st c1 c2 (λv1 v2 h' g1 g2 _ _ _=>?_) λ_ h' hk=>⟨rfl,I.J8 (UA hk) hf⟩
  have:=(n6.mp (by simpa using g1:eY[i]?=some v1)).1;have:=(n6.mp (by simpa using g2:aU[i]?=some v2)).1
  lia
 self:=λ_ _ _ _ _ ⟨⟨_,_,_,hz⟩,_,_,_,_⟩ h=>by refine wpAny_pyIter_slot ⟨_,hz,rfl⟩ F.slot_zip_iter (wpAny_call_entry F.slot_zip_iter ⟨_,hz,rfl⟩ F.entry_zip_iter ?_ (F.args_zip_iter_1 _));exact nW ⟨_,rfl,"zip",_,⟨_,hz,rfl⟩,F.slot_zip_next.lookup,h⟩
theorem WS{s:Shared}{a:Addr}{T:String}{vs:Array Value}(e:s.heap.get? a=some {cls:=.type T,data:=.fields vs})(h1:typeLookup (.type T) "__len__"=pure none)(h2:typeLookup (.type T) (Str.ofString "__length_hint__")=pure none):Hint s (.ref a):=λprog w A E Q s2 k h=>by
 have hT:s2.TypeIs (.ref a) T:=⟨_,k _ _ e,rfl⟩
 unfold Builtin.List.listLengthHint;exact nM (wpAny_specialOf hT h1 (nM (wpAny_specialOf hT h2 (nW (h _ s2.toks)))))
def iZip(K:Fg)(ta:TA):TI:=λU H R=>ta U H λvs H1=>∃b1 a1 b2 a2,vs=[.ref a1,.ref a2]/\(∃xs,SqB b1 K H1 a1 xs)/\(∃ys,SqB b2 K H1 a2 ys)/\R (Itz K b1 a1 b2 a2) H1
theorem T7{X:Cx}{tg a b:Expr}{ta:TA}{p pos:Pos}(hg:Gl X "zip")(hm:X.mg "zip"=none)(ha:PA X [a,b] ta)(hs:Zs2 X.env a b:=by rfl)(aR:Zs1 X.env b:=by rfl):
  PIt X tg (.Call (.Name "zip" p) [a,b] [] pos) "zip" (iZip X.K ta):=by
 intro aa s U H R I h;refine Call_ (Dh I hg hm boot_zip (callWith_type1 (thn (ha pos aa s U H _ I h) λus s1 aj=>?_) (by rw[hs,aR]) (by rw[aR];rfl)));obtain⟨vs,H1,I1,r1,q1⟩:= aj;obtain⟨b1,a1,b2,a2,e,⟨xs,hx⟩,⟨ys,hy⟩,q⟩:=q1;subst e;rcases r1 with _|⟨r,_|⟨r',⟨⟩⟩⟩
 cases r;cases r';obtain⟨eY,_,c1,_⟩:=I1.sqb hx;obtain⟨aU,_,c2,_⟩:=I1.sqb hy;refine Zp.SV c1 c2 λh' st k=>⟨⟨⟨_,_,rfl,st.z.choose_spec.choose_spec.2⟩,WS st.z.choose_spec.choose_spec.2 (by rw[typeLookup_type,builtinLookup_eq_fast];kernel_rfl) (by rw[typeLookup_type,builtinLookup_eq_fast];kernel_rfl)⟩,_,fpZ s1.heap.objs.size,_,_,H1,rfl,I1.kept (t':=s1.toks) k,Qz c1.lt c2.lt,st,λb hb=>?_,q⟩
 have jx:s1.heap.objs.size<=b:=by
  simp only[oh,ph,or_false]at hb;have:∀c m:Nat,(c=m\/c=m+1\/c=m+2\/c=m+3\/c=m+4)->m<=c:=by lia
  exact this _ _ hb
 exact I1.Qp jx (I1.z9.fresh jx)
theorem Inv.inA(I:Inv X aa U H s)(h:A.handled=X.A.handled)(f:A.frames=X.A.frames):Inv {X with A:=A} aa U H s :=
 ⟨{I.ok with hd:=λc=>h.trans (I.ok.hd c),frames:=f.trans I.ok.frames},I.os,I.bare,I.base,I.loc,I.cell,I.free,I.zV,I.pin,I.z9,I.len⟩
def Bnd(X:Cx)(J:It):Prop:=∀aa U H s i,Inv X aa U H s->J.go i H->i<sizeLine
abbrev Put:=Nat->V->Hp->(HO->Prop)->Prop
def ItW(J:It)(S:Addr)(put:Put)(Fin:Hp->Prop)(H0:Hp):Prop :=
 ∃W:Nat->Nat->Hp->Prop,(∃m,W 0 m H0)/\∀i m H,W i m H->(J.stop i H/\Fin H)\/(J.go i H/\∀x H',J.yV i H x H'->put i x H' λo=>∃m',m'<m/\W (i+1) m' (upd H' S o))
variable{X:Cx}{aa:Zao}{U:St}{H:Hp}{s:Shared}{J:It}{fp:List Addr}{it S:Addr}{tn:Nat->Heap->Prop}{x:Str}{p:Pos}{Fin:Hp->Prop}{put:Put}
theorem OQ{W:Nat->Nat->Hp->Prop}(T:Turn X.prog X.w X.K (.Name x p) J fp it tn)(hc:X.calm=true)(hh:A.handled=X.A.handled)(hr:A.frames=X.A.frames)
  (hw:(J.stop i H/\Fin H)\/(J.go i H/\∀x H',J.yV i H x H'->put i x H' λo=>∃m',m'<m/\W (i+1) m' (upd H' S o))) (I:Inv X aa U H s) (t:tn i s.heap) (hf:∀b∈fp,GW X aa H b)
  (hn:∀s',Inv X aa U H s'->Fin H->wpAny (model X.prog X.w) A (k none) Q E s')
  (hs:∀v u H' s',J.go i H->Inv X aa U H' s'->RelV v u->(put i v H' λo=>∃m',m'<m/\W (i+1) m' (upd H' S o))->tn (i+1) s'.heap->(∀b∈fp,GW X aa H' b)->wpAny (model X.prog X.w) A (k (some u)) Q E s') :
  wpAny (model X.prog X.w) A (pyNext (.ref it) >>= k) Q E s:=by
 rcases hw with⟨st,aN⟩|⟨go,nx⟩
 .refine nM (thn (T.done {X with A:=A} rfl rfl rfl hc i aa s U H _ (I.inA hh hr) hf t st) λr s1 aj=>?_);obtain⟨e,I1⟩:= aj;subst e;exact hn s1 (I1.inA hh.symm hr.symm) aN
 .refine nM (thn (T.item {X with A:=A} rfl rfl rfl hc i aa s U H _ (I.inA hh hr) hf t go) λr s1 aj=>?_);obtain⟨u,e,q⟩:= aj;subst e;exact(nM (thn q λ_ s2 ⟨y,H',I2,ry,hy,t2,fr⟩=>hs y u H' s2 go (I2.inA hh.symm hr.symm) ry (nx y H' hy) t2 λb hb=>⟨fr b hb,(hf b hb).2⟩):wpAny _ A (letOwnedTupleGo (.Name x p) (.ref it) u >>= λ_=>k (some u)) Q E s1)
def putL(S:Addr):Put:=λi x H Q=>∃ys,H S=some (.lst ys)/\ys.length<=i/\Q (.lst (ys++[x]))
theorem LS{W:Nat->Nat->Hp->Prop}(T:Turn X.prog X.w X.K (.Name x p) J fp it tn)(hb:Bnd X J)(hc:X.calm=true)(hh:A.handled=X.A.handled)(hr:A.frames=X.A.frames)
  (hw:∀i m H,W i m H->(J.stop i H/\Fin H)\/(J.go i H/\∀x H',J.yV i H x H'->putL S i x H' λo=>∃m',m'<m/\W (i+1) m' (upd H' S o))) (hR:∀H s',Inv X aa U H s'->Fin H->R (.ok (.ret res)) s') (m:Nat) :
  ∀(i:Nat)(H:Hp)(s:Shared),W i m H->Inv X aa U H s->tn i s.heap->(∀b∈fp,GW X aa H b)->codeAny (model X.prog X.w) A (.builtin "list.extend.loop" ⟨[.ref S,.ref it,res],[]⟩) R s:=by
 induction m using Nat.strongRecOn with
 |_ m ih =>
  intro i H s w I t hf;refine codeAny_builtin F.entry_extend_loop ?_;refine OQ T hc hh hr (hw i m H w) I t hf (λs' I' f=>nW (hR H s' I' f)) λv u H' s' go I' r ⟨ys,e,hz,m',hm,w'⟩ t' dj=>?_
  have:=hb _ _ _ _ _ I go;obtain⟨_,its,n,rv,hl,eo⟩:=I'.Uk e;have ne:=λb hb=>AA e (dj b hb).1
  exact nM (wpAny_updateSeq eo rfl (nW ⟨plainId_quiet F.plain_extend_loop _,ih m' hm (i+1) _ _ w' (I'.WB e eo (by simp) (rv.append (.cons r .nil)) (by simp;lia)) (T.keep _ _ _ t' λb hb o q=>(oJ _ _ (ne b hb)).trans q) λb hb=>⟨(Al (ne b hb).symm).trans (dj b hb).1,(dj b hb).2⟩⟩) (by rw[nV];lia) (by simp;lia))
theorem JbU{A:Around}{T:String}{vs:Array Value}{H1:Hp}{Q:Zcv}{E:Zcv}{res:Value}{c:Nat}(Tn:Turn X.prog X.w X.K (.Name x p) J fp it tn)(bd:Bnd X J)(hc:X.calm=true)(hh:A.handled=X.A.handled)(hr:A.frames=X.A.frames)(hT:Hint s (.ref it))(hn:T≠"list"/\T≠"tuple")
  (I:Inv X aa U (upd H1 S (.lst [])) s) (e1:s.heap.get? S=some {cls:=.type "list",data:=.seq #[] c}) (t0:tn 0 s.heap) (eo:s.heap.get? it=some {cls:=.type T,data:=.fields vs}) (hf:∀b∈fp,GW X aa (upd H1 S (.lst [])) b) (w:ItW J S (putL S) Fin (upd H1 S (.lst [])))
  (hR:∀H s',Inv X aa U H s'->Fin H->Q res s') :
  wpAny (model X.prog X.w) A.in1 (Builtin.List.listExtendWith (.ref S) (.ref it) res) (λaN s'=>match aN with|.done f=>wants Q E (.ok f) s'|.again c'=>c'.quiet=true/\codeAny (model X.prog X.w) A c' (wants Q E) s') (λe s'=>wants Q E (.error e) s') s:=by
 obtain⟨W,⟨m,w0⟩,hw⟩:=w;have ne:S≠it:=AA An (hf it Tn.mem).1;unfold Builtin.List.listExtendWith;refine nM (wpAny_typeOf ⟨_,eo,rfl⟩ ?_);rw[if_neg (by simp[Builtin.List.listSameRef,ne,hn])];refine nM (Tn.self _ 0 _ _ _ t0 (nM (wpAny_holding (hT _ _ _ _ _ _ (λ_ _ e=>e) λb tk=>?_))));split
 .have e2:=pe (Obj.mapSeq (·.push Value.none)) e1 rfl;have I2:=(I.WB (t':=tk) (f:=(·.push Value.none)) (its:=[]) (aH:=[.none]) (ys:=[.l]) An e1 rfl (.cons rfl .nil) (by rw[sizeLine_eq];decide)).WB (t':=tk) (f:=(·.pop)) (its:=[.none]) (aH:=[]) (ys:=[]) An e2 rfl .nil (pf _);rw[J7,J7]at I2;refine nM (wpAny_rule (nM (nM (wpAny_updateSeq e1 rfl (wpAny_updateSeq (hz:=by seq_fits) e2 rfl (nW ⟨plainId_quiet F.plain_extend_loop _,LS Tn bd hc hh hr hw hR m 0 _ _ w0 I2 (Tn.keep _ _ _ t0 λb hb o q=>?_) hf⟩))))));have ne:=AA (H:=upd H1 S (.lst [])) An (hf b hb).1;exact(oJ _ _ ne).trans ((oJ _ _ ne).trans q)
 .exact nW ⟨plainId_quiet F.plain_extend_loop _,LS Tn bd hc hh hr hw hR m 0 _ _ w0 (I.kept (t':=tk) λ_ _ e=>e) t0 hf⟩
def Vi(X:Cx)(wi:TI):TE:=λU H Q=>wi U H λJ H1=>Bnd X J/\∀S,H1 S=none->ItW J S (putL S) (Q (.ref S)) (upd H1 S (.lst []))
theorem Jd{T:String}{av:Expr}{wi:TI}{p1 bY:Pos}(hc:X.calm=true)(dH:X.mg "list"=none)(hi:PIt X (.Name x p) av T wi)(hn:T≠"list"/\T≠"tuple")(dE:Gl X "list":=by rfl)(he:Zs1 X.env av:=by rfl):
  PE X (.Call (.Name "list" p1) [av] [] bY) (Vi X wi):=by
 intro aa s U H Q I h;refine wpAny_Call_Name_kw (Dh I dE dH boot_list (callWith_type1 ?_ he rfl));rw[he];refine Calls.spliced_cons (thn (hi aa s U H _ I h) λv s1 ⟨⟨⟨it,_,e,eo⟩,hT⟩,_,fp,tn,J,H1,e',I1,Tn,t0,hf,bd,q⟩=>Calls.spliced_nil ?_);subst e;cases e';refine callType_codes (Q₁:=λobj aw=>obj=.ref s1.heap.objs.size/\aw={s1 with heap:=s1.heap.push {cls:=.type "list",data:=.seq #[]} }) F.called_list (F.typeCall_list_1 _) F.entry_list_init (code_list_new _ ⟨rfl,rfl⟩) λobj aw aL=>?_
 obtain⟨rfl,rfl⟩:=aL;have hS:(s1.heap.push {cls:=.type "list",data:=.seq #[]}).get? s1.heap.objs.size=some {cls:=.type "list",data:=.seq #[]}:=n5 _ rfl;refine⟨⟨_,hS,rfl⟩,F.args_list_init_2 _ _,?_⟩;have ne:∀{b o},s1.heap.get? b=some o->s1.heap.objs.size≠b:=λe=>(oA (oa e)).symm
 show wpAny _ _ (do let old <- Builtin.List.listItems (.ref s1.heap.objs.size);Builtin.List.listUpdate (.ref s1.heap.objs.size) (λ_=>#[]);letGo old.toList.reverse;Builtin.List.listExtendWith (.ref s1.heap.objs.size) (.ref it) .none) _ _ _;unfold Builtin.List.listItems;have k1:∀b o,s1.heap.get? b=some o->((s1.heap.push {cls:=.type "list",data:=.seq #[]}).update s1.heap.objs.size (Obj.mapSeq λ_=>(#[]:Array Value))).get? b=some o:=λb o e=>(oJ _ _ (ne e)).trans (nR _ e)
 have e1:=pe (Obj.mapSeq λ_=>(#[]:Array Value)) hS rfl;exact nM (nM (wpAny_seqItems hS rfl (nW (nM (wpAny_updateSeq hS rfl (nM (wpAny_letGo (JbU (A:=X.A.in1) Tn bd hc rfl rfl (λP w A E Q s2 k=>hT P w A E Q s2 λb o e=>k b o (k1 b o e)) hn (I1.laid (t':=s1.toks) k1 (n9 _) ⟨pf _,[],_,.nil,e1⟩) e1 (Tn.keep _ _ _ t0 λb _ o=>k1 b o) (k1 _ _ eo) (λb hb=>⟨(Al (let⟨_,e,_⟩:=Tn.obj _ _ t0 b hb;(ne e).symm)).trans (hf b hb).1,(hf b hb).2⟩) (q _ I1.fresh) λH s' I' q=>⟨rfl,.ref s1.heap.objs.size,H,I',rfl,q⟩))))))))
theorem P4:Bnd X (Itz X.K b1 a1 b2 a2):=λ_ _ _ _ i I ⟨xs,_,_,_,q1,_,e,_⟩=>by
 obtain⟨_,_,_,z⟩:=I.sqb q1;have:=(n6.mp e).1
 lia
def Itv(K:Fg)(a:Addr)(n:Nat):It :=
 ⟨λi H=>i<n/\∃xs x,SqL K H a xs/\xs.length=n/\xs[n-1-i]?=some x,λi H x H'=>H'=H/\∀xs,SqL K H a xs->xs[n-1-i]?=some x,λi _=>n<=i⟩
theorem QB{K:Fg}(a it:Addr)(n:Nat):Turn P w K tg (Itv K a n) [it] it (λi h=>i<=n/\h.IsRevIter it a ((n:Int)-1-i)) where
 mem:=by simp
 obj:=λi h st b hb=>by
  have e:=by simpa using hb
  subst e;obtain⟨_,o,e,c,d⟩:=st;exact⟨o,e,λv z=>by rw[d]at z;cases z⟩
 keep:=λi h h' st k=>⟨st.1,st.2.at λo e=>k it (by simp) o e⟩
 item:=by
  intro X hP hw hK hc i aa s U H E I hf st hg;subst hP hw hK;obtain⟨hi,xs,x,hq,_,hx⟩:=hg;obtain⟨its,rv,p,hz⟩:=I.list hq;obtain⟨u,hu,ru⟩:=rv.get hx;obtain⟨f0,f1,f2,f3,f4,f5⟩:=hf it (by simp);have e:(n:Int)-1-i=((n-1-i:Nat):Int):=by lia
  have dP:=st.2;rw[e]at dP;refine wpAny_pyNext_rev_item dP p.isList (by simpa using hu) λh' aY sb=>?_
  obtain⟨o,e,c,d⟩:=id aY;exact⟨u,rfl,Ky e c d (by decide) ⟨x,H,(I.turned (λb o hb e=>(sb.2 b hb).trans e) f0 f1 f3 f4 f5),ru,⟨rfl,λys hy=>by rwa[I.HR hy hq]⟩,⟨by lia,by
   have e2:(n:Int)-1-((i+1:Nat):Int)=((n-1-i:Nat):Int)-1:=by lia
   rwa[e2]⟩,λb hb=>(hf b hb).1⟩⟩
 done:=by
  intro X hP hw hK hc i aa s U H E I hf st hg;have hg:n<=i:=hg;obtain⟨f0,f1,f2,f3,f4,f5⟩:=hf it (by simp);have e:(n:Int)-1-i=-1:=by have:=st.1;lia
  have dP:=st.2;rw[e]at dP;exact wpAny_pyNext_rev_end (I.ok.hd hc) dP λh' eb=>⟨rfl,I.turned (λb o hb e=>eb b o hb e) f0 f1 f3 f4 f5⟩
 self:=λ_ _ _ _ _ st h=>wpAny_pyIter_revIter st.2 h
theorem RH{a:Addr}{vs:Array Value}(e:s.heap.get? a=some {cls:=.type "list_reverseiterator",data:=.fields vs}):Hint s (.ref a):=λprog w A E Q s2 k h=>by
 have hT:s2.TypeIs (.ref a) "list_reverseiterator":=⟨_,k _ _ e,rfl⟩
 unfold Builtin.List.listLengthHint;refine nM (wpAny_specialOf hT (by rw[typeLookup_type,builtinLookup_eq_fast];kernel_rfl:typeLookup (.type "list_reverseiterator") "__len__"=pure none) ?_);refine nM (wpAny_specialOf hT (by rw[typeLookup_type,builtinLookup_eq_fast];kernel_rfl:typeLookup (.type "list_reverseiterator") (Str.ofString "__length_hint__")=pure (some (.builtin "list_reverseiterator.__length_hint__"))) ?_);generalize hid:("list_reverseiterator.__length_hint__":String)=id0
 wp_delta
 rw[show splitId id0=some ("list_reverseiterator","__length_hint__")from by subst hid;decide +kernel];subst hid;exact nM (wpAny_isInstance (b:=true) hT (by rw[isSubtype_type];kernel_rfl) (nW (h _ s2.toks)))
def iRev(K:Fg)(ta:TE):TI:=λU H R=>ta U H λx H1=>∃a xs,x=.ref a/\SqL K H1 a xs/\R (Itv K a xs.length) H1
theorem ZQ{tg a:Expr}{ta:TE}{p2 bb:Pos}(cy:X.mg "reversed"=none)(ha:PE X a ta)(bT:Gl X "reversed":=by rfl)(dD:Zs1 X.env a:=by rfl):
  PIt X tg (.Call (.Name "reversed" p2) [a] [] bb) "list_reverseiterator" (iRev X.K ta):=by
 intro aa s U H R I h;refine wpAny_Call_Name_kw (Dh I bT cy boot_reversed (callWith_type1 ?_ dD rfl));rw[dD];refine Calls.spliced_cons (thn (ha aa s U H _ I h) λu s1 aj=>?_);obtain⟨x,H1,I1,r1,l,ys,ex,hq,q⟩:= aj;subst ex;cases r1;obtain⟨its,rv,pl,hz⟩:=I1.list hq;have e:((its.toArray.size:Nat):Int)-1=(ys.length:Int)-1-((0:Nat):Int):=by rw[nV,<- rv.length];lia
 refine Calls.spliced_nil (call_reversed_list pl.isList ⟨⟨⟨_,_,rfl,n5 _ rfl⟩,RH (n5 _ rfl)⟩,_,[s1.heap.objs.size],_,_,H1,rfl,I1.kept (t':=s1.toks) λb o e=>nR _ e,QB l _ ys.length,⟨pf _,_,n5 _ rfl,rfl,by rw[<- e];rfl⟩,λb hb=>?_,q⟩);rw[oE.mp hb];exact I1.Qp (n9 _) I1.fresh
theorem SqL.keep{K:Fg}(h:SqL K H a xs)(e:H S=none):SqL K (upd H S o) a xs:=by
 rcases h with h|h
 .have:a≠S:=λz=>by rcases h with h|⟨_,h⟩<;>(rw[z,e]at h;cases h)
  exact .inl (by unfold Rd at *;rwa[Al this])
 .exact .inr h
theorem Zq{K:Fg}(hq:SqL K H a ys)(hS:H S=none)(q:Fin (upd H S (.lst ys.reverse))):ItW (Itv K a ys.length) S (putL S) Fin (upd H S (.lst [])):=by
 refine⟨λi m H2=>m=ys.length-i/\i<=ys.length/\H2=upd H S (.lst (ys.reverse.take i)),⟨_,rfl,pf _,rfl⟩,?_⟩
 rintro i m _ ⟨rfl,hi,rfl⟩
 by_cases h:i<ys.length
 .have e:ys[ys.length-1-i]?=some ys[ys.length-1-i]:=nO (by lia);refine .inr ⟨⟨h,ys,_,hq.keep hS,rfl,e⟩,λx H' ⟨e1,e2⟩=>⟨_,e1▸An,by simp;lia,_,by lia,rfl,h,?_⟩⟩;have:=e2 ys (hq.keep hS);rw[e1,J7,qz,List.getElem?_reverse h,this];rfl
 .have:i=ys.length:=by lia
  subst this;rw[show ys.reverse.take ys.length=ys.reverse by rw[<- List.length_reverse,pQ]];exact .inl ⟨n9 _,q⟩
theorem X4:Bnd X (Itv X.K a n):=λ_ _ _ _ i I ⟨h,xs,_,q,e,_⟩=>by
 obtain⟨_,_,_,z⟩:=I.list q
 lia
end Lake.L2
namespace PySem
theorem KG(l b:Addr)(items bF:Array Value)(n n2:Nat)(fh:Option Addr)(du:Array (Option Value))(nD:¬(!items.isEmpty&&Builtin.List.listTooLong (items.size+bF.size))=true)(nE:items.size<=sizeLine)(aR:items.size+bF.size<=sizeLine+1):
  Meets (Builtin.«list.extend» ⟨[.ref l,.ref b],[]⟩) (λ_ R s=>s.heap.get? l=some {cls:=.type "list",dict:=none,data:=.seq items n,slots:=#[]}/\s.heap.get? b=some {cls:=.type "tuple",dict:=fh,data:=.seq bF n2,slots:=du} /\
   R (.ok (.ret Value.none)) {s with heap:=s.heap.update l (Obj.mapSeq λx=>x++bF),toks:=s.toks}) :=
 .of_wp λprog w A R s h=>by
  obtain⟨hp,g,d,tk,os⟩:=s;obtain⟨hl,hb,h⟩:=h;have f1:=AutoSeq1.idx_int;have f2:=AutoSeq1.sub_tuple_tuple;have f3:=AutoSeq1.sub_list_list;have f4:=AutoSeq1.sub_tuple_list;have f5:=AutoSeq1.sub_list_tuple
  wp_walk using (wpAny_updateSeq hl rfl),wpAny_loadPart' hl,wpAny_loadPart' hb
  exact⟨_,rfl,h⟩
end PySem
namespace Lake.L2
open PySem PySem.Spec PyProof.Rows
inductive QW(K:Fg)(x:V)(vs:List V)(H:Hp)(Q:VK):Prop
 |mk (l b xs zs:_) (h0:x=.ref l) (h1:vs=[.ref b]) (h2:H l=some (.lst xs)) (h3:SqT K H b zs) (h4:xs.length+zs.length<=sizeLine) (h5:Q .l (upd H l (.lst (xs++zs))))
theorem Wu:MtM X "list.extend" (QW X.K):=by
 intro aa s U H x vs v us Q I rx rv h;obtain⟨l,b,xs,zs,rfl,rfl,hH,hB,hz,q⟩:=h;cases rx;obtain⟨u,rfl,ru⟩:=rv.one;cases ru;obtain⟨z,its,n,r,hl,e⟩:=I.Uk hH;obtain⟨aU,r2,⟨⟨cls,dd,data,sl⟩,ho,hc,n2,hd⟩,z2⟩:=I.tuple hB;subst hc hd;have e2:=r2.length;have hsz:its.toArray.size+aU.toArray.size<=sizeLine:=by rw[nV,nV];lia
 refine call_meets F.slot_list_extend ⟨_,e,rfl⟩ F.entry_list_extend (F.args_list_extend_2 _ _) (KG l b its.toArray aU.toArray n n2 dd sl (by rw[Lv hsz,Bool.and_false];exact oz) (by rw[nV];lia) (by lia)) ⟨e,ho,?_⟩;refine⟨.l,_,I.WB hH e (by simp) (r.append r2) ?_,rfl,q⟩;rw[oi]
 lia
inductive TV(K:Fg)(x:V)(y:V)(H:Hp)(Q:VK):Prop
 |mk (a b ys:_) (h0:x=.ref a) (h1:y=.ref b) (h2:SqT K H a []) (h3:SqT K H b ys) (h4:Q (.ref b) H)
theorem Rf:OpR X (binaryOp .Add) (TV X.K):=by intro aa s U H x y v u Q I rx ry h;obtain⟨a,b,ys,rfl,rfl,ha,hb,q⟩:=h;cases rx;cases ry;obtain⟨its,r1,⟨⟨cls,dd,data,sl⟩,ho,hc,n,hd⟩,_⟩:=I.tuple ha;obtain⟨aU,r2,⟨⟨g7,fh,data2,du⟩,eT,bN,n2,hd2⟩,_⟩:=I.tuple hb;subst hc hd bN hd2;cases r1;exact concat_meets ⟨_,ho,rfl⟩ ⟨_,eT,rfl⟩ noFill_tuple_add seq_tuple_add slot_tuple_add entry_tuple_add (args_tuple_add_2 _ _) (tuple_addW0 a b _ _ n n2 dd fh sl du (by simp)) ⟨ho,eT,⟨.ref b,H,I,rfl,q⟩⟩
theorem KQ(T:String):BK X (.builtin "isinstance") (λxs H Q=>∃x t b,xs=[x,.ty T]/\Md X.K H x t/\kitOne X.K t (.type T)=some b/\Q (.v b) H):=by intro aa s U H xs us Q I r h;obtain⟨x,t,b,rfl,ty,e,q⟩:=h;cases r with|cons r1 rr =>cases rr with|cons r2 rr =>cases rr;obtain rfl:_=Value.type T:=r2;exact OR I r1 ty e λtk=>⟨.v b,H,I.tok tk,rfl,q⟩
end Lake.L2
namespace PySem
namespace F
theorem Ks:typeLookup (.type "tuple") "__reversed__"=pure none:=by rw[typeLookup_type,builtinLookup_eq_fast];kernel_rfl
theorem HH:Manifest.owners.lookup (String.ofList ['d','e','s','r','e','v','e','r'].reverse)=some Manifest.sig_reversed:=by kernel_rfl
theorem Dc:Slot "reversed" "__next__" "reversed.__next__" :=
 .of (owner:="reversed") (n:="__next__") (by rw[typeLookup_type,builtinLookup_eq_fast];kernel_rfl) (by decide +kernel) (by decide +kernel) (by decide +kernel)
  (by first|exact .inl (by decide +kernel)|exact .inr (by decide +kernel)) (by rw[isSubtype_type];kernel_rfl)
theorem Ii:entryFor table "reversed.__next__"=some Builtin.«reversed.__next__»:=entryFor_of_tree (by kernel_rfl)
theorem JW(a:Value):argsOk "reversed.__next__" ⟨[a],[]⟩:=by unfold argsOk;rw[signature?_of (n:=['_','_','t','x','e','n','_','_']) (by kernel_rfl) HH];kernel_rfl
theorem EK:Slot "reversed" "__iter__" "reversed.__iter__" :=
 .of (owner:="reversed") (n:="__iter__") (by rw[typeLookup_type,builtinLookup_eq_fast];kernel_rfl) (by decide +kernel) (by decide +kernel) (by decide +kernel)
  (by first|exact .inl (by decide +kernel)|exact .inr (by decide +kernel)) (by rw[isSubtype_type];kernel_rfl)
theorem JX(a:Value):argsOk "reversed.__iter__" ⟨[a],[]⟩:=by unfold argsOk;rw[signature?_of (n:=['_','_','r','e','t','i','_','_']) (by kernel_rfl) HH];kernel_rfl
theorem Ij:entryFor table "reversed.__iter__"=some Builtin.«dict_keyiterator.__iter__» :=
 entryFor_alias (id':="dict_keyiterator.__iter__") (by kernel_rfl) (by first|rfl|decide +kernel|(unfold String.splitOn;simp +decide [String.splitOnAux])) (by decide +kernel) (by kernel_rfl)
theorem IS:Slot "reversed" "__init__" "object.__init__" :=
 .of (owner:="object") (n:="__init__") (by rw[typeLookup_type,builtinLookup_eq_fast];kernel_rfl) (by decide +kernel) (by decide +kernel) (by decide +kernel)
  (by first|exact .inl (by decide +kernel)|exact .inr (by decide +kernel)) (by rw[isSubtype_type];kernel_rfl)
theorem PY:TypeCalled "reversed" "reversed.__new__" "object.__init__" :=
 ⟨by decide +kernel,by decide +kernel,⟨_,_,mro_reversed⟩,made_reversed,by decide +kernel,by rw[isSubtype_type];kernel_rfl,IS⟩
theorem Ri:typeLookup (.type "reversed") "__len__"=pure none:=by rw[typeLookup_type,builtinLookup_eq_fast];kernel_rfl
theorem Dd:Slot "reversed" "__length_hint__" "reversed.__length_hint__" :=
 .of (owner:="reversed") (n:="__length_hint__") (by rw[typeLookup_type,builtinLookup_eq_fast];kernel_rfl) (by decide +kernel) (by decide +kernel) (by decide +kernel)
  (by first|exact .inl (by decide +kernel)|exact .inr (by decide +kernel)) (by rw[isSubtype_type];kernel_rfl)
theorem Ik:entryFor table "reversed.__length_hint__"=some Builtin.«reversed.__length_hint__»:=entryFor_of_tree (by kernel_rfl)
theorem JY(a:Value):argsOk "reversed.__length_hint__" ⟨[a],[]⟩:=by unfold argsOk;rw[signature?_of (n:="__length_hint__".toList.reverse) (by kernel_rfl) HH];kernel_rfl
end F
end PySem
namespace PySem
open PyProof.Rows (IsTup)
namespace Rv
variable{E:Zcv}
end Rv
end PySem
namespace Lake.L2
open PySem PySem.Spec PyProof.Rows
end Lake.L2
namespace HT
open PySem PyProof.Rows
variable{E:Zcv}
theorem ED{lo hi:Option Int}(ht:IsTup s.heap t items)(hs:s.heap.IsSliceOf sl vl vu .none)(pl:IsPart vl lo)(pu:IsPart vu hi)
  (hw:sIx items.size 0 lo=0/\sIx items.size items.size hi=items.size) (h:Q (.ref t) s):wpAny (model prog w) A (getItem (.ref t) (.ref sl)) Q E s:=by
 obtain⟨os,eU,fq,fQ⟩:=id hs;unfold getItem
 try with_reducible refine wpAny_holding ?_
 first|refine nM (nW ?_)|skip
 refine nM (wpAny_sequenceKey ht.typeIs (by decide) ?_);refine nM (wpAny_callSpecial?_slot ht.typeIs slot_tuple_getitem
  (wpAny_call_entry slot_tuple_getitem ht.typeIs entry_tuple_getitem ?_ (args_tuple_getitem _ _)))
 show wpAny _ _ (Builtin.Tuple.tupleItemsOf (.ref t) >>= _) _ _ s;refine nM (tupleItemsOf_ ht ?_);refine nM (wpAny_typeOf (⟨os,eU,fq⟩) ?_);refine nM (C3 hs pl pu ?_);show wpAny _ _ (if(((sIx items.size 0 lo:Nat):Int)==0&&(1:Int)==1&&(sIx items.size items.size hi-sIx items.size 0 lo)==items.size)=true then _ else _) _ _ s;rw[if_pos (by rw[hw.1,hw.2];simp)];refine nM ?_;refine nM (wpAny_typeOf ht.typeIs (nW ?_));exact nM (wpAny_rule (nW ⟨_,rfl,nW h⟩))
end HT
namespace Lake.L2
open PySem PySem.Spec PyProof.Rows
inductive rSlA(K:Fg)(x:V)(lo:Option Int)(hi:Option Int)(H:Hp)(Q:VK):Prop
 |mk (a xs:_) (h0:x=.ref a) (h1:SqT K H a xs) (h2:(HT.sIx xs.length 0 lo=0/\HT.sIx xs.length xs.length hi=xs.length)) (h3:Q (.ref a) H)
theorem Zi:SlR X (rSlA X.K):=by
 intro aa s U H x v vl vu lo hi sl Q I rx hs pl pu h;obtain⟨a,xs,rfl,hx,hw,q⟩:=h;cases rx;obtain⟨its,r,ht,hz⟩:=I.tuple hx;have hlen:its.toArray.size=xs.length:=by rw[nV];exact r.length.symm
 refine⟨"tuple",_,PyProof.Rows.slot_tuple_getitem.lookup,ht.typeIs,?_⟩;exact HT.ED ht hs pl pu (by rwa[hlen]) ⟨.ref a,H,I,rfl,q⟩
end Lake.L2
namespace Lake.L2
open PySem PySem.Spec PySem.W PyProof.Rows
def Ca:List Int->Nat
 | []=>0
 |n::ns=>Builtin.Int.intBits n+1+Ca ns
theorem Gy:∀ns:List Int,WData.weightAll (ns.map WData.int)=Ca ns
 | []=>by simp[WData.weightAll,Ca]
 |n::ns=>by simp only[nQ,WData.weightAll,Gy ns];rfl
end Lake.L2
namespace Lake.L2
open PySem PySem.Spec
theorem TU(h:GO k u=true):RelV (kV k) u:=by
 cases k with
 |inl i =>
  have h:Value.isInt i u=true:=h;cases u<;>first
   |(simp[Value.isInt]at h;subst h;exact⟨_,rfl⟩)
   |(simp at h)
   |(cases h)
 |inr x =>
  have h:Value.isStrOf x u=true:=h;cases u<;>first
   |(simp[Value.isStrOf]at h;subst h;exact⟨_,rfl⟩)
   |(simp at h)
   |(cases h)
def epOf(o:Obj):Nat:=match o.data with|.dict _ ep=>ep|_=>0
def Itd(a:Addr)(o:Obj)(af:List (Key×V)):It :=
 ⟨λi H=>H a=some (.frz o (.n af))/\i<af.length,λi H x H'=>H'=H/\∃k,(af.map (·.1))[i]?=some k/\x=kV k,λi H=>H a=some (.frz o (.n af))/\af.length<=i⟩
theorem Inv.Yq(I:Inv X aa U H s)(e:H a=some (.frz o (.n af))):(a==sysModules)=false/\∃vs,KV af vs/\s.heap.DictAt (A4 X.prog X.w) a vs (epOf o):=by
 obtain⟨h1,h2⟩:=(show A0 X.prog X.w H s.heap a (.frz o (.n af))from I.z9 a _ e)
 obtain⟨z,hd,vs,aB,dd⟩:=(show af.length<=sizeLine/\(a==sysModules)=false/\∃vs,KV af vs/\s.heap.DictOf (A4 X.prog X.w) a vs from h2)
 refine⟨hd,vs,aB,?_⟩;obtain⟨o',es,ep,ho,hc,ig,r⟩:=dd;rw[h1]at ho;cases ho;refine⟨o,es,h1,hc,?_,r⟩;unfold epOf;rw[ig]
theorem Inv.freeze(I:Inv X aa U H s)(e:H a=some (.n af)):∃o,Inv X aa U (upd H a (.frz o (.n af))) s:=by
 obtain⟨z,hd,vs,aB,dd⟩:=(show af.length<=sizeLine/\(a==sysModules)=false/\∃vs,KV af vs/\s.heap.DictOf (A4 X.prog X.w) a vs from((show A0 X.prog X.w H s.heap a (.n af)from I.z9 a _ e)))
 obtain⟨o,es,ep,ho,r⟩:=id dd;exact⟨o,I.write (by rw[e];exact True.intro) (.inl rfl) (λ_ _ _ z=>z) ⟨o,ho⟩ ⟨ho,z,hd,vs,aB,dd⟩⟩
theorem Nu{P:Program}{w:World}{K:Fg}{tg:Expr}(a it:Addr)(o:Obj)(af:List (Key×V)):Turn P w K tg (Itd a o af) [it] it (λi h=>h.IsKeyIter it a i af.length (epOf o)) where
 mem:=by simp
 obj:=λi h st b hb=>by
  have e:b=it:=by simpa using hb
  subst e;obtain⟨o,e,c,d⟩:=st;exact⟨o,e,λv z=>by rw[d]at z;cases z⟩
 keep:=λi h h' st k=>by obtain⟨o,e,r⟩:=st;exact⟨o,k it (by simp) o e,r⟩
 item:=by
  intro X hP hw hK hc i aa s U H E I hf st hg;subst hP hw hK;obtain⟨he,hi⟩:=hg;obtain⟨hd,vs,aB,da⟩:=I.Yq he;have hl:=aB.length;have b8:i<vs.length:=by lia
  obtain⟨f0,f1,f2,f3,f4,f5⟩:=hf it (by simp);have hx:vs[i]?=some ((vs[i]).1,(vs[i]).2):=nO b8;rw[hl]at st;refine wpAny_pyNext_dict_item st da hx λkey h' hk aY sb=>?_
  rw[<- hl]at aY;have I1:Inv X aa U H {s with heap:=h' }:=I.turned (t':=s.toks) (λb o hb e=>(sb.2 b hb).trans e) f0 f1 f3 f4 f5;obtain⟨o',e,c,d⟩:=id aY;have iB:(af.map (·.1))[i]?=some (vs[i]).1:=by
   have:af.map (·.1)=vs.map (·.1):=by
    clear hx b8 hl da st hk aY sb I1 e c d he hi;unfold KV at aB
    induction aB with|nil=>rfl|cons h t ih=>rw[nQ,nQ,h.1,ih]
   rw[this,ou,nO b8];rfl
  exact⟨key,rfl,Ky (s:={s with heap:=h' }) e c d (by decide) ⟨kV (vs[i]).1,H,I1,TU hk,⟨rfl,_,iB,rfl⟩,aY,λb hb=>(hf b hb).1⟩⟩
 done:=by intro X hP hw hK hc i aa s U H E I hf st hg;subst hP hw hK;obtain⟨he,hi⟩:=hg;obtain⟨hd,vs,aB,da⟩:=I.Yq he;have hl:=aB.length;obtain⟨f0,f1,f2,f3,f4,f5⟩:=hf it (by simp);rw[hl]at st;exact wpAny_pyNext_dict_end (I.ok.hd hc) st da (oQ (by lia)) λh' eb=>⟨rfl,I.turned (t':=s.toks) (λb o hb e=>eb b o hb e) f0 f1 f3 f4 f5⟩
 self:=λ_ _ _ _ _ st h=>wpAny_pyIter_keyiter st h
theorem Gv(hc:X.calm=true):BK X (.type "list") (λxs H Q=>∃p af,xs=[.ref p]/\Rd H p (.n af)/\∀l,H l=none->Q (.ref l) (upd H l (.lst (af.map λkv=>kV kv.1)))):=by
 intro aa s U H xs us Q I r h;obtain⟨p,af,rfl,hp,q⟩:=h;obtain⟨u,rfl,rx⟩:=vals1 r;cases rx;obtain⟨z,hd,vs,aB,dd⟩:=E2 I.z9 hp;obtain⟨ep,da⟩:=dd.dictAt;refine PySem.W.kdl_call (kdl_dict hd) (I.ok.hd hc) da (by rwa[<- (Paired.length aB)]) λh' tk ar c' kp e hZ=>?_
 refine⟨.ref s.heap.objs.size,_,I.laid kp (n9 _) (show A0 X.prog X.w _ h' _ (.lst (af.map λkv=>kV kv.1))from⟨by rw[nX];exact z,ar.toList,c',IK aB hZ,by simpa using e⟩),rfl,q _ (I.z9.fresh (n9 _))⟩
theorem M1:BK X (.builtin "len") (λxs H Q=>∃a af,xs=[V.ref a]/\Rd H a (.n af)/\Q (.int af.length) H):=by intro aa s U H xs us Q I r h;obtain⟨a,af,rfl,ha,q⟩:=h;obtain⟨u,rfl,ru⟩:=vals1 r;cases ru;exact d_len I ha λt s' I'=>⟨.int af.length,H,I',⟨t,rfl⟩,q⟩
theorem M3:BK X (.type "dict") (λxs H Q=>∃a af,xs=[.ref a]/\Rd H a (.n af)/\∀l,H l=none->Q (.ref l) (upd H l (.n af))):=by intro aa s U H xs us Q I r h;obtain⟨a,af,rfl,ha,q⟩:=h;obtain⟨u,rfl,rx⟩:=vals1 r;cases rx;exact SI I ha λp s' hp I'=>⟨.ref p,_,I',rfl,q p hp⟩
def JaW(td:TE):TI:=λU H R=>td U H λx H1=>∃a af,x=.ref a/\((H1 a=some (.n af)/\∀o,R (Itd a o af) (upd H1 a (.frz o (.n af))))\/∃o,H1 a=some (.frz o (.n af))/\R (Itd a o af) H1)
theorem Q8{l:Expr}{td:TE}(hl:PE X l td):PI X tg l (JaW td):=by
 intro aa s U H R I h;refine thn (hl aa s U H _ I h) λv s1 aj=>?_
 obtain⟨x,H1,I1,r1,q1⟩:= aj;obtain⟨a,af,e,hq⟩:=q1;subst e;cases r1
 suffices key:∃(o:Obj)(H2:Hp),Inv X aa U H2 s1/\H2 a=some (.frz o (.n af))/\R (Itd a o af) H2 by
  obtain⟨o,H2,I2,h2,q⟩:=key;obtain⟨hd,vs,aB,da⟩:=I2.Yq h2;have hlen:=aB.length;refine wpAny_pyIter_dict hd da ?_;refine⟨s1.heap.objs.size,[s1.heap.objs.size],_,_,_,rfl,I2.kept (t':=s1.toks) λb o e=>nR _ e,Nu a _ o af,⟨_,n5 _ rfl,rfl,by rw[hlen];rfl⟩,λb hb=>?_,q⟩;have e:b=s1.heap.objs.size:=by simpa using hb
  subst e;exact I2.Qp (n9 _) (I2.z9.fresh (n9 _))
 rcases hq with⟨hq,q⟩|⟨o,hq,q⟩
 .obtain⟨o,I2⟩:=I1.freeze hq;exact⟨o,_,I2,An,q o⟩
 .exact⟨o,H1,I1,hq,q⟩
def tFrz(td:TE):TE:=λU H Q=>td U H λx H1=>∃a af,x=.ref a/\H1 a=some (.n af)/\∀o,Q (.ref a) (upd H1 a (.frz o (.n af)))
theorem Z1{e:Expr}{td:TE}(h:PE X e td):PE X e (tFrz td):=by
 intro aa s U H Q I q;refine thn (h aa s U H _ I q) λv s1 aj=>?_
 obtain⟨x,H1,I1,r1,a,af,ex,hq,q⟩:= aj;subst ex;cases r1;obtain⟨o,I2⟩:=I1.freeze hq;exact⟨.ref a,_,I2,rfl,q o⟩
end Lake.L2
namespace Lake.L2
open PySem PySem.Spec PyProof.Rows PySem.W
theorem Oy:∀(K:Fg),(K.map (·.1)).map h.get?=K.map (λp=>some p.2)->K.In h
 | [],_=>λa o e=>by cases e
 |p::K,hk=>λa o e=>by
  simp only[nQ,List.cons.injEq]at hk;rw[oR]at e;by_cases q:a=p.1
  .subst q;rw[show(p.1==p.1)=true by simp]at e;cases e;exact hk.1
  .rw[show(a==p.1)=false by simpa using q]at e;exact Oy K hk.2 a o e
end Lake.L2
namespace Lake.L2
open PySem PySem.Spec PyProof.Rows
def ExT(h:Heap)(vs:Array Value)(a:Addr)(fl:Value):Option Addr->Prop
 |none=>vs[1]?=some .none
 |some T=>vs[1]?=some (.ref T)/\T≠a/\∃oT ts,h.get? T=some oT/\oT.data=.fields ts/\ts[3]?=some fl
inductive To(h:Heap)(a:Addr)(c:Value)(T:Option Addr)(fl:Value):Prop
 |mk (oe:Obj) (vs:Array Value) (h0:h.get? a=some oe) (h1:oe.cls=c) (h2:oe.dict=none) (h3:oe.data=.fields vs) (h4:ExT h vs a fl T)
theorem Obj.PH(o:Obj)(f:Array Value->Array Value):(o.mapFields f).dict=o.dict:=by obtain⟨_,_,dt,_⟩:=o;cases dt<;>rfl
variable{M:Model}{A:Around}{E:Zcv}{s:Shared}
theorem LW
  (cx:A.frames=some (env::outer)) (hl:s.heap.FunFrames base (env::outer)) (hf:env.frame=some L) (he:s.heap.get? e=some oe) (dC:oe.dict=none) (hd:oe.data=.fields vs) (hsz:1<vs.size)
  (h:∀h' T,s.heap.objs.size<=T->(∀b o,s.heap.get? b=some o->b∉frs (env::outer)->b≠e->h'.get? b=some o)->(∀b o,s.heap.get? b=some o->b∈frs (env::outer)->∃sl,h'.get? b=some {o with slots:=sl}) ->
   To h' e oe.cls (some T) (rawInt L)->Q () {s with heap:=h' }) :
  wpAny M A (do let a <- frameOf env;let pl <- entryPlaceOf L hadNext;let b <- EntryCells.newEntry head a .none (rawInt L) .none pl;setField (.ref e) 1 b) Q E s:=by
 have jY:e∉(env::outer).filterMap (·.frame):=λhm=>by obtain⟨_,o,ho,dI⟩:=hl.mem hm;rw[he]at ho;injection ho with ho;subst ho;exact dI vs hd
 refine nM (wpAny_frameOf_fun cx hl hf λaL cb=>?_);refine nM (wpAny_entryPlaceOf λpl aC=>?_);refine nM (wpAny_newObj_type ?_ (aC.sizeOk5 _ _ _ _ _));have dX:=(cb.2.1 e jY).trans he;have dY:=nR {cls:=.type "traceback",dict:=none,data:=.fields ([head,.ref L,.none,rawInt L,.none]++(if pl.isEmpty then List.replicate 6 Value.none else pl)).toArray} dX;refine wpAny_setField dY hd hsz ?_;have eM:=qu (oa dX);have dW:=Obj.data_mapFields hd (·.setIfInBounds 1 (Value.ref aL.objs.size));have keep:∀b o,b≠e->aL.get? b=some o ->
   ((aL.push {cls:=.type "traceback",dict:=none,data:=.fields ([head,.ref L,.none,rawInt L,.none]++(if pl.isEmpty then List.replicate 6 Value.none else pl)).toArray}).update e (Obj.mapFields (·.setIfInBounds 1 (Value.ref aL.objs.size)))).get? b=some o:=λb o cQ hb=>by
  rw[oJ _ _ (Ne.symm cQ)];exact nR _ hb
 refine h _ aL.objs.size (by rw[cb.1];exact n9 _) (λb o hb hn cQ=>keep b o cQ ((cb.2.1 b hn).trans hb)) (λb o hb hn=>?_) ?_
 .obtain⟨sl,q⟩:=cb.2.2 b o hb;exact⟨sl,keep b _ (λz=>jY (by rwa[<- z])) q⟩
 .exact⟨_,_,(pe (Obj.mapFields (·.setIfInBounds 1 (Value.ref aL.objs.size))) dY (Obj.isFreed_of_fields dW)),Obj.cls_mapFields _ _,(Obj.PH _ _).trans dC,dW,by simp[hsz],eM,_,_,((oJ (aL.push {cls:=.type "traceback",dict:=none,data:=.fields ([head,.ref L,.none,rawInt L,.none]++(if pl.isEmpty then List.replicate 6 Value.none else pl)).toArray})
  (Obj.mapFields (·.setIfInBounds 1 (Value.ref aL.objs.size))) (Ne.symm eM)).trans (n5 aL rfl)),rfl,by first|(simp;done)|(rcases aC with rfl|⟨_,_,_,_,_,_,_,rfl⟩<;>simp)⟩
structure Ql(X:Cx):Prop where
 pn:X.pn=[]
 ex:X.ex=[]
 st:X.stack=X.env::X.outer
 fr:X.env.frame=some X.env.locals
theorem A0.get(x:A0 P w H h a o):∃u,h.get? a=some u:=by cases o with|lst xs=>obtain⟨_,_,_,_,e⟩:=x;exact⟨_,e⟩|tup xs=>obtain⟨_,_,_,ob,e,_⟩:=x;exact⟨_,e⟩|n af=>obtain⟨_,_,_,_,o,_,_,e,_⟩:=x;exact⟨_,e⟩|dT af=>obtain⟨_,_,_,_,o,_,_,e,_⟩:=x;exact⟨_,e⟩|set S n=>obtain⟨o,_,_,_,e,_⟩:=x;exact⟨_,e⟩|ins C dx fs=>obtain⟨_,_,_,e,_⟩:=x;exact⟨_,e⟩|own y=>obtain⟨_,e⟩:=x;exact⟨_,e⟩|xd fs=>obtain⟨_,⟨_,_,_,e,_⟩,_⟩:=x;exact⟨_,e⟩|yC lo hi=>obtain⟨_,_,_,e⟩:=x;exact⟨_,e⟩|frz ob u=>obtain⟨e,_⟩:=x;exact⟨_,e⟩|yS ps=>exact⟨_,(show h.get? a=some _ from x)⟩|met f y=>exact⟨_,(show h.get? a=some _ from x)⟩|ext φ=>obtain⟨_,⟨_,e⟩,_⟩:=x;exact⟨_,e⟩
theorem HOk.none(x:HOk P w H h)(e:h.get? a=none):H a=none:=by cases q:H a with|none=>rfl|some u =>obtain⟨o,z⟩:=(x a u q).get;rw[e]at z;cases z
variable{X:Cx}{U:St}{H:Hp}{h':Heap}{ch:List Addr}
theorem Inv.kp(I:Inv X aa U H s)(eV:X.pn=[])(k:∀b o,s.heap.get? b=some o->b∉frs X.stack->b∉ch->h'.get? b=some o)(sl:∀b o,s.heap.get? b=some o->b∈frs X.stack->∃sl,h'.get? b=some {o with slots:=sl})
  (nc:∀b∈ch,X.zW.heap.get? b=none/\H b=none/\∃o vs,s.heap.get? b=some o/\o.data=.fields vs):Inv X [] U H {s with heap:=h' }:=by
 have any:=λb o e n=>by
  by_cases hb:b∈frs X.stack
  .exact sl b o e hb
  .exact⟨o.slots,k b o e hb n⟩
 have n0:∀b o,X.zW.heap.get? b=some o->b∉ch:=λb o e z=>by have:=(nc b z).1;rw[e]at this;cases this
 have nf:∀b o,s.heap.get? b=some o->(∀vs,o.data≠.fields vs)->b∉ch:=λb o e hd z=>by obtain⟨_,_,o',vs,e',d⟩:=nc b z;rw[e]at e';cases e';exact hd vs d
 have bL:∀x c,X.env.cells.lookup x=some c->∀v,s.heap.IsCell c v->h'.IsCell c v:=λx c e v ⟨o,ho,hd⟩=>by obtain⟨l,q⟩:=any c o ho (nf c o ho λvs z=>by rw[hd]at z;cases z);exact⟨_,q,hd⟩
 refine⟨I.ok,I.os,I.bare,⟨λb o e n hb hx=>?_,λb o e n hb hx=>?_,I.base.free,λb o e hx=>?_,I.base.zH,I.base.zQ,I.base.zI⟩,?_,λx c e=>?_,I.free,I.zV,λp hp=>?_,λb u e=>?_,I.len⟩
 .refine k b o (I.base.keep b o e n hb hx) (λz=>?_) (n0 b o e);rcases oh.mp (I.IQ b z)with z|z
  .exact oA (oq (oa e) I.ok.above) z
  .exact hb z
 .obtain⟨l,e1⟩:=I.base.slot b o e n hb hx;obtain⟨l',e2⟩:=any b _ e1 (n0 b o e);exact⟨l',e2⟩
 .obtain⟨o',e1⟩:=I.base.there b o e hx;obtain⟨l',e2⟩:=any b _ e1 (n0 b o e);exact⟨_,e2⟩
 .obtain⟨m,⟨o,es,ep,ho,hd,r⟩,hl⟩:=I.loc;obtain⟨l,q⟩:=any _ o ho (nf _ o ho λvs z=>by rw[hd]at z;cases z);refine⟨m,⟨_,es,ep,q,hd,r⟩,λi x v e1 e2 e3=>?_⟩;obtain⟨u,rv,z⟩:=hl i x v e1 e2 e3;refine⟨u,rv,?_⟩;rcases z with z|⟨kk,c,e,z⟩
  .exact .inl z
  .exact .inr ⟨kk,c,e,bL x c e _ z⟩
 .obtain⟨v,z⟩:=I.cell x c e;exact⟨v,bL x c e v z⟩
 .rw[eV]at hp;cases hp
 .have nn:∀c,(c=b\/H c=some (.own b))->H c≠none:=λc hc z=>by
   rcases hc with rfl|hc
   .rw[z]at e;cases e
   .rw[z]at hc;cases hc
  exact(I.z9 b u e).Qm (λc v hc q=>k c v q (λz=>nn c hc (I.Kg c z)) λz=>nn c hc (nc c z).2.1) (λ_ q=>q) λ_ _ q=>q
theorem Inv.new(I:Inv X aa U H s)(D:X.ex=[])(e:s.heap.get? b=none):X.zW.heap.get? b=none/\H b=none:=by refine⟨?_,I.z9.none e⟩;cases q:X.zW.heap.get? b with|none=>rfl|some o =>obtain⟨o',z⟩:=I.base.there b o q (by rw[D];simp);rw[e]at z;cases z
variable{a:Addr}{c fl:Value}{T:Option Addr}{Q:Unit->Shared->Prop}
def NewX(X:Cx)(H:Hp)(a:Addr)(T:Option Addr):Prop:=∀b,b=a\/T=some b->X.zW.heap.get? b=none/\H b=none
theorem To.there(e:To s.heap a c T fl):∀b,b=a\/T=some b->∃o vs,s.heap.get? b=some o/\o.data=.fields vs:=by
 obtain⟨oe,vs,h1,h2,h3,h4,h5⟩:=e;intro b hb;rcases hb with rfl|rfl
 .exact⟨oe,vs,h1,h4⟩
 .obtain⟨_,_,oT,ts,q1,q2,_⟩:=h5;exact⟨oT,ts,q1,q2⟩
theorem Kr(D:Ql X)(cx:A.frames=some X.stack)(I:Inv X [] U H s)(e:To s.heap a c T fl)(k6:fl=.none\/fl=rawInt X.env.locals)(nw:NewX X H a T)
  (h:∀h' T',To h' a c (some T') (rawInt X.env.locals)->NewX X H a (some T')->Inv X [] U H {s with heap:=h' }->Q () {s with heap:=h' }):wpAny M A (noteFrame (.ref a) X.env) Q E s:=by
 have hl:=I.stack;rw[D.st]at cx hl;obtain⟨oe,vs,he,bt,dC,hd,ht⟩:=id e;subst bt;unfold noteFrame;simp only[D.fr];cases T with
 |none =>
  refine nM (oW he hd ht ?_);refine LW cx hl D.fr he dC hd (pS.mp ht).1 λh' T' q1 q2 q3 q4=>?_
  have nT:=I.new D.ex (Heap.get?_none_of_le q1);refine h h' T' q4 (λb hb=>hb.elim (λz=>nw b (.inl z)) λz=>by cases z;exact nT) (I.kp (ch:=[a]) D.pn (λb o x y z=>q2 b o x (by rwa[<- D.st]) λw=>z (by simp[w])) (λb o x y=>q3 b o x (by rwa[<- D.st])) λb hb=>?_);rw[oE.mp hb];exact⟨(nw a (.inl rfl)).1,(nw a (.inl rfl)).2,oe,vs,he,hd⟩
 |some T =>
  obtain⟨h1,eM,oT,ts,hT,dB,h3⟩:=ht;refine nM (oW he hd h1 ?_);refine nM (oW hT dB h3 ?_);rcases k6 with rfl|rfl
  .rw[if_neg (show ¬((Value.none==rawInt X.env.locals)=true)from by simp[rawInt])];refine nM (wpAny_setField hT dB (pS.mp h3).1 ?_);have other:∀b,b≠T->(s.heap.update T (Obj.mapFields (·.setIfInBounds 3 Value.none))).get? b=s.heap.get? b:=λb hb=>oJ _ _ (Ne.symm hb)
   have mi:T∉frs X.stack:=λhm=>by obtain⟨_,o,ho,dI⟩:=I.stack.mem hm;rw[hT]at ho;injection ho with ho;subst ho;exact dI ts dB
   refine LW cx (hl.of_keeps λb o hb dI=>⟨o,(other b ((λb o hb dI q=>by rw[q,hT]at hb;injection hb with hb;subst hb;exact dI ts dB) b o hb dI)).trans hb,rfl⟩) D.fr ((other a (Ne.symm eM)).trans he) dC hd (pS.mp h1).1 λh' T' q1 q2 q3 q4=>?_
   have nT:=I.new D.ex (Heap.get?_none_of_le (by have:(s.heap.update T (Obj.mapFields (·.setIfInBounds 3 Value.none))).objs.size=s.heap.objs.size:=Heap.size_after_update ..;rwa[<- this]));refine h h' T' q4 (λb hb=>hb.elim (λz=>nw b (.inl z)) λz=>by cases z;exact nT) (I.kp (ch:=[a,T]) D.pn (λb o x y z=>?_) (λb o x y=>?_) λb hb=>?_)
   .exact q2 b o ((other b λw=>z (by simp[w])).trans x) (by rwa[<- D.st]) λw=>z (by simp[w])
   .exact q3 b o ((other b λw=>mi (by rwa[<- w])).trans x) (by rwa[<- D.st])
   .have fm:b=a\/some T=some b:=by
     rcases oh.mp hb with z|z
     .exact .inl z
     .exact .inr (by rw[oE.mp z])
    exact⟨(nw b fm).1,(nw b fm).2,e.there b fm⟩
  .rw[if_pos (show(rawInt X.env.locals==rawInt X.env.locals)=true from by simp)];exact nW (h s.heap T e nw I)
theorem Ej(eV:X.pn=[])(I:Inv X [] U H s)(e:To s.heap a c T fl)(nw:NewX X H a T)
  (h:∀h',To h' a c T (f.elim .none λf=>rawInt f)->Inv X [] U H {s with heap:=h' }->Q () {s with heap:=h' }):wpAny M A (setFlight (.ref a) f) Q E s:=by
 obtain⟨oe,vs,he,bt,dC,hd,ht⟩:=id e;cases T with
 |none =>refine nM (oW he hd ht ?_);exact nW (h s.heap ⟨oe,vs,he,bt,dC,hd,ht⟩ I)
 |some T =>
  obtain⟨h1,eM,oT,ts,hT,dB,h3⟩:=ht;have hsz:=(pS.mp h3).1;refine nM (oW he hd h1 ?_);have other:∀b,b≠T->(s.heap.update T (Obj.mapFields (·.setIfInBounds 3 (f.elim Value.none λf=>rawInt f)))).get? b=s.heap.get? b:=λb hb=>oJ _ _ (Ne.symm hb)
  refine wpAny_setField hT dB hsz (h _ ⟨oe,vs,(other a (Ne.symm eM)).trans he,bt,dC,hd,h1,eM,_,_,pe _ hT (Obj.isFreed_of_fields (Obj.data_mapFields dB _)),Obj.data_mapFields dB _,by simp[hsz]⟩ (I.kp (ch:=[T]) eV (λb o x _ z=>(other b λw=>z (by simp[w])).trans x) (λb o x y=>?_) λb hb=>?_))
  .refine⟨o.slots,(other b λw=>?_).trans x⟩;obtain⟨_,o',bz,dI⟩:=I.stack.mem y;rw[w,hT]at bz;injection bz with bz;subst bz;exact dI ts dB
  .rw[oE.mp hb];exact⟨(nw T (.inr rfl)).1,(nw T (.inr rfl)).2,e.there T (.inr rfl)⟩
abbrev XE:=Value->St->Hp->Prop
inductive XW(X:Cx)(Z:XE)(e:Value)(s:Shared):Prop
 |mk (a:Addr) (c:Value) (T:Option Addr) (fl:Value) (U:St) (H:Hp) (h0:e=.ref a) (h1:Inv X [] U H s) (h2:To s.heap a c T fl) (h3:fl=.none\/fl=rawInt X.env.locals) (h4:NewX X H a T) (h5:Z c U H)
inductive CX1(P:Program)(w:World)(outer:List Env)(H:Hp)(s:Shared)(E:XK)(e:Value)(s':Shared):Prop
 |mk (a:Addr) (c:Value) (T:Option Addr) (H':Hp) (h0:e=.ref a) (h1:s'.os=s.os) (h2:AllBare s'.gens) (h3:Un (frs outer) [] H H' s.heap s'.heap) (h4:HOk P w H' s'.heap) (h5:To s'.heap a c T .none) (h6:∀b,b=a\/T=some b->s.heap.get? b=none/\H' b=none) (h7:E c none H')
theorem XW.imp(h:XW X Z e s)(k:∀c U H,Z c U H->Z' c U H):XW X Z' e s :=
 let⟨a,c,T,fl,U,H,q1,q2,q3,q4,q5,q6⟩:=h
 ⟨a,c,T,fl,U,H,q1,q2,q3,q4,q5,k _ _ _ q6⟩
theorem XW.Fz(h:XW (X.Fz E) Z e s):XW X Z e s :=
 let⟨a,c,T,fl,U,H,q1,q2,q3,q4,q5,q6⟩:=h
 ⟨a,c,T,fl,U,H,q1,q2.DU,q3,q4,q5,q6⟩
theorem CX1.xw(D:X.ex=[])(I:Inv X aa U H s)(h:CX1 X.prog X.w X.stack H s (λc _ H'=>Z c U H') e s'):XW X Z e s':=by obtain⟨a,c,T,H',rfl,q1,q2,q3,q4,q5,q6,q7⟩:=h;exact⟨a,c,T,.none,U,H',rfl,(I.Jcd q1 q3 q4 q2 λb z=>absurd z (by simp)).HG λ_ z=>absurd z (by simp),q5,.inl rfl,λb hb=>⟨(I.new D (q6 b hb).1).1,(q6 b hb).2⟩,q7⟩
theorem XW.own(D:Ql X):PassesOwn (model X.prog X.w) X.A X.env (XW X Z):=by
 intro e s' h;obtain⟨a,c,T,fl,U,H,rfl,I,q3,q4,q5,q6⟩:=h;refine Kr D I.ok.frames I q3 q4 q5 λh1 T1 e1 n1 I1=>?_
 obtain⟨oe,vs,he,hc,dC,hd,ht⟩:=id e1;refine nM (oW he hd ht.1 ?_);rw[D.fr];exact Ej D.pn I1 e1 n1 λh2 e2 I2=>⟨a,c,some T1,rawInt X.env.locals,U,H,rfl,I2,e2,.inr rfl,n1,q6⟩
variable{P:Program}{w:World}{K:Fg}{mg:Zsv}{base:Heap}{N:List Str}{qual:Str}{scope:Scope}{f:Addr}{cd:Value}{outer:List Env}{E:XK}
theorem Jb3:Ql (M0 (CX1 P w) P w K mg base N qual scope f cd A outer s H E):=⟨rfl,rfl,rfl,rfl⟩
theorem xe_of(h:XW (M0 (CX1 P w) P w K mg base N qual scope f cd A outer s H E) (λc _ H'=>E c none H') e s'):(M0 (CX1 P w) P w K mg base N qual scope f cd A outer s H E).xe e s':=by
 obtain⟨a,c,T,fl,U,H',rfl,I,q3,q4,q5,q6⟩:=h;show wpAny _ _ (leaving (M0 (CX1 P w) P w K mg base N qual scope f cd A outer s H E).env (.ref a)) _ _ s';refine nM (Kr Jb3 I.ok.frames I q3 q4 q5 λh1 T1 e1 n1 I1=>?_);refine Ej rfl I1 e1 n1 λh2 e2 I2=>?_
 exact⟨a,c,some T1,H',rfl,I2.os,I2.bare,I2.base,I2.z9,e2,n1,q6⟩
def Lk(X:Cx)(Z:XE):Prop:=∀(aa:Zao)(U:St)(H:Hp)(s:Shared)(e:Value)(s':Shared),Inv X aa U H s->CX1 X.prog X.w X.stack H s (λc _ H'=>Z c U H') e s'->X.xe e s'
theorem Lk.of(D:X.ex=[])(k:∀e s,XW X Z e s->X.xe e s):Lk X Z:=λ_ _ _ _ _ _ I h=>k _ _ (CX1.xw D I h)
variable{k:Nat}
def Za(sp:Sp)(Z:XE)(t:TA):TE:=λU H Q=>t U H λvs H1=>sp vs H1 Q λc _ H'=>Z c U H'
theorem NH{Q}(F:EY X.prog X.w X.K X.mg X.base (CX1 X.prog X.w) k f fd ps sp)(hr:C8 k X.A)(hb:Binds X.K fd ps [])(hx:Lk X Z)
  (I:Inv X aa U H s) (r:Vals vs us) (h:sp vs H Q λc _ H'=>Z c U H'):wpAny (model X.prog X.w) X.A (call (.ref f) us) (EP X aa U Q) X.xe s:=by
 have b:=hb s us I.kIn (by rw[oN];exact(by rw[<- r.length];exact F.len _ _ _ _ h));rw[oN]at b;refine wpAny_call (codeAny_mono (F.run X.A X.stack s H ⟨us,[]⟩ us vs Q _ hr I.env0 b r h) λr s' hq=>?_);cases r with|error e=>exact hx aa U H s e s' I hq|ok fl =>cases fl with|ret u=>exact I.after hq|next=>exact False.elim hq|brk=>exact False.elim hq|cont=>exact False.elim hq
theorem Z2(G:FnAt X.prog X.w X.K X.mg X.base (CX1 X.prog X.w) x k ps sp)(hr:C8 k X.A)(hx:Lk X Z)(ha:PA X (e::es) t)(hg:Gl X x:=by rfl)(aQ:Zdb x:=by decide)
  (he:Zsc X.env e es:=by rfl) (aC:Zbt X.env pos es:=by rfl):PE X (.Call (.Name x p) (e::es) [] pos) (Za sp Z t):=by
 obtain⟨f,fd,F,hm,hk,hb⟩:=G.ex;intro aa s U H Q I h;refine wpAny_Call_Name_kw (EA I hg hm ?_ aQ);refine callWith_K I.ok.mod.yT hk (thn (ha pos aa s U H _ I h) λus s1 ⟨vs,H1,I1,r,q⟩=>⟨I1.kIn,?_⟩) he aC;exact NH F hr hb hx I1 r q
def Ys:List Value:=[.type "ValueError",.type "Exception",.type "BaseException",.type "object"]
structure ExC(K:Fg)(x:Str)(C:Addr):Prop where
 at_:nsIn K mainGlobals x=some (some (.ref C))
 ok:excIn K C Ys "ValueError.__new__"=true
def strD:Value->Str
 |.str s _=>s
 |_=>""
theorem Jak{h:Heap}{m:Zsv}(G:h.Ns a m):∃l:List Str,∀x,x∉l->m x=none:=by obtain⟨_,es,_,_,_,hk,hf⟩:=G;refine⟨es.toList.map λd=>strD d.key,λx hx=>?_⟩;rw[<- hf];refine Option.map_eq_none_iff.mpr (Array.find?_eq_none.mpr λd md hd=>hx ?_);obtain⟨n,t,e⟩:=hk d md;refine oo.mpr ⟨d,md.val,?_⟩;rw[e]at hd ⊢;exact eq_of_beq hd
def Y3(C:Addr)(Z:XE)(t:TA):TS:=λ_ U H=>t U H λvs H1=>vs.length<=1000/\Z (.ref C) U H1
meta theorem ExC.own{x:Str}{C:Addr}{h:Heap}(c:ExC K x C)(M:Mod K mg h):OwnCls x C Ys "ValueError.__new__" mg h :=
 let⟨l,hl⟩:=Jak M.glob
 let⟨_,b,hb⟩:=M.blt
 PySem.W.own_of_in (p:=default) (loose:=l) M.yT ⟨M.glob,b,M.nolimit,hb,λx _ h _ _ _=>hl x h⟩ c.at_ c.ok
theorem WA(D:X.ex=[])(I:Inv X aa U H s)(hm:Heap.MadeExcOf s.heap h' a (.ref C) us)(q:Z (.ref C) U H):XW X Z (.ref a) {s with heap:=h' }:=by
 obtain⟨t,ht,_,_⟩:=hm.there;refine⟨a,.ref C,none,.none,U,H,rfl,(I.kept hm.keeps).HG λ_ z=>absurd z (by simp),⟨_,_,ht,rfl,rfl,rfl,rfl⟩,.inl rfl,λb hb=>?_,q⟩;rcases hb with rfl|hb
 .exact I.new D hm.new
 .cases hb
theorem Q0(c:ExC X.K x C)(D:X.ex=[])(hc:X.calm=true)(hx:∀e s,XW X Z e s->X.xe e s)(ha:PA X (e::es) t)(hg:Gl X x:=by rfl)(aQ:Zdb x:=by decide)
  (he:Zsc X.env e es:=by rfl) (aC:Zbt X.env ay es:=by rfl) :
  PS X (.Raise (some (.Call (.Name x np) (e::es) [] ay)) none pos) (Y3 C Z t):=by
 intro aa s U H D' I h;obtain⟨tl,N,nm,q,bs,hdct,sn,sub,ab,col,dd,k0,k1,k2,k3,k5,mN,hC,hN,lh,T⟩:=(c.own I.ok.mod).obj;refine wpAny_Raise_call_subT (C:=C) (nm:=nm) (q:=q) (N:=N) (bs:=bs) (bm:=tl) (hdct:=hdct) (sn:=sn) (sub:=sub) (ab:=ab) (col:=col) (dd:=dd) (k0:=k0) (k1:=k1) (k2:=k2) (k3:=k3) (k5:=k5)
  PySem.F.excBase_ValueError (mN:=mN) (T.hasType PySem.F.excBase_ValueError.hasBase) (I.ok.hd hc) (by rw[he];show(false||(backTo ay (starEach es X.env)).any (·.1))=false;rw[aC];rfl) lh (EA I hg (c.own I.ok.mod).bound ⟨rfl,?_⟩ aQ)
 have h1:=ha ay aa s U H _ I h;rw[he]at h1 ⊢;refine Calls.evalArgs_plain (thn h1 λus s2 ⟨vs,H1,I1,r,hl,hz⟩=>⟨rfl,?_,I1.bk _ _ hC,hN.keeps I1.bk,T.keeps I1.bk,λh' a hm=>hx _ _ (WA D I1 hm hz)⟩);show us.length<=sizeLine;rw[<- r.length,sizeLine_eq]
 lia
def exO(c:Value)(a:Addr):HO:=.ext λh=>∃o vs,h.get? a=some o/\o.cls=c/\o.dict=none/\o.data=.fields vs
abbrev Cx.hand(X:Cx)(a:Addr):Cx:={X with A:=X.A.mark (some (.ref a)),calm:=false,xe:=λ_ _=>False}
variable{aa:Zao}
theorem Cx.Ok.hand(ok:X.Ok):(X.hand a).Ok :=
 ⟨ok.mod,ok.kind,ok.glob,ok.blt,ok.above,ok.inj,ok.has,ok.yQ,(λz=>nomatch z),ok.frames,ok.yJ,ok.yH,ok.bs,ok.zi,ok.zd,ok.zh,ok.LP,ok.yW⟩
theorem Inv.hand(I:Inv X aa U H s):Inv (X.hand a) aa U H s:=⟨I.ok.hand,I.os,I.bare,I.base,I.loc,I.cell,I.free,I.zV,I.pin,I.z9,I.len⟩
theorem Inv.G1(ok:X.Ok)(I:Inv (X.hand a) aa U H s):Inv X aa U H s:=⟨ok,I.os,I.bare,I.base,I.loc,I.cell,I.free,I.zV,I.pin,I.z9,I.len⟩
theorem Inv.track(I:Inv X [] U H s)(eV:X.pn=[])(h0:X.zW.heap.get? a=none)(hn:H a=none)(hf:∃u vs,s.heap.get? a=some u/\u.data=.fields vs)(new:A0 X.prog X.w (upd H a o) s.heap a o):Inv X [] U (upd H a o) s:=by
 obtain⟨u,vs,hu,hd⟩:=hf;refine⟨I.ok,I.os,I.bare,⟨I.base.keep,I.base.slot,λb o e n hx=>?_,I.base.there,λb xs e=>?_,λb o u e=>?_,λb ps e=>?_⟩,I.loc,I.cell,?_,λx c e=>?_,λp hp=>?_,λb u e=>?_,I.len⟩
 .rw[Al ((λb u e z=>by rw[z,h0]at e;cases e) b o e)];exact I.base.free b o e n hx
 .have q:=I.base.zH b xs e;rwa[Al (AA q hn)]
 .have q:=I.base.zQ b o u e;rwa[Al (AA q hn)]
 .obtain⟨more,q⟩:=I.base.zI b ps e;exact⟨more,by rwa[Al (AA q hn)]⟩
 .rw[Al]
  .exact I.free
  .intro z;obtain⟨m,⟨o',_,_,bz,ba,_⟩,_⟩:=I.loc;rw[z,hu]at bz;cases bz;rw[hd]at ba;cases ba
 .rw[Al]
  .exact I.zV x c e
  .intro z;obtain⟨v,o',bz,ba⟩:=I.cell x c e;rw[z,hu]at bz;cases bz;rw[hd]at ba;cases ba
 .rw[eV]at hp;cases hp
 .by_cases hb:b=a
  .subst hb;rw[An]at e;cases e;exact new
  .rw[Al hb]at e;exact(I.z9 b u e).Qm (λ_ _ _ q=>q) (λc q=>by rwa[Al (AA q hn)]) λc xs q=>by rwa[Al (AA q hn)]
theorem Ia{E}(I:Inv X [] U H s)(eV:X.pn=[])(hN:X.N.Nodup)(hi:X.N[i]?=some n)(hl:X.env.scope.names.lookup n=some .local)
  (h:∀s',Inv X [] (U.set i none) H s'->Q () s'):wpAny M A (do bindName X.env n .none;unbindBehindTheSuite X.env n pos) Q E s:=by
 have bt:(X.env.scope.kind==.class||(X.env.scope.kind==.module&&X.env.locals !=X.env.globals))=false:=by rw[I.ok.kind];rfl
 have hk:X.env.kindOf n=some .local:=hl;refine nM (wpAny_bindName (Fb I hN hi (.inl hl) (v:=V.l) rfl (λs1 I1=>?_) (.inr hl)));refine wpAny_onRaise ?_;refine nM (wpAny_point (nM ?_));unfold deleteName;simp only[hk,bt];obtain⟨m,hn,jB⟩:=id I1.loc;have cV:i<U.length:=by rw[I.len];exact(n6.mp hi).1
 have lb:(m n).isSome=true:=by
  obtain⟨u,_,z⟩:=jB i n V.l hi (by rw[qi cV]) (.inl hl);rcases z with⟨_,z⟩|⟨z,_⟩
  .rw[z];rfl
  .rw[hk]at z;rcases z with z|z<;>cases z
 refine nM (wpAny_nsDel_keeps hn λh2 v dm aR=>?_);simp only[lb,if_false];refine nW (wpAny_point ?_);have cne:=I1.cne;have fE:∀b o,X.zW.heap.get? b=some o->b≠X.env.locals:=λb o e=>oA (oq (oa e) I.ok.above)
 have key:Inv X [] (U.set i none) H {s1 with heap:=h2}:=by
  refine⟨I1.ok,I1.os,I1.bare,⟨λb o e n hb hx=>(aR.2 b (fE b o e)).trans (I1.base.keep b o e n hb hx),λb o e n hb hx=>?_,I1.base.free,λb o e hx=>?_,I1.base.zH,I1.base.zQ,I1.base.zI⟩,⟨_,dm,λj y v' e1 e2 e3=>?_⟩,λy c e=>?_,I1.free,I1.zV,λp hp=>?_,λb ob e=>?_,by simpa using I1.len⟩
  .obtain⟨sl,e1⟩:=I1.base.slot b o e n hb hx;exact⟨sl,(aR.2 b (fE b o e)).trans e1⟩
  .obtain⟨o',e1⟩:=I1.base.there b o e hx;exact⟨o',(aR.2 b (fE b o e)).trans e1⟩
  .by_cases hj:j=i
   .subst hj;rw[qi cV]at e2;cases e2
   .rw[qr (Ne.symm hj)]at e2;obtain⟨u',r',q⟩:=jB j y v' e1 (by rwa[qr (Ne.symm hj)]) e3;refine⟨u',r',?_⟩;rcases q with⟨k,e⟩|⟨k,c,e,z⟩
    .refine .inl ⟨k,?_⟩;have:y≠n:=λe=>hj (HJ hN e1 (e▸hi))
     simp[this,e]
    .exact .inr ⟨k,c,e,z.sameBut aR (cne y c e)⟩
  .obtain⟨w',z⟩:=I1.cell y c e;exact⟨w',z.sameBut aR (cne y c e)⟩
  .rw[eV]at hp;cases hp
  .refine(I1.z9 b ob e).Qm (λc w' hc q=>(aR.2 c ?_).trans q) (λ_ q=>q) λ_ _ q=>q
   rintro rfl
   rcases hc with rfl|hc
   .rw[I1.free]at e;cases e
   .rw[I1.free]at hc;cases hc
 first
  |exact h _ key
  |exact h _ (key.tok _)
def PS0(X:Cx)(st:Stmt)(t:TS):Prop:=∀(s:Shared)(U:St)(H:Hp)(D:Ends),Inv X [] U H s->t D U H->wpAny (model X.prog X.w) X.A (exec st X.env) (SP X [] D) X.xe s
def Tf(X:Cx)(st:List Stmt)(t:TS):Prop:=∀(s:Shared)(U:St)(H:Hp)(D:Ends),Inv X [] U H s->t D U H->wpAny (model X.prog X.w) X.A (execs st X.env) (SP X [] D) X.xe s
variable{st:Stmt}{rest:List Stmt}{t u:TS}
theorem PS.zero(h:PS X st t):PS0 X st t:=λs U H D I q=>h [] s U H D I q
theorem PSs.zero(h:PSs X rest t):Tf X rest t:=λs U H D I q=>h [] s U H D I q
theorem NU(h1:PS0 X st t)(h2:Tf X rest u):Tf X (st::rest) (tSeq t u):=by intro s U H D I h;refine wpAny_execs_cons (thn (h1 s U H {D with nx:=u D} I h) λf s1 q=>?_);cases f with|next =>obtain⟨ax,H',I',q⟩:=q;exact h2 s1 ax H' D I' q|ret v=>exact q|brk=>exact q|cont=>exact q
theorem Tf.unw{E}(h:Tf (X.Fz E) rest t)(k:∀e s,E e s->X.xe e s):Tf X rest t:=λs U H D I hw =>wpAny_mono (h s U H D (I.Fz _) hw) (λ_ _ q=>q.DU) λe s z=>k e s z
theorem Jbl{dV kV bJ pm cdv ct oc:Value}{an od:Option Addr}
  {eF:Array (Option Value)} {N ps:List Str} {sp:Sp} (lk:K.lookup f=some ⟨oc,od,.func (fnOf name qual params body scope dV kV bJ pm an cdv ct),eF⟩) (cq:codeIn K cdv qual=true) (S:IE N ps scope)
  (len:∀vs H Q E,sp vs H Q E->vs.length=ps.length)
  (cU:∀(A:Around)(outer:List Env)(s:Shared)(H:Hp)(vs:List V)(Q:VK)(E:XK),C8 k (A.deeper (envOfC qual scope s.heap.objs.size f cdv))->sp vs H Q E ->
   ∃t,Tf (M0 CX P w K mg base N qual scope f cdv A outer s H E) body t/\t {nx:=λ_ H'=>Q .l H',rt:=Q} (start N vs) H) :
  EY P w K mg base CX (k+1) f (fnOf name qual params body scope dV kV bJ pm an cdv ct) ps sp:=by
 refine⟨len,λA outer s H args us vs Q E hr e0 hb r dq=>?_⟩;have KX:K.In s.heap:=e0.mod.yT.keeps λb o e=>(e0.bs b o e).1
 refine codeAny_call_function hr.depth (KX _ _ lk) rfl S.co S.gen rfl (PySem.W.codeRec_of KX cq) (hb _ _ _ _ ?_);refine wpAny_newFunctionEnv_cells S.kind (λ⟨n,v⟩ hy=>by
  rcases S.par n (qt hy).1 with q|q
  .exact .inl q
  .exact .inr ⟨q,PySem.W.cellsFrom_some _ _ _ (.inl q)⟩) λenv he s1 x=>?_
 subst he;refine⟨(e0.mod.nolimit.keeps λb o e=>(e0.bs b o e).1).keeps x.toInCall.keep,codeAny_func ?_⟩;obtain⟨t,ht,hq⟩:=cU A outer s H vs Q E (hr.deeper _) dq;have I:Inv (M0 CX P w K mg base N qual scope f cdv A outer s H E) [] (start N vs) H s1:=OT S hr.hd e0 (len _ _ _ _ dq) r x;refine wpAny_mono (ht s1 (start N vs) H _ I hq) (λfl s' hs=>?_) λe s' hs=>hs
 have aN:∀{ax:St}{H':Hp}{v:V}{u:Value},Inv (M0 CX P w K mg base N qual scope f cdv A outer s H E) [] ax H' s'->RelV v u->Q v H'->CE outer P w H s Q u s' :=
  λ{ax H' v u} J rv q=>⟨v,H',J.os,J.bare,J.base,J.z9,rv,q⟩
 cases fl with|ret u =>obtain⟨v,ax,H',J,rv,q⟩:=hs;exact aN J rv q|next =>obtain⟨ax,H',J,q⟩:=hs;exact aN (v:=V.l) (u:=Value.none) J rfl q|brk =>obtain⟨_,_,_,q⟩:=hs;exact False.elim q|cont =>obtain⟨_,_,_,q⟩:=hs;exact False.elim q
theorem Fun.ok0{x:Str}{fd:FuncData}{ps:List Str}{sp:Sp}(F:Fun K x qual st f fd)(S:IE N ps (Bk st))(len:∀vs H Q E,sp vs H Q E->vs.length=ps.length)
  (cU:∀(cdv:Value)(A:Around)(outer:List Env)(s:Shared)(H:Hp)(vs:List V)(Q:VK)(E:XK),C8 k (A.deeper (envOfC qual (Bk st) s.heap.objs.size f cdv))->sp vs H Q E ->
   ∃t,Tf ((M0 (CX1 P w) P w K mg base N qual (Bk st) f cdv A outer s H E).Fz (XW (M0 (CX1 P w) P w K mg base N qual (Bk st) f cdv A outer s H E) λc _ H'=>E c none H')) (D7 st) t/\t {nx:=λ_ H'=>Q .l H',rt:=Q} (start N vs) H) :
  EY P w K mg base (CX1 P w) (k+1) f fd ps sp:=by
 obtain⟨oc,od,kV,bJ,pm,an,cdv,ct,eF,rfl,lk,cq⟩:=F.ex;refine Jbl lk cq S len λA outer s H vs Q E hr dq=>?_
 obtain⟨t,h,q⟩:=cU cdv A outer s H vs Q E hr dq;exact⟨t,h.unw λ_ _=>xe_of,q⟩
def UT(i:Nat)(D:Ends):Ends:={nx:=λU H=>D.nx (U.set i none) H,rt:=D.rt,bk:=λU H=>D.bk (U.set i none) H,ct:=λU H=>D.ct (U.set i none) H}
def ZTry(K:Fg)(C:Addr)(i:Nat)(th:TS)(D:Ends):XE:=λc U H=>exmOne K c (.ref C)=some true/\∀a,H a=none->th (UT i D) (U.set i (some (.ref a))) (upd H a (exO c a))
variable{C:Addr}{x n:Str}{i:Nat}{np pos cz:Pos}{body bA:List Stmt}{ck:Stmt}{tb:Ends->TS}{th:TS}
theorem SP.G1{f}(ok:X.Ok)(h:SP (X.hand a) [] D f s'):SP X [] D f s':=by cases f with|next=>obtain⟨ax,H',I,q⟩:=h;exact⟨ax,H',I.G1 ok,q⟩|brk=>obtain⟨ax,H',I,q⟩:=h;exact⟨ax,H',I.G1 ok,q⟩|cont=>obtain⟨ax,H',I,q⟩:=h;exact⟨ax,H',I.G1 ok,q⟩|ret u=>obtain⟨v,ax,H',I,r,q⟩:=h;exact⟨v,ax,H',I.G1 ok,r,q⟩
theorem VJ(D:Ql X)(hC:X.mg x=some (.ref C))(hN:X.N.Nodup)(hb:∀D,PSs (X.Fz (XW X (ZTry X.K C i th D))) body (tb D))(hs:∀a,PSs (X.hand a) (ck::bA) th)(hi:X.N[i]?=some n:=by rfl)(hl:X.env.scope.names.lookup n=some .local:=by rfl)
  (hg:Gl X x:=by rfl) (aQ:Zdb x:=by decide) :
  PS0 X (.Try body [.ExceptHandler (some (.Name x np)) (some n) (ck::bA) cz] [] [] pos) (λD=>tb D D):=by
 intro s U H D' I h;refine wpAny_Try_except (wpAny_mono (hb D' [] s U H D' (I.Fz _) h) (λf s1 q=>?_) λe s1 q=>?_)
 .have q:=q.DU;cases f with|next=>exact wpAny_execs_nil q|ret v=>exact q|brk=>exact q|cont=>exact q
 .obtain⟨a,c,T,fl,cF,H1,rfl,I1,e1,f1,n1,z1,z2⟩:=q;refine Kr D I1.ok.frames I1 e1 f1 n1 λh2 T2 e2 n2 I2=>?_
  refine Ej D.pn I2 e2 n2 λh3 e3 I3=>?_
  refine wpAny_handleBy_cons (codeAny_handlers_test (EA I3.hand hg hC ?_ aQ)) (by intro q;cases q);obtain⟨oe,vs,he,bt,dC,hd,ht⟩:=id e3;refine PySem.W.Looks.here (PySem.W.exm_one I3.kIn (bt▸(PySem.W.Looks.ld he).andThen .now) z1) ?_;refine codeAny_handlers_suite_as ?_;refine Ej D.pn I3 e3 n2 λh4 e4 I4=>?_
  obtain⟨iT,j6,iq,fP,ij,jw,nF⟩:=id e4;have iF:=n2 a (.inl rfl);have I5:Inv X [] cF (upd H1 a (exO c a)) {s1 with heap:=h4}:=I4.track D.pn iF.1 iF.2 ⟨iT,j6,iq,jw⟩ ⟨⟨iT,j6,iq,fP,ij,jw⟩,⟨iT,iq⟩,λg1 g2 ⟨o,v,q1,q2⟩ k=>⟨o,v,k o q1,q2⟩⟩;refine Fb I5 hN hi (.inl hl) (v:=V.ref a) rfl (λs6 I6=>?_) (.inr hl);refine wpAny_mono (hs a [] s6 _ _ (UT i D') I6.hand (z2 a iF.2)) (λf s7 q=>?_) λ_ _ z=>False.elim z
  have q:=q.G1 I.ok;cases f with
  |next =>obtain⟨ax,H',I',q⟩:=q;exact Ia I' D.pn hN hi hl λs8 I8=>⟨_,_,I8,q⟩
  |ret u =>obtain⟨v,ax,H',I',r,q⟩:=q;exact Ia I' D.pn hN hi hl λs8 I8=>⟨v,_,_,I8,r,q⟩
  |brk =>obtain⟨ax,H',I',q⟩:=q;exact Ia I' D.pn hN hi hl λs8 I8=>⟨_,_,I8,q⟩
  |cont =>obtain⟨ax,H',I',q⟩:=q;exact Ia I' D.pn hN hi hl λs8 I8=>⟨_,_,I8,q⟩
end Lake.L2
namespace PySem.W
open PySem PySem.Spec PySem.Calls PyProof.Rows
variable{prog:Program}{w:World}{A:Around}{E:Zcv}{K:Frag}{x D:Addr}{ox:Obj}
structure ExK(K:Frag)(D:Addr):Prop where
 ga:findIn K (.ref D) "__getattribute__"=some (some (.builtin "BaseException.__getattribute__"))
 gt:findIn K (.ref D) "__getattr__"=some none
 ca:findIn K (.ref D) "__class__"=some (some (.builtin "object.__class__"))
 gs:specialIn K (.builtin "object.__class__") "__get__"=some (some (.builtin "getset_descriptor.__get__"))
 tk:takesIn K (.builtin "object.__class__")=some true
 mo:mroIn K D (.type "object")=some true
 mb:mroIn K D (.type "BaseException")=some true
theorem ExK.find(k:ExK K D)(hc:(clsIn K D).isSome=true):findObj K D none "__class__"=some (.bind (.builtin "getset_descriptor.__get__") (.builtin "object.__class__")):=by obtain⟨cd,hc⟩:=pK.mp hc;unfold findObj;rw[hc,oH,k.ca,oH];simp[k.gs,k.tk]
theorem Pp(k:ExK K D)(hc:(clsIn K D).isSome=true)(X:K.In s.heap)(I:InstAt s.heap x ox D none)(h:Q (.done (.ret (.ref D))) s):
  wpAny (model prog w) A (Builtin.«object.__getattribute__» ⟨[.ref x,.str "__class__" tk],[]⟩) Q E s:=by
 repeat (any_goals (first|assumption|with_reducible refine(I.type (M:=model prog w)).at ?_|with_reducible refine(looks_find (M:=model prog w) X I (k.find hc)).at ?_|wp_step))
 exact class_get X I k.mo (nW h)
theorem Pr(k:ExK K D)(X:K.In s.heap)(I:InstAt s.heap x ox D none)(h:Q () s):wpAny M A (checkBuiltinCall "BaseException.__getattribute__" ⟨[.ref x,nameV],[]⟩) Q E s:=by
 have hk:builtinKind "BaseException.__getattribute__"=some .slot:=by decide +kernel
 have eX:splitId "BaseException.__getattribute__"=some ("BaseException","__getattribute__"):=by decide +kernel
 simp only[checkBuiltinCall,hk,eX];refine nM ?_
 repeat (first|with_reducible refine(I.type (M:=M)).at ?_|with_reducible refine(looks_mroIn (M:=M) X k.mb).at ?_|wp_step)
 exact h
theorem Sx(k:ExK K D)(hc:(clsIn K D).isSome=true)(X:K.In s.heap)(I:InstAt s.heap x ox D none)(h:R (.ok (.ret (.ref D))) s):
  codeAny (model prog w) A (.call (.builtin "BaseException.__getattribute__") ⟨[.ref x,.str "__class__" tk],[]⟩) R s :=
 codeAny_call_builtin PySem.F.excAttr_ValueError.ga.plain F.entry_bexc_ga (Pr k X I (Pp k hc X I h))
theorem JbV(k:ExK K D)(hc:(clsIn K D).isSome=true)(X:K.In s.heap)(I:InstAt s.heap x ox D none)(h:Q (.ref D) s):
  wpAny (model prog w) A (getAttrBy (.ref x) (.str "__class__" tk) false) Q E s:=by
 have f3:=PySem.F.excAttr_ValueError.ga.bind (.ref x)
 repeat (any_goals (first|assumption|with_reducible refine(I.type (M:=model prog w)).at ?_|with_reducible refine(looks_findIn (M:=model prog w) X k.ga).at ?_|with_reducible refine(looks_findIn (M:=model prog w) X k.gt).at ?_|wp_step))
 refine Sx k hc X I ?_
 repeat (any_goals (first|assumption|wp_step))
theorem Pq(k:ExK K D)(hc:(clsIn K D).isSome=true)(X:K.In s.heap)(I:InstAt s.heap x ox D none)(h:Q (some (.ref D)) {s with toks:=s.toks+1}):
  wpAny (model prog w) A (getAttr? (.ref x) "__class__") Q E s:=by
 exact nM (wpAny_mkText (nM (wpAny_attempt (JbV k hc X I (nW h)))))
meta theorem RD(k:ExK K D)(hc:(clsIn K D).isSome=true):KitX K (.ref x) (.ref D) (λh=>InstAt h x ox D none) where
 ty:=λ_ _ _ I=>I.type
 it:=λ_ _ X _=>by
  unfold clsIn at hc;split at hc
  next c' d' kj iY ho=>intro A' Q' E' s' k q;exact nM (wpAny_loadPart (k _ _ (X _ _ ho)) (nW q))
  .cases hc
 ne:=λh tp dd its n sl X lK=>by
  refine Bool.eq_false_iff.mpr λq=>?_
  have e:=Value.ref.inj (beq_iff_eq.mp q);subst e;unfold clsIn at hc;split at hc
  next c' d' kj iY ho=>cases((X _ _ ho).symm.trans lK)
  .cases hc
 ca:=λX I q=>Pq k hc X I q
end PySem.W
namespace Lake.L2
open PySem PySem.Spec PyProof.Rows
theorem Ho:BK X (.builtin "isinstance") (λxs H Q=>∃a D y c b,xs=[.ref a,y]/\(∀u,RelV y u->u=c)/\H a=some (exO (.ref D) a)/\PySem.W.ExK X.K D/\(clsIn X.K D).isSome=true/\kitOne X.K (.ref D) c=some b/\Q (.v b) H):=by
 intro aa s U H xs us Q I r h;obtain⟨a,D,y,c,b,rfl,hy,ha,k,hc,e,q⟩:=h;cases r with
 |cons r1 rr =>
  cases rr with
  |cons r2 rr =>
   cases rr;cases(show _=Value.ref a from r1);cases hy _ r2;obtain⟨⟨o,vs,h1,h2,h3,h4⟩,_⟩:=(show A0 X.prog X.w H s.heap a (exO (.ref D) a)from I.z9 a _ ha)
   exact kia_one (PySem.W.RD k hc) I.kIn (⟨h1,h2,by unfold PySem.W.notCls;rw[h4],by rw[h3];trivial⟩) e (λz=>nomatch z) λtk=>⟨.v b,H,I.tok tk,rfl,q⟩
theorem S7{bs:List Bool}(rv:Vals (bs.map V.v) its):∀y,y∈its.toArray->∃b,y=Value.bool b:=by intro y hy;rw[BJ rv]at hy;simp only[List.mem_toArray,oo]at hy;obtain⟨b,_,rfl⟩:=hy;exact⟨b,rfl⟩
def isT:Value->Bool
 |.bool b=>b==true
 |_=>false
theorem UJ{bs:List Bool}(rv:Vals (bs.map V.v) its):∀y,y∈its.toArray->SeqAt.EqAt A s y (.bool true) (isT y):=λy hy=>by obtain⟨b,rfl⟩:=S7 rv y hy;exact SeqAt.EqAt.bool_bool b true
theorem Rm:MtR X "list.count" (λx vs H Q=>∃(l:Addr)(bs:List Bool),x=.ref l/\vs=[.v true]/\SqL X.K H l (bs.map V.v)/\Q (.int ((bs.countP id:Nat):Int)) H):=by
 intro aa s U H x vs v us Q I rx rv h;obtain⟨l,bs,rfl,rfl,hq,q⟩:=h;cases rx;obtain⟨u,rfl,ru⟩:=rv.one;cases(show u=Value.bool true from ru);obtain⟨its,rv,⟨⟨cls,dd,data,sl⟩,n,ho,hc,fu,hd⟩,hz⟩:=I.list hq;subst hc fu hd;refine call_meets F.slot_list_count ⟨_,ho,rfl⟩ F.entry_list_count (F.args_list_count_2 _ _) (SeqAt.list_countAt l its.toArray n none sl (.bool true) isT) ⟨ho,UJ rv,?_⟩;refine⟨.int _,H,I.tok _,⟨_,rfl⟩,?_⟩;have e:its.toArray.toList.countP isT=bs.countP id:=by rw[(BJ rv)];simp only[List.countP_map];exact List.countP_congr λb _=>by cases b<;>simp[isT]
 rwa[e]
theorem Rl:MtR X "list.index" (λx vs H Q=>∃(l:Addr)(bs:List Bool)(j:Nat),x=.ref l/\vs=[.v true]/\SqL X.K H l (bs.map V.v)/\bs[j]?=some true/\(∀m,m<j->bs[m]?=some false)/\Q (.int ((j:Nat):Int)) H):=by
 intro aa s U H x vs v us Q I rx rv h;obtain⟨l,bs,j,rfl,rfl,hq,hj,fX,q⟩:=h;cases rx;obtain⟨u,rfl,ru⟩:=rv.one;cases(show u=Value.bool true from ru);obtain⟨its,rv,⟨⟨cls,dd,data,sl⟩,n,ho,hc,fu,hd⟩,hz⟩:=I.list hq;subst hc fu hd;have hb:=BJ rv;subst hb;have gK:=(n6.mp hj).1;rw[nX,sizeLine_eq]at hz;refine call_meets F.slot_list_index ⟨_,ho,rfl⟩ F.entry_list_index (F.args_list_index_2 _ _) (SeqAt.list_indexAt l (bs.map Value.bool).toArray n none sl (.bool true) isT j (by simpa using gK) (by lia) ?_ ?_) ⟨ho,UJ rv,?_⟩
 .have:=(n6.mp hj).2;simp[isT,this]
 .intro m hm iD;have:=(n6.mp (fX m iD)).2;simp[isT,this]
 .exact⟨.int _,H,I.tok _,⟨_,rfl⟩,q⟩
end Lake.L2
namespace Lake.L2
open PySem PySem.Spec PySem.W PyProof.Rows
theorem Mi{l:OpenLaw}{K:Params->Fg}{CX:World->CXT}{sp:Fg->Sp}{x:Str}
  (hn:l.most=some n) (dm:n<=sizeLine) (gJ:d.params.defaults=[]) (hr:C8 k callerA)
  (hY:∀(w:World)(h:Heap),YP w h->(K w.params).In h)
  (F:∀(w:World)(mg:Zsv)(fa:Addr)(h:Heap),(K w.params).In h->h.Ns mainGlobals mg->mg d.name=some (.ref fa) ->
   ∃fd:FuncData,(∀(s:Shared)(u:Value),BindsTo s fd ⟨[u],[]⟩ [(x,u)]) /\
    ∀base:Heap,(K w.params).In base->base.Ns mainGlobals mg->EY l.prog w (K w.params) mg base (CX w) k fa fd [x] (sp (K w.params)))
  (dq:∀(K:Fg)(H:Hp)(a:Addr)(ns:List Int),ns.length<=n->Ca ns<=2^20->Only H->SqL K H a (ns.map V.int)->sp K [.ref a] H (λv _=>v=.v true) λ_ _ _=>False)
  (fN:∀(w:World)(H:Hp)(s:Shared)(e:Value)(s':Shared),CX w [] H s (λ_ _ _=>False) e s'->False) :
  WalkO q loose XP YP l.row.toRowW d [] (λf vs=>PySem.call f vs):=by
 intro w zW aw mg mb G Y fa o pm cd bJ dV kV ho hd cq hD fV hg args vals as cA dG jL gg jC;obtain⟨a,vs,ns,rfl,rfl,iG,hints,hlen⟩:=Att.NG hn cA gg;have KX:=hY w _ Y;obtain⟨fd,hb,hF⟩:=F w mg fa _ KX G.T.g fV;refine PySem.W.enter_call (codeAny_mono (Rz KX G.T.g G.T.b G.T.builtins G.T.nolimit hg iG hints (oB hlen dm) hr hF hb (λH hO hS=>dq (K w.params) H a ns hlen (by
  have h1:(WData.list (ns.map WData.int)).layable=true:=by unfold WData.layableAll at dG;simpa using dG
  unfold WData.layable at h1;rw[oy]at h1;have h2:=oj h1.2;rwa[<- Gy]) hO hS) λH e s'=>fN w H aw e s') λr s' hq=>?_)
 obtain⟨rfl,h2,h3,h4⟩:=hq;exact⟨.inl ⟨.bool true,.bool true,[],rfl,λ_=>rfl,.bool true,Att.NZ l _,λ_=>⟨List.Pairwise.nil,λ_ hm=>(nomatch hm)⟩⟩,h2,h3,h4⟩
theorem J5{l:OpenLaw}{K:Params->Fg}{as:List Addr}{CX:World->CXT}{sp:Fg->Sp}{x:Str}
  (hn:l.most=some n) (dm:n<=sizeLine) (gJ:d.params.defaults=[]) (hr:C8 k callerA)
  (hK:∀P:Params,as=(K P).map (·.1))
  (F:∀(w:World)(mg:Zsv)(fa:Addr)(h:Heap),(K w.params).In h->h.Ns mainGlobals mg->mg d.name=some (.ref fa) ->
   ∃fd:FuncData,(∀(s:Shared)(u:Value),BindsTo s fd ⟨[u],[]⟩ [(x,u)]) /\
    ∀base:Heap,(K w.params).In base->base.Ns mainGlobals mg->EY l.prog w (K w.params) mg base (CX w) k fa fd [x] (sp (K w.params)))
  (dq:∀(K:Fg)(H:Hp)(a:Addr)(ns:List Int),ns.length<=n->Ca ns<=2^20->Only H->SqL K H a (ns.map V.int)->sp K [.ref a] H (λv _=>v=.v true) λ_ _ _=>False)
  (fN:∀(w:World)(H:Hp)(s:Shared)(e:Value)(s':Shared),CX w [] H s (λ_ _ _=>False) e s'->False) :
  WalkX q loose XP (PySem.W.X.obsZ as) (PySem.W.X.valZ K N tk) l.row.toRowW d [] (λf vs=>PySem.call f vs):=by
 intro w zW aw mg mb G Y fa o pm cd bJ dV kV ho hd cq hD fV hg args vals ki hL cA dG jL gg jC;refine(Mi (l:=l) (q:=q) (loose:=loose) (XP:=XP) (YP:=λw h=>(K w.params).In h) (d:=d) (K:=K) (CX:=CX) (sp:=sp) (x:=x) hn dm gJ hr (λ_ _ h=>h) F dq fN) w zW aw mg mb G ?_ fa o pm cd bJ dV kV ho hd cq hD fV hg args vals ki cA dG jL gg jC;have h1:as.map zW.heap.get?=(K w.params).map (λp=>some p.2):=congrArg Prod.fst Y;rw[hK w.params]at h1;exact λa o e=>hL.keeps a o (Oy _ h1 a o e)
end Lake.L2
namespace Lake.L2
open PySem PySem.Spec PyProof.Rows
variable{k:Nat}
def Y6(C:Addr)(m:Str)(sp:Sp)(Z:XE)(ta:TE)(t:TA):TE:=λU H Q=>ta U H λx H1=>∃a dx fs,x=.ref a/\H1 a=some (.ins C dx fs)/\fs.lookup m=none /\
 t U H1 λvs H2=>sp (x::vs) H2 Q λc _ H'=>Z c U H'
theorem T9(G:Yf X.prog X.w X.K X.mg X.base (CX1 X.prog X.w) C m k ps sp)(hr:C8 k X.A)(hx:Lk X Z)(he:PE X o ta)(ha:PA X (e::es) t)
  (dJ:Zsc X.env e es:=by rfl) (aC:Zbt X.env pos es:=by rfl)
  (ht:eval (.Call (.Attribute o m aA) (e::es) [] pos) X.env=(do
   let ov <- eval o X.env
   standAt aA.atName
   let(f,first) <- holding [ov] (getMethod ov m pl)
   callWith pos f first (backTo pos (starEach (e::es) X.env)) (backToKw pos (keywordEach [] X.env))):=by rfl) :
  PE X (.Call (.Attribute o m aA) (e::es) [] pos) (Y6 C m sp Z ta t):=by
 obtain⟨f,fd,F,hm,hb⟩:=G.ex;intro aa s U H Q I h;refine methodCall_KW (thn (he aa s U H _ I h) λu s1 aj=>?_) ht;obtain⟨x,H1,I1,rx,a,dx,fs,ex,ea,l,q⟩:= aj;subst ex;obtain rfl:u=Value.ref a:=rx;refine Hg I1 ea G.cl hm l ?_;refine callWith_K I.ok.mod.yT hm.kp (thn (ha pos aa s1 U H1 _ I1 q) λus s2 ⟨vs,H2,I2,r,q2⟩=>⟨I2.kIn,?_⟩) dJ aC;exact NH (vs:=.ref a::vs) F hr hb hx I2 (.cons rfl r) q2
theorem Z4:Passes (CX1 X.prog X.w) X E0:=λ_ _ _ _ _ _ _ ⟨_,_,_,_,_,_,_,_,_,_,_,q⟩=>q.elim
variable{j:Nat}
theorem SY(hc:X.calm=true):BK X (.builtin "any") (λxs H Q=>∃(l:Addr)(bs:List Bool),xs=[.ref l]/\SqL X.K H l (bs.map V.v)/\Q (.v (bs.any id)) H):=by
 intro aa s U H xs us Q I r h;obtain⟨l,bs,rfl,hq,q⟩:=h;obtain⟨u,rfl,rx⟩:=vals1 r;cases rx;obtain⟨its,rv,pl,hz⟩:=I.list hq;have hb:=BJ rv;have hl:=pl.isList;refine call_any_walk (wpAny_pyIter_list hl ?_);refine⟨s.heap.objs.size,[s.heap.objs.size,l],[s.heap.objs.size],its.toArray.size,_,_,λi=>(bs[i]?).getD false,rfl,Walks.list (A:=X.A.in1) (I.ok.hd hc) _ l (oA (by obtain⟨_,e,_⟩:=hl;exact oa e)) its.toArray,
  ⟨⟨_,n5 _ rfl,rfl,rfl⟩,hl.push _⟩,λi v s' Q' E' hP hQ=>?_,λh' tk hk=>?_⟩
 .have e:=by simpa using hP
  rw[hb,ou]at e;cases eb:bs[i]? with|none=>rw[eb]at e;cases e|some b =>rw[eb]at e;have e':=Option.some.inj e;subst e';simp only[eb]at hQ;exact wpAny_truthy_bool hQ
 .have e:((List.range its.toArray.size).any λi=>(bs[i]?).getD false)=bs.any id:=by
   have hlen:its.toArray.size=bs.length:=by rw[hb];simp
   rw[hlen];rw[pC,qI,qI];constructor
   .rintro⟨i,hi,hh⟩
    have b8:=pw.mp hi;exact⟨bs[i],pY b8,by simpa[nO b8]using hh⟩
   .rintro⟨b,hm,hh⟩
    obtain⟨i,hi,rfl⟩:=pZ hm;exact⟨i,pw.mpr hi,by simpa[nO hi]using hh⟩
  rw[e];exact⟨.v _,H,I.kept (λb o e=>hk b o (λhm=>by rw[oE.mp hm]at e;exact pq _ (oa e)) (nR _ e)),rfl,q⟩
end Lake.L2
namespace Lake.L2
open PySem PySem.Spec
def Iti(a:Addr)(o:Obj)(af:List (Key×V)):It :=
 ⟨λi H=>H a=some (.frz o (.n af))/\i<af.length,λi H x H'=>∃T k v,H T=none/\x=.ref T/\H'=upd H T (.tup [kV k,v])/\af[i]?=some (k,v),λi H=>H a=some (.frz o (.n af))/\af.length<=i⟩
theorem KV.at:∀{af:List (κ×V)}{vs:List (κ×Value)}{i:Nat}{q:κ×Value},KV af vs->vs[i]?=some q->∃v,af[i]?=some (q.1,v)/\RelV v q.2
 |_,_,_,_,.nil,e=>by simp at e
 |(k,v)::_,_::_,0,_,.cons h t,e=>by simp at e;subst e;exact⟨v,by simp[<- h.1],h.2⟩
 |_::_,_::_,i+1,_,.cons h t,e=>by obtain⟨v,e1,e2⟩:=KV.at t (by simpa using e);exact⟨v,by simpa using e1,e2⟩
theorem Mr(a it:Addr)(o:Obj)(af:List (Key×V)):Turn P w K (.Tuple elts k0 tpos) (Iti a o af) [it] it (λi h=>∃ok ov,IsItemIter h it a i af.length (epOf o) ok ov) where
 mem:=by simp
 obj:=λi h st b hb=>by
  have e:=by simpa using hb
  subst e;obtain⟨ok,ov,e⟩:=st;exact⟨_,e,λv z=>nomatch z⟩
 keep:=λi h h' st k=>by obtain⟨ok,ov,e⟩:=st;exact⟨ok,ov,k it (by simp) _ e⟩
 item:=by
  intro X hP hw hK hc i aa s U H E I hf st hg;subst hP hw hK;obtain⟨he,hi⟩:=hg;obtain⟨hd,vs,aB,da⟩:=I.Yq he;have hl:=aB.length;have b8:i<vs.length:=by lia
  have hx:vs[i]?=some ((vs[i]).1,(vs[i]).2):=nO b8;obtain⟨v,ev,rv⟩:=KV.at aB hx;obtain⟨ok,ov,st⟩:=st;rw[hl]at st;refine wpAny_pyNext_items_item st da hx λkey h' hk aY kR bK dk=>⟨_,rfl,?_⟩
  refine wpAny_letOwnedTupleGo_items aY λjo jQ sb=>?_
  rw[<- hl]at jQ;have Il:Inv X aa U (upd H s.heap.objs.size (.tup [kV (vs[i]).1,v])) {s with heap:=s.heap.push {cls:=.type "tuple",data:=.seq #[key,(vs[i]).2]},toks:=s.toks} :=
   I.laid (λb o e=>nR _ e) (n9 _) ⟨by show 2<=sizeLine;rw[sizeLine_eq];decide,[key,(vs[i]).2],.cons (TU hk) (.cons rv .nil),⟨_,n5 _ rfl,rfl,_,rfl,rfl⟩⟩
  have dj:∀b∈[it],GW X aa (upd H s.heap.objs.size (.tup [kV (vs[i]).1,v])) b:=λb hb=>by
   obtain⟨f0,f⟩:=hf b hb;have e:b=it:=by simpa using hb
   subst e;exact⟨by rw[Al (oA (oa st))];exact f0,f⟩
  exact⟨.ref s.heap.objs.size,_,(Il.J8 (λb o hb e=>by
   have nz:b≠it:=λq=>hb (by simp[q])
   refine sb.extBut _ _ nz ?_;by_cases hbT:b=s.heap.objs.size
   .subst hbT;have e':(s.heap.push {cls:=.type "tuple",data:=.seq #[key,(vs[i]).2]}).get? s.heap.objs.size=some o:=e;rw[n5 _ rfl]at e';cases e';exact kR
   .have e':(s.heap.push {cls:=.type "tuple",data:=.seq #[key,(vs[i]).2]}).get? b=some o:=e;rw[Heap.get?_push_ne _ _ _ hbT]at e';exact dk b o nz e') dj),rfl,⟨s.heap.objs.size,_,v,I.z9.fresh (n9 _),rfl,rfl,ev⟩,⟨_,_,jQ⟩,λb hb=>(dj b hb).1⟩
 done:=by intro X hP hw hK hc i aa s U H E I hf st hg;subst hP hw hK;obtain⟨he,hi⟩:=hg;obtain⟨hd,vs,aB,da⟩:=I.Yq he;have hl:=aB.length;obtain⟨ok,ov,st⟩:=st;rw[hl]at st;exact wpAny_pyNext_items_end (I.ok.hd hc) st da (oQ (by lia)) λh' eb=>⟨rfl,I.J8 (λb o hb e=>eb b o (λq=>hb (by simp[q])) e) hf⟩
 self:=λA i s Q E st h=>by obtain⟨ok,ov,st⟩:=st;exact PySem.W.kcp_self st h
def JaV(td:TE):TI:=λU H R=>td U H λx H1=>∃a o af,x=.ref a/\H1 a=some (.frz o (.n af))/\R (Iti a o af) H1
theorem Q7(ho:PE X o td)(aE:Zab X.env o "items":=by rfl)(aG:(aA.endLine==ay.line)=true:=by rfl):
  PI X (.Tuple elts k0 tpos) (.Call (.Attribute o "items" aA) [] [] ay) (JaV td):=by
 intro aa s U H R I h;refine wpAny_Call_method0_late aE aG (thn (ho aa s U H _ I h) λv s1 aj=>?_);obtain⟨x,H1,I1,r1,a,ob,af,ex,hd,q⟩:= aj;subst ex;cases r1;obtain⟨hS,vs,aB,da⟩:=I1.Yq hd;obtain⟨t1,t2,_⟩:=JaL I1 (.inl ⟨af,.inr ⟨ob,hd⟩⟩);refine⟨"dict","dict.items",PySem.F.plainAttrs_dict,PySem.F.slot_dict_items,PySem.F.type_dict_items,t1,t2,Calls.callWith_builtin rfl (PySem.evalArgs_none ?_)⟩;refine call_meetsIn PySem.F.slot_dict_items da.dictOf.typeIs PySem.F.entry_dict_items (PySem.F.args_dict_items_1 _) (meets_dict_items (A4 X.prog X.w) a hS) ⟨⟨vs,da.dictOf⟩,?_⟩;have I2:Inv X aa U H1 {s1 with heap:=s1.heap.push {cls:=.type "dict_items",data:=.fields #[.ref a]} }:=I1.kept λb o e=>nR _ e
 refine wpAny_pyIter_items ⟨_,n5 _ rfl,rfl,rfl⟩ (da.push _) ?_;refine⟨_,[_],_,Iti a ob af,H1,rfl,I2.kept λb o e=>nR _ e,Mr a _ ob af,⟨.none,.none,by rw[aB.length];exact n5 _ rfl⟩,λb hb=>?_,q⟩;have e:=oE.mp hb;subst e;exact I2.Qp (n9 _) (I2.z9.fresh (n9 _))
end Lake.L2
namespace PySem
namespace Zp
theorem Qt:typeLookup (.type "zip") "__getattr__"=pure none:=by rw[typeLookup_type,builtinLookup_eq_fast];kernel_rfl
theorem Qv:typeLookup (.type "zip") "keys"=pure none:=by rw[typeLookup_type,builtinLookup_eq_fast];kernel_rfl
theorem Ni:entryFor table "zip.__getattribute__"=some Builtin.«object.__getattribute__» :=
 entryFor_alias (id':="object.__getattribute__") (by kernel_rfl) (by decide +kernel) (by decide +kernel) (by kernel_rfl)
theorem Qu(a:Addr)(vs:Array Value)(u:Tok):
  Meets (Builtin.«object.__getattribute__» ⟨[.ref a,.str "keys" u],[]⟩) (λA R s=>s.heap.get? a=some {cls:=.type "zip",dict:=none,data:=.fields vs,slots:=#[]}/\raisesAttr (.ref a) "keys" A R s) :=
 Meets.of_wp λprog w A R s hs=>by
  obtain⟨hx,hs⟩:=hs;have jD:=Qv
  repeat (any_goals (first|assumption|wp_step))
  try simp only[if_false]
  repeat (any_goals (first|assumption|wp_step))
  exact wpAny_raiseAttrError hs.1 hs.2 (attrMsg_fits (by decide +kernel) (by size_fits))
theorem Qs
  (hx:s.heap.get? a=some {cls:=.type "zip",data:=.fields vs}) (hA:A.handled=none)
  (h:∀h' tk,(∀b o,s.heap.get? b=some o->h'.get? b=some o)->Q none {s with heap:=h',toks:=tk}):wpAny (model prog w) A (getAttr? (.ref a) "keys") Q E s:=by
 obtain⟨hp,g,d,tk,os⟩:=s;have hT:∀i9,(⟨hp,g,d,i9,os⟩:Shared).TypeIs (.ref a) "zip":=λ_=>⟨_,hx,rfl⟩
 have f1:=sub_AttributeError;have f3:=F.slot_zip_getattribute.lookup;have f4:=F.slot_zip_getattribute.bind (.ref a);have f5:=Qt
 repeat (any_goals (first|assumption|exact hT _|((with_reducible show wpAny _ _ (call (Value.builtin "zip.__getattribute__") _ _) _ _ _);refine call_meets F.slot_zip_getattribute (hT _) Ni (F.args_zip_getattribute_2 _ _) (Qu a vs _) ⟨hx,hA,λh' i9 e gh=>?_⟩)|wp_step))
 obtain⟨t',u',he⟩:=gh.there;unfold getattributeRaised
 repeat (any_goals (first|assumption|wp_step))
 exact h h' i9 gh.1
theorem Pu:entryFor table "dict.update.loop"=some Builtin.«dict.update.loop»:=entryFor_of_fast (by kernel_rfl)
theorem FU:plainId "dict.update.loop"=true:=by decide +kernel
end Zp
end PySem
namespace Lake.L2
open PySem PySem.Spec PyProof.Rows
def putD(S:Addr):Put:=λi x H Q=>∃a k v af,x=.ref a/\H a=some (.tup [kV k,v])/\H S=some (.n af)/\af.length<=i/\Q (.n (putK af k v))
variable{tn:Nat->Heap->Prop}{Fin:Hp->Prop}
theorem Qy{A:Around}{R:Result->Shared->Prop}{res:Value}{W:Nat->Nat->Hp->Prop}(T:Turn X.prog X.w X.K (.Name x p) J fp it tn)(hb:Bnd X J)(hc:X.calm=true)(hh:A.handled=X.A.handled)(hr:A.frames=X.A.frames)
  (hw:∀i m H,W i m H->(J.stop i H/\Fin H)\/(J.go i H/\∀x H',J.yV i H x H'->putD S i x H' λo=>∃m',m'<m/\W (i+1) m' (upd H' S o))) (hR:∀H s',Inv X aa U H s'->Fin H->R (.ok (.ret res)) s') (m:Nat) :
  ∀(i:Nat)(H:Hp)(s:Shared),W i m H->Inv X aa U H s->tn i s.heap->(∀b∈fp,GW X aa H b)->codeAny (model X.prog X.w) A (.builtin "dict.update.loop" ⟨[.ref S,.ref it,rawInt i,res],[]⟩) R s:=by
 induction m using Nat.strongRecOn with
 |_ m ih =>
  intro i H s w I t hf;refine codeAny_builtin Zp.Pu ?_;rw[Around.under_plainId Zp.FU _];refine OQ (A:=A.in1) (m:=m) T hc hh hr (hw i m H w) I t hf (λs' I' f=>nM (nW (nW (hR H s' I' f)))) λv u H' s' go I' r ⟨a,k,v,af,e1,e2,e,hz,m',hm,w'⟩ t' dj=>?_
  have:=hb _ _ _ _ _ I go;subst e1;cases r;have ne:∀b∈fp,b≠S:=λb hb=>(AA e (dj b hb).1).symm
  obtain⟨_,its,rv,ht⟩:=I'.z9 a _ e2;rcases rv with _|⟨r1,_|⟨r2,⟨⟩⟩⟩
  obtain⟨o,eo,co,n,dt,_⟩:=ht;obtain⟨z,hd,vs,aB,dd⟩:=Jb2 I'.z9 e;refine nM (wpAny_holding (nM (wpAny_tryCatch ?_)));unfold Builtin.Dict.pairItems;refine nM (wpAny_typeOf (T:="tuple") ⟨_,eo,co⟩ ?_);rw[if_pos (by decide)];refine nM (wpAny_seqItems eo dt (nW ?_));refine(wpAny_holding (wpAny_dictSet_pairs (MH r1) dd (λh2 hd2 sb=>?_) (by rw[<- aB.length];exact z)):wpAny _ _ (holding [_,_] (dictSet S _ _)) _ _ _);have he:∃q,h2.get? S=some q:=let⟨q,_,_,hq,_⟩:=hd2;⟨q,hq⟩;exact nW ⟨plainId_quiet Zp.FU _,ih m' hm (i+1) _ _ w' (I'.write (t':=s'.toks+1) (x:=S) (e:=S) (by rw[e];exact True.intro) (.inl rfl) (λb u hb hu=>sb.extBut b u hb hu) he (PC (by have:=DZ af k v;lia) hd (aB.put k r2) hd2)) (T.keep _ _ _ t' λb hb o q=>sb.extBut b o (ne b hb) q) λb hb=>⟨(Al (ne b hb)).trans (dj b hb).1,(dj b hb).2⟩⟩
def UY(T:String):Prop:=∀(prog:Program)(w:World)(A:Around)(E:Zcv)(s:Shared)(a:Addr)(vs:Array Value)(Q:Option Value->Shared->Prop),A.handled=none->s.heap.get? a=some {cls:=.type T,data:=.fields vs}->(∀h' tk,(∀b o,s.heap.get? b=some o->h'.get? b=some o)->Q none {s with heap:=h',toks:=tk}) ->
 wpAny (model prog w) A (getAttr? (.ref a) "keys") Q E s
def Vj(X:Cx)(wi:TI):TE:=λU H Q=>wi U H λJ H1=>Bnd X J/\∀S,H1 S=none->ItW J S (putD S) (Q (.ref S)) (upd H1 S (.n []))
theorem N6{av:Expr}{T:String}{wi:TI}{p1 bY:Pos}(hc:X.calm=true)(dH:X.mg "dict"=none)(hi:PIt X (.Name x p) av T wi)(hT:UY T)(hn:T≠"dict")(dE:Gl X "dict":=by rfl)(he:Zs1 X.env av:=by rfl):
  PE X (.Call (.Name "dict" p1) [av] [] bY) (Vj X wi):=by
 intro aa s U H Q I h;refine wpAny_Call_Name_kw (Dh I dE dH boot_dict (callWith_type1 ?_ he rfl));rw[he];refine Calls.spliced_cons (thn (hi aa s U H _ I h) λv s1 ⟨⟨⟨it,_,e,eo⟩,_⟩,_,fp,tn,J,H1,e',I1,Tn,t0,hf,bd,q⟩=>Calls.spliced_nil ?_);subst e;cases e';refine callType_codes (Q₁:=λobj aw=>obj=.ref s1.heap.objs.size/\aw={s1 with heap:=s1.heap.push {cls:=.type "dict",data:=.dict #[]} }) F.kt_called_dict (F.kt_typeCall_dict_1 _) F.entry_dict_init (kt_code_dict_new _ ⟨rfl,rfl⟩) ?_
 rintro obj aw ⟨rfl,rfl⟩
 have eR:(s1.heap.push {cls:=.type "dict",data:=.dict #[]}).DictOf (A4 X.prog X.w) s1.heap.objs.size []:=Heap.DictOf.new s1.heap;refine⟨eR.typeIs,F.args_dict_init_2 _ _,?_⟩;unfold Builtin.«dict.__init__» Builtin.Dict.selfAndRest;refine nM (nM (wpAny_notOrdered_dict eR.typeIs (nW ?_)));show wpAny _ _ (Builtin.Dict.updateFrom "dict.__init__" s1.heap.objs.size (.ref it) [] .none) _ _ _;unfold Builtin.Dict.updateFrom;refine nM (wpAny_typeOf ⟨_,nR _ eo,rfl⟩ ?_);rw[if_pos (by simp[hn])];refine nM (hT _ _ _ _ _ _ _ _ (I1.ok.hd hc) (nR _ eo) λh2 tk k2=>?_);have k:∀b o,s1.heap.get? b=some o->h2.get? b=some o:=λb o e=>k2 b o (nR _ e)
 have j5:=Tn.keep _ _ _ t0 λb _ o=>k b o
 obtain⟨o,es,ep,ho,r⟩:=eR;obtain⟨W,⟨m,w0⟩,hw⟩:=q _ I1.fresh;refine nM (wpAny_rule (nM (Tn.self _ 0 _ _ _ j5 (nW ⟨plainId_quiet Zp.FU _,?_⟩))));exact Qy (A:=X.A.in1) Tn bd hc rfl rfl hw (λH s' I' q=>⟨rfl,.ref s1.heap.objs.size,H,I',rfl,q⟩) m 0 _ _ w0 (I1.laid (t':=tk) k (n9 _) ⟨pf _,beq_eq_false_iff_ne.mpr (qu I1.big),[],.nil,o,es,ep,k2 _ _ ho,r⟩) j5 λb hb=>⟨(Al (let⟨_,e,_⟩:=Tn.obj _ _ t0 b hb;oA (oa e))).trans (hf b hb).1,(hf b hb).2⟩
theorem MB:UY "zip":=λ_ _ _ _ _ _ _ _ hA hx h=>Zp.Qs hx hA h
end Lake.L2
namespace Lake.L2
def mxF(b n:Int):Int:=if n>b then n else b
def mxD(d:Int):List Int->Int
 | []=>d
 |n::ns=>ns.foldl mxF n
def mxR(d:Int):Option Int->List Int->Int
 |none,r=>mxD d r
 |some b,r=>r.foldl mxF b
end Lake.L2
namespace PySem.Mx
open PySem PySem.Spec PyProof.Rows L2
inductive St(S:Addr)(h:Heap):Option Int->Prop
 |no (c:Nat) (e:h.get? S=some {cls:=.type "list",data:=.seq #[] c}):St S h none
 |y (b:Int) (t u:Tok) (c:Nat) (e:h.get? S=some {cls:=.type "list",data:=.seq #[.int b t,.int b u] c}):St S h (some b)
variable{R:Result->Shared->Prop}{ns:List Int}{d:Int}
theorem put{n:Int}{tu:Tok}{o:Array Value}{c:Nat}{E:Zcv}{α:Type}{Q:α->Shared->Prop}{k:Unit->Sem α}{s:Shared}(e:s.heap.get? S=some {cls:=.type "list",data:=.seq o c})(hz:o.size<=sizeLine)
  (h:∀h',St S h' (some n)->Heap.SameBut S s.heap h'->wpAny (model prog w) A (k ()) Q E {s with heap:=h' }):wpAny (model prog w) A (updateSeq S (λ_=>#[.int n tu,.int n tu]) >>= k) Q E s :=
 nM (wpAny_updateSeq e rfl (h _ (.y n tu tu _ (pe _ e rfl)) (.update ..)) hz)
theorem loop(hh:A.handled=none)(hi:∀(i:Nat)(n:Int),ns[i]?=some n->∃t,items[i]?=some (Value.int n t))(hz:items.size=ns.length)(n1:l≠S)(n2:it≠S)(n3:l≠it):
  ∀(r:List Int)(i:Nat)(b:Option Int)(s:Shared),ns.drop i=r->s.heap.IsList l items->s.heap.IsListIter it l i->St S s.heap b ->
  (∀h' tk t,(∀a o,a≠it->a≠S->s.heap.get? a=some o->h'.get? a=some o)->R (.ok (.ret (.int (mxR d b r) t))) {s with heap:=h',toks:=tk}) ->
  codeAny (model prog w) A (.builtin "max.loop" ⟨[.ref it,.none,.ref S],[(Str.ofString "default",.int d td)]⟩) R s:=by
 have cW:(toString "max"++toString ".loop":String)="max.loop":=by decide
 intro r
 induction r with
 |nil =>intro i b s er hl ht hS hR;refine codeAny_builtin F.entry_max_loop ?_;rw[Around.under_plainId F.plain_max_loop _];have ex:items[i]?=none:=Array.getElem?_eq_none (by have:=List.drop_eq_nil_iff.mp er;lia);cases hS with|no c e=>exact nM (wpAny_seqItems e rfl (nM (wpAny_tryCatch (wpAny_pyNext_list_end (A:=A.in1) hh ht hl ex λh' eb=>nM (wpAny_rule (nW (hR h' s.toks td λa o h _ q=>eb a o h q)))))))|y b t u c e =>refine nM (wpAny_seqItems e rfl (nM (wpAny_tryCatch (wpAny_pyNext_list_end (A:=A.in1) hh ht hl ex λh' eb=>?_))));exact nM (wpAny_updateSeq (eb S _ n2.symm e) rfl (nM (wpAny_letGo (nW (hR _ s.toks t λa o h1 h2 q=>(oJ _ _ h2.symm).trans (eb a o h1 q))))))
 |cons n r ih =>
  intro i b s er hl ht hS hR;refine codeAny_builtin F.entry_max_loop ?_;rw[Around.under_plainId F.plain_max_loop _];have e0:ns[i]?=some n:=by rw[<- Nat.add_zero i,<- List.getElem?_drop,er];rfl
  have kF:ns.drop (i+1)=r:=by simpa using congrArg List.tail er
  obtain⟨tu,hx⟩:=hi i n e0;have go:∀b' (s':Shared),s'.gens=s.gens/\s'.drawn=s.drawn/\s'.os=s.os->(∀a o,a≠it->a≠S->s.heap.get? a=some o->s'.heap.get? a=some o)->s'.heap.IsListIter it l (i+1)->St S s'.heap b'->mxR d b' r=mxR d b (n::r) ->
    codeAny (model prog w) A (.builtin "max.loop" ⟨[.ref it,.none,.ref S],[(Str.ofString "default",.int d td)]⟩) R s':=λb' s' eg k t' S' em=>by
   refine ih (i+1) b' s' kF (hl.at λo=>k l o n3 n1) t' S' λh' tk t k'=>?_
   have:=hR h' tk t λa o h1 h2 q=>k' a o h1 h2 (k a o h1 h2 q)
   obtain⟨e1,e2,e3⟩:=eg;rw[em,e1,e2,e3];exact this
  cases hS with
  |no c e =>
   refine nM (wpAny_seqItems e rfl (nM (wpAny_tryCatch (wpAny_pyNext_list_item (A:=A.in1) ht hl hx λh' t' sb=>?_))));refine put (n:=n) (tu:=tu) (s:={s with heap:=h' }) ((sb.2 S n2.symm).trans e) (pf _) λh2 S2 gB=>?_
   rw[cW];exact nW ⟨plainId_quiet F.plain_max_loop _,go (some n) _ ⟨rfl,rfl,rfl⟩ (λa o h1 h2 q=>(gB.2 a h2).trans ((sb.2 a h1).trans q)) (t'.at λo q=>(gB.2 it n2).trans q) S2 rfl⟩
  |y b t u c e =>
   refine nM (wpAny_seqItems e rfl (nM (wpAny_tryCatch (wpAny_pyNext_list_item (A:=A.in1) ht hl hx λh' t' sb=>?_))));have eS:=(sb.2 S n2.symm).trans e;refine nM (nW (nM (wpAny_tryCatch (wpAny_holding (nM ?_)))));refine richCompare_gives (op:=.Gt) (typeIs_int _ _ tu) (typeIs_int _ _ u) F.slot_int_gt F.entry_int_gt (F.args_int_gt_2 _ _) (gives_int_gt _ _ tu u) (λx=>nomatch x) ?_;refine(nM (wpAny_holding (wpAny_truthy_bool ?_)):wpAny _ _ (holding _ (truthy _) >>= _) _ _ _);refine nM (wpAny_letGo (nW ?_));cases hb:decide (n>b)with
   |true =>
    refine put (n:=n) (tu:=tu) (s:={s with heap:=h' }) eS (by rw[sizeLine_eq];show 2<=_;decide) λh2 S2 gB=>nM (wpAny_letGo ?_)
    rw[cW];exact nW ⟨plainId_quiet F.plain_max_loop _,go (some n) _ ⟨rfl,rfl,rfl⟩ (λa o h1 h2 q=>(gB.2 a h2).trans ((sb.2 a h1).trans q)) (t'.at λo q=>(gB.2 it n2).trans q) S2 (congrArg (r.foldl mxF) (if_pos (oj hb)).symm)⟩
   |false =>refine nM (wpAny_letGo ?_);rw[cW];exact nW ⟨plainId_quiet F.plain_max_loop _,go (some b) _ ⟨rfl,rfl,rfl⟩ (λa o h1 h2 q=>(sb.2 a h1).trans q) t' (.y b t u c eS) (congrArg (r.foldl mxF) (if_neg (of_decide_eq_false hb)).symm)⟩
end PySem.Mx
namespace Lake.L2
open PySem PySem.Spec PyProof.Rows
theorem Qi(a v:Value):argsOk "max" ⟨[a],[(Str.ofString "default",v)]⟩:=by unfold argsOk;kernel_rfl
def tMaxD(K:Fg)(d:Int)(ta:TA):TE:=λU H Q=>ta U H λvs H1=>∃(l:Addr)(ns:List Int),vs=[.ref l]/\SqL K H1 l (ns.map V.int)/\Q (.int (mxD d ns)) H1
theorem VU{X:Cx}{a:Expr}{ta:TA}{d:Int}{j:Nat}{p pos kp cp:Pos}(hc:X.calm=true)(hm:X.mg "max"=none)(ha:PA X [a] ta)(hg:Gl X "max":=by rfl)
  (he:Zs1 X.env a:=by rfl) :
  PE X (.Call (.Name "max" p) [a] [⟨some "default",.Constant (.int d) j cp,kp⟩] pos) (tMaxD X.K d ta):=by
 intro aa s U H Q I h;refine wpAny_Call_Name_kw (Dh I hg hm boot_max ?_);refine callWith_kw ?_ (by rw[he];rfl) (by rw[he];rfl) rfl rfl;refine thn (ha pos aa s U H _ I h) λus s1 aj=>?_
 obtain⟨vs,H1,I1,r1,l,ns,e,hl,q⟩:= aj;subst e;obtain⟨u,rfl,rx⟩:=vals1 r1;cases rx;refine thn (VQ (nm:=some "default") (kpos:=kp) (Lq (X:=X) (i:=d) (j:=j) (pos:=cp)) ZO pos aa s1 U H1 (λzs H2=>zs=[.int d]/\H2=H1) I1 ⟨rfl,rfl⟩) λws s2 aj=>?_
 obtain⟨zs,H2,I2,rz,ez,eH⟩:= aj;subst ez eH;obtain⟨u2,rfl,t2,rfl⟩:=vals1 rz;obtain⟨its,rv,pl,hz⟩:=I2.list hl;have fT:=rv.length;have eQ:l<s2.heap.objs.size:=by obtain⟨_,_,e,_⟩:=pl;exact oa e
 refine(kmb_tree F.kind_max F.plain_max F.entry_max (Qi _ _) ?_:wpAny _ _ (call (.builtin "max") [.ref l] [(Str.ofString "default",.int d t2)]) _ _ _);show wpAny _ _ (Builtin.Builtins.bindParams "max" ["key","default"] 0 ⟨[],[(Str.ofString "default",.int d t2)]⟩ >>= _) _ _ _;refine nM (wpAny_of_eq (show Builtin.Builtins.bindParams "max" ["key","default"] 0 ⟨[],[(Str.ofString "default",.int d t2)]⟩=pure [none,some (.int d t2)]from by rfl) (nM (nW (nM (wpAny_pyIter_list pl.isList (nM (wpAny_newObj_type ?_)))))));refine nW ⟨plainId_quiet F.plain_max_loop _,Mx.loop (items:=its.toArray) (I.ok.hd hc) (λi n e=>?_) (by rw[nV,<- fT,nX]) ?_ ?_ ?_ ns 0 none _ rfl ((pl.isList.push _).push _) ⟨_,nR _ (n5 _ rfl),rfl,rfl⟩ (.no 0 (n5 _ rfl)) λh' tk t k=>⟨.int (mxD d ns),H2,I2.kept λb o e=>?_,⟨t,rfl⟩,q⟩⟩
 .obtain⟨u,hu,t,rfl⟩:=rv.get (show(ns.map V.int)[i]?=some (.int n) by rw[ou,e];rfl);exact⟨t,by simpa using hu⟩
 .rw[o5];exact oA (Nat.lt_succ_of_lt eQ)
 .rw[o5];exact oA (qE _)
 .exact oA eQ
 .exact k b o (oA (oa e)) (by rw[o5];exact oA (Nat.lt_succ_of_lt (oa e))) (nR _ (nR _ e))
end Lake.L2
namespace PySem
open PyProof.Rows (IsTup)
namespace Rw
abbrev Is(h:Heap)(a t:Addr)(i:Int):Prop:=h.get? a=some {cls:=.type "reversed",data:=.fields #[.ref t,rawInt i]}
variable{E:Zcv}
theorem Ly{i:Nat}(hh:A.handled=none)(hit:Is s.heap it t ((i:Int)-1))(ht:IsTup s.heap t items)(hz:items.size<=sizeLine)(hi:i<=items.size)
  (hQ:∀j x h' tk,i=j+1->items[j]?=some x->Is h' it t ((j:Int)-1)->Heap.SameBut it s.heap h'->Q (some x) {s with heap:=h',toks:=tk})
  (hE:i=0->∀h',Heap.ExtBut it s.heap h'->Q none {s with heap:=h' }):wpAny (model prog w) A (pyNext (.ref it)) Q E s:=by
 have hT:s.TypeIs (.ref it) "reversed":=⟨_,hit,rfl⟩
 obtain⟨hp,g,d,tk,os⟩:=s;dsimp only at hit;unfold pyNext;refine nM (wpAny_attempt (wpAny_callSpecial?_slot hT F.Dc (wpAny_call_entry F.Dc hT F.Ii ?_ (F.JW _))));cases i with
 |zero =>
  have hs:=isSubtype_stop
  change hp.get? it=some {cls:=.type "reversed",data:=.fields #[.ref t,rawInt (-1)]} at hit
  wp_walk
  unfold raiseNew
  wp_walk
  exact hE rfl _ λb o hb e=>nR _ (nR _ ((Heap.SameBut.update ..).extBut b o hb ((Heap.SameBut.update ..).extBut b o hb e)))
 |succ j =>
  have e:((j+1:Nat):Int)-1=(j:Int):=by lia
  rw[e]at hit;have hj:j<items.size:=hi;have hx:=Array.getElem?_eq_getElem hj;rw[sizeLine_eq]at hz;show wpAny _ _ (field (.ref it) 0 >>= _) _ _ _;refine nM (oW hit rfl rfl (nM (oW hit rfl rfl ?_)));show wpAny _ _ (if(j:Int)<0 then _ else _) _ _ _;rw[if_neg (by lia)];refine nM (wpAny_specialOf ht.typeIs PyProof.Rows.slot_tuple_getitem.lookup ?_);refine nM (wpAny_mkInt (nM (wpAny_attempt (PyProof.Rows.getItem_tuple ht (by lia) (by lia) (by unfold seqIndex?;simp only[show ¬((j:Int)<0)from by lia,if_false];simp[hj]) hx (nM (oW hit rfl rfl ?_))))));exact nM (wpAny_setField_rec hit (by simp) λh' e' sb=>nW ⟨_,rfl,nW (hQ j _ h' _ rfl hx e' sb)⟩)
theorem SX(hz:items.size<=sizeLine)(ht:IsTup s.heap t items)(h:∀h' tk,Is h' s.heap.objs.size t ((items.size:Int)-1)->(∀b o,s.heap.get? b=some o->h'.get? b=some o)->Q (.ref s.heap.objs.size) {s with heap:=h',toks:=tk}):
  wpAny (model prog w) A (call (.type "reversed") [.ref t]) Q E s:=by
 have M:Meets (Builtin.«reversed.__new__» ⟨[.type "reversed",.ref t],[]⟩) (λ_ R s=>IsTup s.heap t items/\∀tk,R (.ok (.ret (.ref s.heap.objs.size))) {s with heap:=s.heap.push {cls:=.type "reversed",data:=.fields #[.ref t,rawInt ((items.size:Int)-1)]},toks:=tk}) :=
  .of_wp λprog w A R s ⟨ht,h⟩=>by
   have f1:=F.Ks;have f2:=PyProof.Rows.slot_tuple_getitem.lookup;have f3:isSubtype (.type "tuple") (.type "dict")=pure false:=by rw[isSubtype_type];kernel_rfl
   have f4:=newClass_reversed (Value.ref t);have hT:=ht.typeIs;obtain⟨hp,g,d,tk,os⟩:=s
   wp_walk using len_tuple ht (by rw[sizeLine_eq]at hz;lia)
   exact⟨_,rfl,h _⟩
 exact callType_new F.PY (by decide) (F.typeCall_reversed_1 _) (F.newCall_reversed_1 _) (λob=>F.args_object_init_2 ob _) F.entry_reversed_new M ⟨ht,λtk=>⟨⟨_,n5 _ rfl,rfl⟩,h _ tk (n5 _ rfl) λb o e=>nR _ e⟩⟩
end Rw
end PySem
namespace Lake.L2
open PySem PySem.Spec PyProof.Rows
def Itw(K:Fg)(a:Addr)(n:Nat):It :=
 ⟨λi H=>i<n/\∃xs x,SqT K H a xs/\xs.length=n/\xs[n-1-i]?=some x,λi H x H'=>H'=H/\∀xs,SqT K H a xs->xs[n-1-i]?=some x,λi H=>n<=i/\∃xs,SqT K H a xs/\xs.length=n⟩
theorem Nr{K:Fg}(a it:Addr)(n:Nat):Turn P w K tg (Itw K a n) [it] it (λi h=>i<=n/\Rw.Is h it a (((n-i:Nat):Int)-1)) where
 mem:=by simp
 obj:=λi h st b hb=>by rw[oE.mp hb];exact⟨_,st.2,nofun⟩
 keep:=λi h h' st k=>⟨st.1,k it (by simp) _ st.2⟩
 item:=by
  intro X hP hw hK hc i aa s U H E I hf st ⟨hi,xs,x,hq,hl,hx⟩;subst hP hw hK;obtain⟨its,rv,p,hz⟩:=I.tuple hq;obtain⟨u,hu,ru⟩:=rv.get hx;have fT:=rv.length;obtain⟨f0,f1,f2,f3,f4,f5⟩:=hf it (by simp);refine Rw.Ly (I.ok.hd hc) st.2 p (by rw[nV];lia) (by rw[nV];lia) (λj v h' tk e hv aY sb=>?_) λe=>by lia
  have ej:j=n-1-i:=by lia
  subst ej;have hv:=by simpa using hv
  rw[hu]at hv;cases hv;exact⟨u,rfl,Ky aY rfl rfl (by decide) ⟨x,H,I.turned (λb o hb e=>(sb.2 b hb).trans e) f0 f1 f3 f4 f5,ru,⟨rfl,λys hy=>by rw[I.FD hy hq];exact hx⟩,⟨hi,by rw[show n-(i+1)=n-1-i by lia];exact aY⟩,λb hb=>(hf b hb).1⟩⟩
 done:=by intro X hP hw hK hc i aa s U H E I hf st ⟨hg,xs,hq,hl⟩;subst hP hw hK;obtain⟨its,rv,p,hz⟩:=I.tuple hq;have fT:=rv.length;obtain⟨f0,f1,f2,f3,f4,f5⟩:=hf it (by simp);exact Rw.Ly (I.ok.hd hc) st.2 p (by rw[nV];lia) (by rw[nV];lia) (λj v h' tk e=>by lia) λ_ h' eb=>⟨rfl,I.turned (λb o hb e=>eb b o hb e) f0 f1 f3 f4 f5⟩
 self:=λ_ _ _ _ _ st h=>wpAny_pyIter_slot ⟨_,st.2,rfl⟩ F.EK (wpAny_call_entry F.EK ⟨_,st.2,rfl⟩ F.Ij (nW ⟨_,rfl,"reversed",_,⟨_,st.2,rfl⟩,F.Dc.lookup,h⟩) (F.JX _))
theorem OW{s:Shared}{it t:Addr}{i:Nat}{items:Array Value}(hit:Rw.Is s.heap it t ((i:Int)-1))(ht:IsTup s.heap t items)(hz:items.size<=sizeLine)(hi:i<=items.size):Hint s (.ref it):=λprog w A E Q s2 k h=>by
 have eP:=k _ _ hit;have lJ:IsTup s2.heap t items:=let⟨o,e,r⟩:=ht;⟨o,k _ _ e,r⟩;have hT:s2.TypeIs (.ref it) "reversed":=⟨_,eP,rfl⟩
 have ir:(items.size:Int)<2^63:=by rw[sizeLine_eq]at hz;lia
 unfold Builtin.List.listLengthHint;refine nM (wpAny_specialOf hT F.Ri ?_);refine(nM (wpAny_specialOf hT F.Dd.lookup ?_):wpAny _ _ (specialOf (Value.ref it) (Str.ofString "__length_hint__") >>= _) _ _ _);generalize hid:("reversed.__length_hint__":String)=id0
 wp_delta
 rw[show splitId id0=some ("reversed","__length_hint__")from by subst hid;decide +kernel];subst hid;refine nM (wpAny_isInstance (T:="reversed") (b:=true) hT (by rw[isSubtype_type];kernel_rfl) ?_);rw[if_neg (by decide)];refine wpAny_ite_split (λfk=>absurd fk (by decide)) (λ_=>?_);refine nM (wpAny_rule (nM (wpAny_of_eq (F.Dd.bind _) (nM (wpAny_attempt (wpAny_call_entry F.Dd hT F.Ik ?_ (F.JY _)))))));unfold Builtin.«reversed.__length_hint__»;refine nM (wpAny_of_eq (a:=Value.ref it) rfl (nM (oW eP rfl (x:=.ref t) rfl ?_)));rw[if_neg (show ¬((Value.ref t==Value.none)=true)from oz)];refine nM (len_tuple lJ ir (nM (m:=asInt? _) (nW (nM (oW eP rfl (x:=rawInt ((i:Int)-1)) rfl ?_)))));dsimp only[rawInt];rw[if_neg (by lia),show(i:Int)-1+1=(i:Int) by lia];refine nM (wpAny_mkInt (nW ⟨_,rfl,?_⟩));have iM:=hz;rw[sizeLine_eq]at iM;have f1:Builtin.List.listFitsIndex (i:Int)=true:=by
  unfold Builtin.List.listFitsIndex;rw[oy,decide_eq_true_eq,decide_eq_true_eq]
  lia
 have f2:Builtin.List.listTooLong (i:Int).toNat=false:=by unfold Builtin.List.listTooLong;exact oF (by lia)
 have f3:¬((i:Int)<0):=by lia
 simp only[asInt?,pure_bind,f1,f2,f3,Bool.not_true,Bool.false_eq_true,if_false];exact nW (h _ _)
def iRevT(K:Fg)(ta:TE):TI:=λU H R=>ta U H λx H1=>∃a xs,x=.ref a/\SqT K H1 a xs/\R (Itw K a xs.length) H1
theorem VR{X:Cx}{tg a:Expr}{ta:TE}{p2 bb:Pos}(cy:X.mg "reversed"=none)(ha:PE X a ta)(bT:Gl X "reversed":=by rfl)(dD:Zs1 X.env a:=by rfl):
  PIt X tg (.Call (.Name "reversed" p2) [a] [] bb) "reversed" (iRevT X.K ta):=by
 intro aa s U H R I h;refine wpAny_Call_Name_kw (Dh I bT cy boot_reversed (callWith_type1 ?_ dD rfl));rw[dD];refine Calls.spliced_cons (thn (ha aa s U H _ I h) λu s1 aj=>?_);obtain⟨x,H1,I1,r1,l,ys,ex,hq,q⟩:= aj;subst ex;cases r1;obtain⟨its,rv,pl,hz⟩:=I1.tuple hq;have fT:=rv.length;refine Calls.spliced_nil (Rw.SX (by rw[nV];lia) pl λh' tk st k=>⟨⟨⟨_,_,rfl,st⟩,OW (i:=its.toArray.size) st (let⟨o,e,r⟩:=pl;⟨o,k _ _ e,r⟩) (by rw[nV];lia) (n9 _)⟩,_,[s1.heap.objs.size],_,_,H1,rfl,I1.kept k,Nr l _ ys.length,⟨pf _,by rw[fT];simpa using st⟩,λb hb=>?_,q⟩);rw[oE.mp hb];exact I1.Qp (n9 _) I1.fresh
end Lake.L2
namespace Lake.L2
open PySem PySem.Spec
theorem Inv.thaw(I:Inv X aa U H s)(e:H a=some (.frz o u₀))(n:∀o u,X.y0 a≠some (.frz o u))(nf:∀o w,u₀≠.frz o w):Inv X aa U (upd H a u₀) s:=by
 have h1:=(show A0 X.prog X.w H s.heap a (.frz o u₀)from I.z9 a _ e)
 have ne:∀{b:Addr}{u:HO},H b=some u->(∀o w,u≠.frz o w)->upd H a u₀ b=some u:=λ{b u} z q=>by unfold upd;rw[if_neg (λx=>by subst x;rw[e]at z;cases z;exact q _ _ rfl)];exact z
 have no:∀{b:Addr},H b=none->upd H a u₀ b=none:=λ{b} z=>by unfold upd;rw[if_neg (λx=>by subst x;rw[e]at z;cases z)];exact z
 have st:∀{b:Addr}{u:HO},A0 X.prog X.w H s.heap b u->A0 X.prog X.w (upd H a u₀) s.heap b u:=λz=>z.Qm (λ_ _ _ q=>q) (λ_ q=>ne q (λ_ _=>nofun)) λ_ _ q=>ne q (λ_ _=>nofun)
 exact⟨I.ok,I.os,I.bare,⟨I.base.keep,I.base.slot,λb ob q z x=>no (I.base.free b ob q z x),I.base.there,λb xs q=>ne (I.base.zH b xs q) (λ_ _=>nofun),λb ob u q=>by
  have q':=I.base.zQ b ob u q;unfold upd;rw[if_neg (λx=>by subst x;exact n _ _ q)];exact q',λb ps q=>by
  obtain⟨m,z⟩:=I.base.zI b ps q;exact⟨m,ne z (λ_ _=>nofun)⟩⟩,I.loc,I.cell,no I.free,λx c q=>no (I.zV x c q),λp q=>⟨(I.pin p q).1,no (I.pin p q).2.1,(I.pin p q).2.2⟩,λb u q=>by
  by_cases z:b=a
  .subst z;rw[An]at q;cases q;exact st h1.2
  .unfold upd at q;rw[if_neg z]at q;exact st (I.z9 b u q),I.len⟩
theorem Inv.Xc(I:Inv X aa U H s)(e:H a=some (.lst xs)):∃o,Inv X aa U (upd H a (.frz o (.lst xs))) s:=by
 have h2:=(show A0 X.prog X.w H s.heap a (.lst xs)from I.z9 a _ e)
 obtain⟨_,_,_,_,ho⟩:=id h2;exact⟨_,I.write (x:=a) (e:=a) (t':=s.toks) (h':=s.heap) (by rw[e];exact True.intro) (.inl rfl) (λ_ _ _ z=>z) ⟨_,ho⟩ ⟨ho,h2⟩⟩
inductive Y2(td:TE)(U:St)(H:Hp)(Q:VK):Prop
 |mk (a xs:_) (h0:H a=some (.lst xs)) (h1:∀o,td U (upd H a (.frz o (.lst xs))) λv H1=>H1 a=some (.frz o (.lst xs))/\Q v (upd H1 a (.lst xs)))
theorem Ra{e:Expr}{td:TE}(h:PE X e td):PE X e (Y2 td):=by
 intro aa s U H Q I q;obtain⟨a,xs,ha,q⟩:=q;obtain⟨o,I2⟩:=I.Xc ha;refine thn (h aa s U _ _ I2 (q o)) λv s1 aj => ?_
 obtain⟨x,H1,I1,r1,h1,q1⟩:= aj;refine⟨x,_,I1.thaw h1 (λob u z=>by rw[I.base.zQ a ob u z]at ha;cases ha) (λ_ _=>nofun),r1,q1⟩
end Lake.L2
namespace PySem
open PyProof.Rows
namespace So
theorem lt_iff:∀a b:List Nat,Spec.ltCps a b=true↔a<b
 | [],[]=>by simp[Spec.ltCps]
 | [],b::bs=>by simp[Spec.ltCps]
 |a::as,[]=>by simp[Spec.ltCps]
 |a::as,b::bs=>by have:=lt_iff as bs;rw[List.cons_lt_cons_iff,<- this];rw[show Spec.ltCps (a::as) (b::bs)=(decide (a<b)||decide (a=b)&&Spec.ltCps as bs)from rfl];simp
def leS(a b:Str):Bool:=!Spec.ltCps b.cps.toList a.cps.toList
theorem D2{a b:Str}:leS a b=true↔a.cps.toList<=b.cps.toList:=by unfold leS;rw[<- List.not_lt,<- lt_iff];simp
def srt(ss:List Str):List Str:=ss.mergeSort leS
theorem Um(a b c:Str)(h:leS a b=true)(k:leS b c=true):leS a c=true:=D2.mpr (List.le_trans (D2.mp h) (D2.mp k))
theorem Jaw{a b:Str}(h:leS a b=true)(k:leS b a=true):a=b:=by have:=List.le_antisymm (D2.mp h) (D2.mp k);cases a;cases b;simpa using this
theorem NK:∀{x:Str}{r:List Str},risingS x r=true->List.Pairwise (λa b=>leS a b=true) (x::r)
 |x,[],_=>by simp
 |x,y::r,h=>by
  rw[risingS.eq_2,oy]at h;have p:=NK h.2;refine List.pairwise_cons.mpr ⟨λz m=>?_,p⟩;rcases oh.mp m with rfl|m
  .exact h.1
  .exact Um _ _ _ h.1 ((List.pairwise_cons.mp p).1 z m)
theorem Zc(ss:List Str):List.Pairwise (λa b=>leS a b=true) (srt ss):=List.pairwise_mergeSort Um (λa b=>by rw[pM,D2,D2];exact List.le_total _ _) ss
theorem Fc(ss:List Str):(srt ss).Perm ss:=List.mergeSort_perm ..
theorem Zf{a b:List Str}(h:a.Perm b)(k:List.Pairwise (λa b=>leS a b=true) a):a=srt b:=List.Perm.eq_of_pairwise (le:=λa b=>leS a b=true) (λ_ _ _ _=>Jaw) k (Zc b) (h.trans (Fc b).symm)
theorem Ze{a b:List Str}(h:a.Perm b)(k:sortedS a=true):a=srt b:=Zf h (by cases a with|nil=>exact .nil|cons x r=>exact NK k)
variable{E:Zcv}
theorem sortL{vs:List Value}{ss:List Str}{Q:Zcv}(x:StrsAre vs ss)(jr:vs.length<64)
  (h:∀(h':Heap)(out:List Value)(e:Nat),(∀b o,s.heap.get? b=some o->h'.get? b=some o)->h'.get? s.heap.objs.size=some (seqObj "list" out.toArray e)->StrsAre out (srt ss)->Q (.ref s.heap.objs.size) {s with heap:=h' }) :
  wpAny (model prog w) A (newList vs >>= λl=>holding [l] (call (.builtin "list.sort") [l]) >>= λ_=>ret l) (λaN s'=>∃v,aN=.done (.ret v)/\Q v s') E s:=by
 have hz:vs.length<=sizeLine:=by rw[sizeLine_eq];lia
 refine nM (wpAny_newList ?_ hz);refine nM (wpAny_holding ?_);have hD:(s.heap.push (seqObj "list" vs.toArray 0)).get? s.heap.objs.size=some (seqObj "list" vs.toArray 0):=n5 _ rfl;refine wpAny_call_entry (T:="list") slot_list_sort ⟨_,hD,rfl⟩ entry_list_sort ?_ (args_list_sort _);refine list_sort_treeK strKind_oneLt hD x.keysOf (λmQ mR rest e=>keyKind_strs (e▸x)) jr λaY pm y=>⟨_,rfl,nW ⟨_,rfl,?_⟩⟩
 obtain⟨nL,x',mB,mK⟩:=sorted_out_str x pm y;obtain⟨e,he⟩:=sortedHeap_at (out:=Array.map (λx=>x.2) (arrOf aY)) hD;refine h _ (Array.map (λx=>x.2) (arrOf aY)).toList e (λb o q=>?_) (by rw[Array.toArray_toList];exact he) (Ze mB mK▸x');rw[sortedHeap_old (oA (oa q)) (by rw[o5];exact Nat.lt_succ_of_lt (oa q))];exact nR _ q
theorem SJ{T:String}{r d:Addr}{n:Nat}{P:Nat->Value->Prop}{OK:Heap->Prop}{Q:List Value->Shared->Prop}(K:W.KdlSrc prog w T r d n P OK)(hh:A.handled=none)(ok:OK s.heap)(hn:n<=sizeLine)
  (h:∀(h':Heap)(tk:Nat)(ar:Array Value),(∀b o,s.heap.get? b=some o->h'.get? b=some o)->s.heap.objs.size<=h'.objs.size->ItemsOf P ar n->Q ar.toList {s with heap:=h',toks:=tk}):wpAny (model prog w) A (collect (.ref r)) Q E s:=by
 have hs:=K.there _ ok;have hN:(s.heap.push {cls:=Value.type "list",data:=.seq #[]}).get? s.heap.objs.size=some {cls:=Value.type "list",data:=.seq #[]}:=n5 _ rfl;have key:∀R:Result->Shared->Prop,(∀(h':Heap)(tk:Nat)(ar:Array Value)(c:Nat),(∀b o,b≠s.heap.objs.size->(s.heap.push {cls:=Value.type "list",data:=.seq #[]}).get? b=some o->h'.get? b=some o)->h'.get? s.heap.objs.size=some {cls:=.type "list",data:=.seq ar c}->ItemsOf P ar n->R (.ok (.ret (.ref s.heap.objs.size))) {s with heap:=h',toks:=tk})->codeAny (model prog w) A (.builtin "proto.collect" {pos:=[.ref r]}) R s:=λR hR=>by refine codeAny_builtin entry_proto_collect' ?_;unfold Builtin.«proto.collect»;refine nM (wpAny_newList ?_ (by simp));refine nW ⟨Code.quiet_builtin _ (by kernel_rfl),codeAny_builtin entry_list_iadd' ?_⟩;refine nM (wpAny_of_eq (a:=(Value.ref s.heap.objs.size,[Value.ref r])) rfl ?_);exact W.kdl_extend (A:=A) (s:={s with heap:=s.heap.push {cls:=Value.type "list",data:=.seq #[]} }) K hh (K.keep _ _ ok λb _ o e=>nR _ e) s.heap.objs.size (qu hs.1) (qu hs.2) _ 0 hN hR hn
 refine nM (wpAny_runValue (key _ λh' tk ar c kp e it=>?_));refine nM (wpAny_load e ?_);exact nW (h h' tk ar (λb o q=>kp b o (oA (oa q)) (nR _ q)) (Nat.le_of_lt (oa e)) it)
end So
end PySem
namespace Lake.L2
open PySem PySem.Spec PyProof.Rows
theorem NB:∀{ss:List Str}{us:List Value},Vals (ss.map V.str) us->StrsAre us ss
 | [],us,r=>by cases r;exact .nil
 |x::ss,us,r=>by cases r with|cons r1 r2 =>obtain⟨t,rfl⟩:=r1;exact .cons x t (NB r2)
theorem Np:∀{us:List Value}{ss:List Str},StrsAre us ss->Vals (ss.map V.str) us
 |_,_,.nil=>.nil
 |_,_,.cons y t h=>.cons ⟨t,rfl⟩ (Np h)
theorem Vq{ss:List Str}:(So.srt ss).length=ss.length:=(So.Fc ss).length_eq
theorem JI(hc:X.calm=true):BK X (.builtin "sorted") (λxs H Q=>∃a af ss,xs=[.ref a]/\Rd H a (.n af)/\(af.map λkv=>kV kv.1)=ss.map V.str/\ss.length<64/\∀l,H l=none->Q (.ref l) (upd H l (.lst ((So.srt ss).map V.str)))):=by
 intro aa s U H xs us Q I r h;obtain⟨p,af,ss,rfl,hp,hk,jr,q⟩:=h;obtain⟨u,rfl,rx⟩:=vals1 r;cases rx;obtain⟨z,hd,vs,aB,dd⟩:=E2 I.z9 hp;obtain⟨ep,da⟩:=dd.dictAt;have hlen:af.length=vs.length:=Paired.length aB;refine Calls.call_function_entry kind_sorted plain_sorted entry_sorted (args_sorted1 _) ?_;unfold Builtin.sorted;refine nM (wpAny_of_eq (a:=()) rfl ?_);refine nM (So.SJ (kdl_dict (ep:=ep) hd) (I.ok.hd hc) da (by rw[<- hlen];exact z) λh' tk ar kp le it=>?_);have x:=IK aB it;rw[hk]at x;have hz:ar.toList.length=ss.length:=by simpa using x.length.symm
 refine So.sortL (NB x) (by lia) λh2 out e lT he xo=>?_
 exact⟨.ref h'.objs.size,_,I.laid (t':=tk) (o:=.lst ((So.srt ss).map V.str)) (λb o q=>lT b o (kp b o q)) le ⟨by rw[sizeLine_eq,nX,Vq];lia,out,e,Np xo,he⟩,rfl,q _ (I.z9.fresh le)⟩
end Lake.L2
namespace Lake.L2
open PySem PySem.Spec
def eqZ(z:Str):Value->Bool
 |.str x _=>x==z
 |_=>false
theorem Om:MtR X "list.index" (λx vs H Q=>∃(l:Addr)(ss:List Str)(z:Str)(j:Nat),x=.ref l/\vs=[.str z]/\SqL X.K H l (ss.map V.str)/\ss[j]?=some z/\(∀m,m<j->ss[m]?≠some z)/\Q (.int ((j:Nat):Int)) H):=by
 intro aa s U H x vs v us Q I rx rv h;obtain⟨l,ss,z,j,rfl,rfl,hq,hj,fX,q⟩:=h;cases rx;obtain⟨u,rfl,ru⟩:=rv.one;obtain⟨tz,rfl⟩:=ru;obtain⟨its,rv,⟨⟨cls,dd,data,sl⟩,n,ho,hc,fu,hd⟩,hz⟩:=I.list hq;simp only at hc fu hd;subst hc fu hd;have at':∀{ss:List Str}{its:List Value},Vals (ss.map V.str) its->∀m (hm:m<its.length),∃x t,ss[m]?=some x/\its[m]=.str x t:=by
  intro ss
  induction ss with|nil=>intro its r m hm;cases r;simp at hm|cons x ss ih =>intro its r m hm;cases r with|cons r1 r2 =>obtain⟨t,rfl⟩:=r1;cases m with|zero=>exact⟨x,t,rfl,rfl⟩|succ m=>exact ih r2 m (by simpa using hm)
 have hlen:ss.length=its.length:=by simpa using rv.length
 have gK:j<its.length:=hlen▸(n6.mp hj).1;rw[nX,sizeLine_eq]at hz;refine call_meets F.slot_list_index ⟨_,ho,rfl⟩ F.entry_list_index (F.args_list_index_2 _ _) (SeqAt.list_indexAt l its.toArray n none sl (.str z tz) (eqZ z) j (by simpa using gK) (by lia) ?_ ?_) ⟨ho,λy hy=>?_,?_⟩
 .obtain⟨x,t,e1,e2⟩:=at' rv j gK;rw[hj]at e1;cases e1;simp[eqZ,e2]
 .intro m hm iD;have k9:m<its.length:=by simpa using hm
  obtain⟨x,t,e1,e2⟩:=at' rv m k9;have:=fX m iD;rw[e1]at this;have ne:x≠z:=λe=>this (by rw[e])
  simp[eqZ,e2,ne]
 .obtain⟨m,hm,rfl⟩:=qo.mp (List.mem_toArray.mp hy);obtain⟨x,t,e1,e2⟩:=at' rv m hm;rw[e2];exact SeqAt.EqAt.str_str x t z tz
 .exact⟨.int _,H,I.tok _,⟨_,rfl⟩,q⟩
end Lake.L2
namespace Lake.FL
open PySem PySem.Spec L2
inductive T where
 |l|v (b:Bool)|int (i:Int)|str (x:Str)
 |tup (ts:List T)|lst (ts:List T)
 |zX (ts:List T)
 |n (ks:List Key) (ts:List T)|dT (ks:List (List Key)) (ts:List T)
 |ins (C:Addr) (fs:List Str) (ts:List T)
 |dF (ks:List Key) (ts:List T)
 |ze (c:Str)
inductive FO where
 |lst (ts:List T)|n (ks:List Key) (ts:List T)|dT (ks:List (List Key)) (ts:List T)
 |ins (C:Addr) (fs:List Str) (os:List FO)|val (t:T)
 |yu (os:List FO)|yr (os:List FO)
 |dO (ks:List Key) (os:List FO)|la (p:Addr) (ts:List T)
inductive Sl where
 |val (t:T)|own (o:FO)|bor (o:FO)
abbrev FS:=List (Option Sl)
inductive Rv where
 |t (t:T)|nw (o:FO)|x (i:Nat)
inductive Out(α:Type) where
 |ok (a:α) (fs:FS)|exc (c:Str) (fs:FS)|bad
inductive SO where
 |nx (fs:FS)|ret (r:Rv) (fs:FS)|brk (fs:FS)|cnt (fs:FS)|exc (c:Str) (fs:FS)|bad
abbrev sS:=Rv->Rv->FS->Out Rv
abbrev sT:=FS->Out Rv
abbrev sU:=FS->Out (List Rv)
abbrev sV:=FS->Out Bool
abbrev sW:=T->FS->Option FS
abbrev sX:=FS->Out (List T)
abbrev sY:=Nat->Option V
abbrev sZ:=List (Option Nat)
inductive Tg where
 |no|fz|cl|q (b:Bool) (i:Nat) (π:List Nat)
structure Wd where
 o:Addr->Tg
def Wd.f(F:Wd)(a:Addr):Prop:=F.o a=.fz
def Wd.p(F:Wd)(a:Addr):Prop:=F.o a=.cl
instance:CoeFun Wd λ_=>Addr->Prop:=⟨Wd.f⟩
def Lf(F:Wd)(H:Hp)(F':Wd)(H':Hp):Prop:=∀a,F a->F' a/\H' a=H a
structure Le(F:Wd)(H:Hp)(F':Wd)(H':Hp):Prop where
 f:Lf F H F' H'
 p:∀a,F.p a->F'.p a/\H' a=H a
theorem Le.refl:Le F H F H:=⟨λ_ h=>⟨h,rfl⟩,λ_ h=>⟨h,rfl⟩⟩
theorem Le.trans(x:Le F H F1 H1)(y:Le F1 H1 F2 H2):Le F H F2 H2 :=
 ⟨λa h=>let⟨p,q⟩:=x.f a h;let⟨p2,q2⟩:=y.f a p;⟨p2,q2.trans q⟩,λa h=>let⟨p,q⟩:=x.p a h;let⟨p2,q2⟩:=y.p a p;⟨p2,q2.trans q⟩⟩
section
variable(K:Fg)
def KL(a:Addr)(vs:List V):Prop:=∃(o:Obj)(its:Array Value)(n:Nat),K.lookup a=some o/\o.cls=.type "list"/\o.dict=none/\o.data=.seq its n/\its.size<=sizeLine/\Vals vs its.toList
def StL(F:Wd)(H:Hp)(a:Addr)(vs:List V):Prop:=(F a/\Rd H a (.lst vs))\/KL K a vs
def StT(F:Wd)(H:Hp)(a:Addr)(vs:List V):Prop:=K=K/\F a/\H a=some (.tup vs)
end
theorem StL.sq(h:StL K F H a vs):SqL K H a vs:=by
 rcases h with⟨_,h⟩|h
 .exact .inl h
 .exact .inr h
theorem StT.sq(h:StT K F H a vs):SqT K H a vs:=SqT.of h.2.2
theorem Rd.same(h:Rd H a u)(e:H' a=H a):Rd H' a u:=by unfold Rd at *;rwa[e]
theorem StL.lf(l:Lf F H F' H')(h:StL K F H a vs):StL K F' H' a vs:=by
 rcases h with⟨f,h⟩|h
 .exact .inl ⟨(l a f).1,FL.Rd.same h (l a f).2⟩
 .exact .inr h
def Cs(K:Fg)(c:Str):Option Addr:=match nsIn K mainGlobals c with|some (some (.ref C))=>some C|_=>none
section
variable(K:Fg)(F:Wd)(H:Hp)
mutual
def Ay:T->V->Prop
 |.l,v=>v=.l
 |.v b,v=>v=.v b
 |.int i,v=>v=.int i
 |.str x,v=>v=.str x
 |.tup ts,v=>∃a vs,v=.ref a/\StT K F H a vs/\Ah ts vs
 |.lst ts,v=>∃a vs,v=.ref a/\F a/\H a=some (.lst vs)/\Ah ts vs
 |.zX ts,v=>∃a vs,v=.ref a/\StL K F H a vs/\Ah ts vs
 |.n ks ts,v=>∃a af,v=.ref a/\F a/\Rd H a (.n af)/\af.map (·.1)=ks/\Ah ts (af.map (·.2))
 |.dT ks ts,v=>∃a af,v=.ref a/\F a/\H a=some (.dT af)/\af.map (·.1)=ks/\Ah ts (af.map (·.2))
 |.ins C fs ts,v=>∃a dx af,v=.ref a/\F a/\H a=some (.ins C dx af)/\af.map (·.1)=fs/\Ah ts (af.map (·.2))
 |.dF ks ts,v=>∃a af,v=.ref a/\F a/\(∃o,H a=some (.frz o (.n af)))/\af.map (·.1)=ks/\Ah ts (af.map (·.2))
 |.ze c,v=>∃a C,v=.ref a/\F a/\H a=some (exO (.ref C) a)/\Cs K c=some C
def Ah:List T->List V->Prop
 | [],vs=>vs=[]
 |t::ts,vs=>∃v r,vs=v::r/\Ay t v/\Ah ts r
end
end
mutual
def toT:FO->T
 |.val t=>t
 |.lst ts=>.lst ts
 |.n ks ts=>.n ks ts
 |.dT ks ts=>.dT ks ts
 |.ins C fs os=>.ins C fs (K5 os)
 |.yu os=>.lst (K5 os)
 |.yr os=>.tup (K5 os)
 |.dO ks os=>.n ks (K5 os)
 |.la _ ts=>.lst ts
def K5:List FO->List T
 | []=>[]
 |o::os=>toT o::K5 os
end
variable{i i':Nat}{π fH:List Nat}
variable{B:sY}
mutual
theorem Ay.lf(l:Lf F H F' H'):∀{t:T}{v:V},Ay K F H t v->Ay K F' H' t v
 |.l,_,h|.v _,_,h|.int _,_,h|.str _,_,h=>h
 |.tup ts,_,h=>by exact let⟨a,vs,e,s,r⟩:=h;⟨a,vs,e,⟨rfl,(l a s.2.1).1,(l a s.2.1).2.trans s.2.2⟩,Ah.lf l r⟩
 |.lst ts,_,h=>by exact let⟨a,vs,e,f,s,r⟩:=h;⟨a,vs,e,(l a f).1,(l a f).2.trans s,Ah.lf l r⟩
 |.zX ts,_,h=>by exact let⟨a,vs,e,s,r⟩:=h;⟨a,vs,e,s.lf l,Ah.lf l r⟩
 |.n ks ts,_,h=>by exact let⟨a,af,e,f,s,k,r⟩:=h;⟨a,af,e,(l a f).1,FL.Rd.same s (l a f).2,k,Ah.lf l r⟩
 |.dT ks ts,_,h=>by exact let⟨a,af,e,f,s,k,r⟩:=h;⟨a,af,e,(l a f).1,(l a f).2.trans s,k,Ah.lf l r⟩
 |.ins C fs ts,_,h=>by exact let⟨a,dx,af,e,f,s,k,r⟩:=h;⟨a,dx,af,e,(l a f).1,(l a f).2.trans s,k,Ah.lf l r⟩
 |.dF ks ts,_,h=>by exact let⟨a,af,e,f,⟨o,s⟩,k,r⟩:=h;⟨a,af,e,(l a f).1,⟨o,(l a f).2.trans s⟩,k,Ah.lf l r⟩
 |.ze c,_,h=>by exact let⟨a,C,e,f,s,k⟩:=h;⟨a,C,e,(l a f).1,(l a f).2.trans s,k⟩
theorem Ah.lf(l:Lf F H F' H'):∀{ts:List T}{vs:List V},Ah K F H ts vs->Ah K F' H' ts vs
 | [],_,h=>h
 |t::ts,_,h=>by exact let⟨v,r,e,h1,h2⟩:=h;⟨v,r,e,Ay.lf l h1,Ah.lf l h2⟩
end
theorem Ay.le(l:Le F H F' H')(h:Ay K F H t v):Ay K F' H' t v:=h.lf l.f
theorem Ah.le(l:Le F H F' H')(h:Ah K F H ts vs):Ah K F' H' ts vs:=h.lf l.f
theorem Ah.iff:∀{ts:List T}{vs:List V},Ah K F H ts vs↔vs.length=ts.length/\∀(k:Nat)(t:T)(v:V),ts[k]?=some t->vs[k]?=some v->Ay K F H t v
 | [],vs=>by simp[Ah]
 |t::ts,[]=>by simp[Ah]
 |t::ts,v::vs=>by
  simp only[Ah,List.cons.injEq,n8,Nat.add_right_cancel_iff];constructor
  .rintro⟨_,r,⟨rfl,rfl⟩,h,h'⟩
   obtain⟨l,q⟩:=Ah.iff.mp h';refine⟨l,λk t v e1 e2=>?_⟩;cases k with|zero=>cases e1;cases e2;exact h|succ k=>exact q k t v e1 e2
  .exact λ⟨l,q⟩=>⟨v,vs,⟨rfl,rfl⟩,q 0 t v rfl rfl,Ah.iff.mpr ⟨l,λk=>q (k+1)⟩⟩
theorem Ah.len(h:Ah K F H ts vs):vs.length=ts.length:=(Ah.iff.mp h).1
theorem Ah.at(h:Ah K F H ts vs)(e:ts[i]?=some t):∃v,vs[i]?=some v/\Ay K F H t v:=by obtain⟨l,q⟩:=Ah.iff.mp h;have hi:=l▸(n6.mp e).1;exact⟨vs[i],nO hi,q i t _ e (nO hi)⟩
theorem Ah.app:∀{ts us:List T}{vs ws:List V},Ah K F H ts vs->Ah K F H us ws->Ah K F H (ts++us) (vs++ws)
 | [],_,_,_,h,h'=>by simp only[Ah]at h;subst h;exact h'
 |t::ts,us,_,ws,h,h'=>by obtain⟨v,r,rfl,h1,h2⟩:=h;exact⟨v,r++ws,rfl,h1,Ah.app h2 h'⟩
theorem Ah.one(h:Ay K F H t v):Ah K F H [t] [v]:=by exact⟨v,[],rfl,h,rfl⟩
theorem Ah.take(n:Nat)(h:Ah K F H ts vs):Ah K F H (ts.take n) (vs.take n):=by
 obtain⟨l,q⟩:=Ah.iff.mp h;refine Ah.iff.mpr ⟨by simp[l],λk t v e1 e2=>?_⟩;rw[pG]at e1 e2;split at e1
 .exact q k t v e1 (by simp_all)
 .cases e1
theorem Ah.drop(n:Nat)(h:Ah K F H ts vs):Ah K F H (ts.drop n) (vs.drop n):=by obtain⟨l,q⟩:=Ah.iff.mp h;refine Ah.iff.mpr ⟨by simp[l],λk t v e1 e2=>q (n+k) t v (by simpa using e1) (by simpa using e2)⟩
theorem Ah.set(r:Ay K F H t v)(n:Nat)(h:Ah K F H ts vs):Ah K F H (ts.set n t) (vs.set n v):=by
 obtain⟨l,q⟩:=Ah.iff.mp h;refine Ah.iff.mpr ⟨by simp[l],λk t' v' e1 e2=>?_⟩;rw[qj]at e1 e2;split at e1
 .simp_all
 .exact q k t' v' e1 (by simp_all)
theorem Ah.rev:∀{ts:List T}{vs:List V},Ah K F H ts vs->Ah K F H ts.reverse vs.reverse
 | [],_,h=>by simp only[Ah]at h;subst h;simp[Ah]
 |t::ts,_,h=>by obtain⟨v,r,rfl,h1,h2⟩:=h;rw[List.reverse_cons,List.reverse_cons];exact Ah.app (Ah.rev h2) (Ah.one h1)
inductive Sh where
 |lst|tup|n (ks:List Key)|dT (ks:List (List Key))|ins (C:Addr) (fs:List Str)|la (p:Addr)
def FO.vw:FO->Option (Sh×List FO)
 |.val _=>none
 |.lst ts=>some (.lst,ts.map .val)
 |.n ks ts=>some (.n ks,ts.map .val)
 |.dT ks ts=>some (.dT ks,ts.map .val)
 |.ins C fs os=>some (.ins C fs,os)
 |.yu os=>some (.lst,os)
 |.yr os=>some (.tup,os)
 |.dO ks os=>some (.n ks,os)
 |.la p ts=>some (.la p,ts.map .val)
def Has(a:Addr)(h:Option HO):Sh->List V->Prop
 |.lst,vs=>h=some (.lst vs)
 |.tup,vs=>h=some (.tup vs)
 |.n ks,vs=>∃af,h=some (.n af)/\af.map (·.1)=ks/\af.map (·.2)=vs
 |.dT ks,vs=>∃af,h=some (.dT af)/\af.map (·.1)=ks/\af.map (·.2)=vs
 |.ins C fs,vs=>∃dx af,h=some (.ins C dx af)/\af.map (·.1)=fs/\af.map (·.2)=vs
 |.la p,vs=>a=p/\h=some (.lst vs)
inductive A6(K:Fg)(F:Wd)(H:Hp)(b:Bool)(i:Nat):List Nat->FO->V->Prop
 |val {π t v} (r:Ay K F H t v):A6 K F H b i π (.val t) v
 |nd {π o sh os a vs} (e:o.vw=some (sh,os)) (f:F.o a=.q b i π) (h:Has a (H a) sh vs) (l:vs.length=os.length) (c:∀(k:Nat)(o:FO)(v:V),os[k]?=some o->vs[k]?=some v->A6 K F H b i (k::π) o v):A6 K F H b i π o (.ref a)
theorem A6.inv{os:List FO}(h:A6 K F H b i π o v)(e:o.vw=some (sh,os)):∃a vs,v=.ref a/\F.o a=.q b i π/\Has a (H a) sh vs/\vs.length=os.length/\∀(k:Nat)(o:FO)(v:V),os[k]?=some o->vs[k]?=some v->A6 K F H b i (k::π) o v:=by cases h with|val r=>cases e|nd e' f h l c=>rw[e]at e';cases e';exact⟨_,_,rfl,f,h,l,c⟩
theorem A6.t{t:T}(h:A6 K F H b i π (.val t) v):Ay K F H t v:=by cases h with|val r=>exact r|nd e=>cases e
theorem A6.vals(h:A6 K F H b i π o v)(e:o.vw=some (sh,ts.map .val)):∃a vs,v=.ref a/\F.o a=.q b i π/\Has a (H a) sh vs/\Ah K F H ts vs:=by obtain⟨a,vs,e,f,h,l,c⟩:=h.inv e;exact⟨a,vs,e,f,h,Ah.iff.mpr ⟨by simpa using l,λk t v e1 e2=>(c k (.val t) v (by simp[e1]) e2).t⟩⟩
theorem A6.of(e:o.vw=some (sh,ts.map .val))(f:F.o a=.q b i π)(h:Has a (H a) sh vs)(r:Ah K F H ts vs):A6 K F H b i π o (.ref a):=by
 obtain⟨l,q⟩:=Ah.iff.mp r;refine .nd e f h (by simpa using l) λk o v e1 e2=>?_
 rw[ou,nY]at e1;obtain⟨t,e1,rfl⟩:=e1;exact .val (q k t v e1 e2)
theorem A6.mv(hm:∀a ρ,F.o a=.q b i (ρ++π)->F'.o a=.q b' i' (ρ++fH)/\H' a=H a)(l:Lf F H F' H')(h:A6 K F H b i π o v):A6 K F' H' b' i' fH o v:=by induction h generalizing fH with|val r=>exact .val (r.lf l)|nd e f h n c ih =>obtain⟨q1,q2⟩:=hm _ [] f;exact .nd e q1 (q2▸h) n λk o v e1 e2=>ih k o v e1 e2 λa ρ z=>by simpa using hm a (ρ++[k]) (by simpa using z)
theorem Ed:∀ts:List T,K5 (ts.map .val)=ts
 | []=>rfl
 |t::ts=>by rw[nQ,K5,Ed ts];rfl
theorem Ka:∀os:List FO,K5 os=os.map toT
 | []=>rfl
 |o::os=>by rw[K5,Ka os];rfl
theorem A6.frz(hm:∀a ρ,F.o a=.q b i (ρ++π)->F' a/\H' a=H a)(l:Lf F H F' H')(h:A6 K F H b i π o v):Ay K F' H' (toT o) v:=by
 induction h with
 |val r=>exact r.lf l
 |@nd π o sh os a vs e f h n c ih =>
  obtain⟨q1,q2⟩:=hm _ [] f;rw[<- q2]at h;have r:Ah K F' H' (K5 os) vs:=Ah.iff.mpr ⟨by rw[Ka];simpa using n,λk t v e1 e2=>by rw[Ka,ou,nY]at e1;obtain⟨o,e1,rfl⟩:=e1;exact ih k o v e1 e2 λa ρ z=>hm a (ρ++[k]) (by simpa using z)⟩;cases o<;>cases e<;>(try rw[Ed]at r)<;>simp only[toT,Ay]<;>first
   |exact⟨a,vs,rfl,q1,h,r⟩
   |exact⟨a,vs,rfl,⟨rfl,q1,h⟩,r⟩
   |exact⟨a,vs,rfl,q1,h.2,r⟩
   |exact let⟨af,h,e1,e2⟩:=h;⟨a,af,rfl,q1,.inl h,e1,e2▸r⟩
   |exact let⟨af,h,e1,e2⟩:=h;⟨a,af,rfl,q1,h,e1,e2▸r⟩
   |exact let⟨dx,af,h,e1,e2⟩:=h;⟨a,dx,af,rfl,q1,h,e1,e2▸r⟩
def SlR(K:Fg)(F:Wd)(B:sY)(H:Hp)(i:Nat):Sl->V->Prop
 |.val t,v=>Ay K F H t v
 |.own o,v=>A6 K F H true i [] o v
 |.bor o,v=>A6 K F H true i [] o v/\B i=some v
structure Okk(K:Fg)(F:Wd)(B:sY)(H:Hp)(fs:FS)(U:St):Prop where
 ln:U.length=fs.length
 sl:∀(i:Nat)(s:Sl),fs[i]?=some (some s)->∃v,U[i]?=some (some v)/\SlR K F B H i s v
 td:∀a,H a=none->F.o a=.no
theorem SlR.mv(hm:∀a ρ,F.o a=.q true i ρ->F'.o a=.q true i ρ/\H' a=H a)(l:Lf F H F' H')(h:SlR K F B H i s v):SlR K F' B H' i s v:=by cases s with|val t=>exact Ay.lf l h|own o=>exact A6.mv (π:=[]) (λa ρ z=>hm a _ z) l h|bor o=>exact⟨A6.mv (π:=[]) (λa ρ z=>hm a _ z) l h.1,h.2⟩
theorem Okk.set(h:Okk K F B H fs U)(l:Lf F H F' H')(hm:∀a j ρ,j≠i->F.o a=.q true j ρ->F'.o a=.q true j ρ/\H' a=H a)(td:∀a,H' a=none->F'.o a=.no)
  (hs:∀s,x=some s->∃v,y=some v/\SlR K F' B H' i s v):Okk K F' B H' (fs.set i x) (U.set i y):=by
 refine⟨by simp[h.ln],λj s e=>?_,td⟩;have hn:=h.ln;rw[qj]at e ⊢;split at e
 .rename_i fA;subst fA;split at e
  .obtain⟨v,rfl,r⟩:=hs s (by simpa using e);rw[if_pos rfl,if_pos (by lia)];exact⟨v,rfl,r⟩
  .cases e
 next fA=>rw[if_neg fA];obtain⟨v,e1,r⟩:=h.sl j s e;exact⟨v,e1,r.mv (λa ρ z=>hm a j ρ (λq=>fA q.symm) z) l⟩
theorem Okk.to(h:Okk K F B H fs U)(l:Lf F H F' H')(hm:∀a j ρ,F.o a=.q true j ρ->F'.o a=.q true j ρ/\H' a=H a)(td:∀a,H' a=none->F'.o a=.no):Okk K F' B H' fs U :=
 ⟨h.ln,λj s e=>let⟨v,e1,r⟩:=h.sl j s e;⟨v,e1,r.mv (λa ρ z=>hm a j ρ z) l⟩,td⟩
structure Xp where
 p:Wd->(sY)->Hp->Str->FS->Prop
 mono:∀{F:Wd}{B:sY}{H:Hp}{c:Str}{fs:FS}{F':Wd}{H':Hp},p F B H c fs->Le F H F' H'->p F' B H' c fs
def Xp.no:Xp:=⟨λ_ _ _ _ _=>False,λh _=>h⟩
def sat(Z:Xp)(B:sY){α β:Type}(R:Wd->Hp->FS->α->β->Prop)(F:Wd)(H:Hp)(o:Out α)(Q:β->Hp->Prop):Prop :=
 match o with|.ok a fs=>∀F' H' b,Le F H F' H'->R F' H' fs a b->Q b H'|.exc c fs=>Z.p F B H c fs|.bad=>False
theorem sat.le(h:sat Z B R F H o Q)(l:Le F H F' H'):sat Z B R F' H' o Q:=by
 cases o with
 |ok a fs=>exact λF2 H2 b l2 r=>h F2 H2 b (l.trans l2) r
 |exc c fs=>exact Z.mono h l
 |bad=>exact h
def Out.bind{α β:Type}(o:Out α)(k:α->FS->Out β):Out β:=match o with|.ok a fs=>k a fs|.exc c fs=>.exc c fs|.bad=>.bad
theorem sat.imp{Z:Xp}{α β:Type}{R:Wd->Hp->FS->α->β->Prop}{F:Wd}{H:Hp}{o:Out α}{Q Q':β->Hp->Prop}(h:sat Z B R F H o Q)(i:∀b H,Q b H->Q' b H):sat Z B R F H o Q':=by
 cases o with
 |ok a fs=>exact λF2 H2 b l r=>i _ _ (h F2 H2 b l r)
 |exc c fs=>exact h
 |bad=>exact h
theorem Ar{R2:Wd->Hp->FS->γ->δ->Prop}
  (h:sat Z B R2 F H (o.bind k) Q) (hk:∀a fs F' H' b,Le F H F' H'->R1 F' H' fs a b->sat Z B R2 F' H' (k a fs) Q->Q' b H'):sat Z B R1 F H o Q':=by
 cases o with
 |ok a fs=>exact λF2 H2 b l r=>hk a fs F2 H2 b l r (sat.le h l)
 |exc c fs=>exact h
 |bad=>exact h
def Yu(K:Fg)(F:Wd)(H:Hp)(U:St)(k:Nat):Rv->V->Prop
 |.t t,v=>Ay K F H t v
 |.nw o,v=>A6 K F H false k [] o v
 |.x i,v=>U[i]?=some (some v)
def RR(K:Fg)(B:sY)(U:St)(F:Wd)(H:Hp)(fs:FS)(r:Rv)(u:V):Prop:=Okk K F B H fs U/\Yu K F H U 0 r u
def Cv(K:Fg)(F:Wd)(H:Hp)(U:St):Rv->V->Prop
 |.t t,v=>Ay K F H t v
 |.nw _,_=>False
 |.x i,v=>U[i]?=some (some v)
def Out.bnd{α:Type}(o:Out Rv)(k:Rv->FS->Out α):Out α:=o.bind λr fs=>match r with|.nw _=>.bad|.t t=>k (.t t) fs|.x i=>k (.x i) fs
theorem Cv.le(h:Cv K F H U r u)(l:Le F H F' H'):Cv K F' H' U r u:=by cases r with|t t=>exact Ay.le l h|nw o=>exact h|x i=>exact h
theorem Cv.rr(h:Cv K F H U r u):Yu K F H U k r u:=by cases r with|nw o=>exact h.elim|_=>exact h
theorem RR.of(h:Okk K F B H fs U)(q:Cv K F H U r u):RR K B U F H fs r u:=⟨h,q.rr⟩
theorem RR.ok(h:RR K B U F H fs r u):Okk K F B H fs U:=h.1
theorem As{R2:Wd->Hp->FS->γ->δ->Prop}
  (h:sat Z B R2 F H (o.bnd k) Q) (hk:∀r fs F' H' u,Le F H F' H'->Okk K F' B H' fs U->Cv K F' H' U r u->sat Z B R2 F' H' (k r fs) Q->Q' u H'):sat Z B (RR K B U) F H o Q':=by
 refine Ar h λr fs F' H' u l q s=>?_
 cases r with|nw o=>exact s.elim|t t=>exact hk (.t t) fs F' H' u l q.1 q.2 s|x i=>exact hk (.x i) fs F' H' u l q.1 q.2 s
inductive tF(K:Fg)(Z:Xp)(f:sT)(U:St)(H:Hp)(Q:VK):Prop
 |mk (F:Wd) (B:sY) (fs:FS) (h0:Okk K F B H fs U) (h1:sat Z B (RR K B U) F H (f fs) Q)
def RB(K:Fg)(B:sY)(U:St):Wd->Hp->FS->Bool->Bool->Prop:=λF H fs b b'=>Okk K F B H fs U/\b'=b
inductive tT(K:Fg)(Z:Xp)(f:sV)(U:St)(H:Hp)(Q:Bool->Hp->Prop):Prop
 |mk (F:Wd) (B:sY) (fs:FS) (h0:Okk K F B H fs U) (h1:sat Z B (RB K B U) F H (f fs) Q)
def IC(K:Fg)(F:Wd)(H:Hp)(U:St):List Rv->List V->Prop
 | [],vs=>vs=[]
 |r::rs,vs=>∃v w,vs=v::w/\Cv K F H U r v/\IC K F H U rs w
def RA(K:Fg)(B:sY)(U:St):Wd->Hp->FS->List Rv->List V->Prop:=λF H fs rs vs=>Okk K F B H fs U/\IC K F H U rs vs
inductive tA(K:Fg)(Z:Xp)(f:sU)(U:St)(H:Hp)(Q:List V->Hp->Prop):Prop
 |mk (F:Wd) (B:sY) (fs:FS) (h0:Okk K F B H fs U) (h1:sat Z B (RA K B U) F H (f fs) Q)
def FE(X:Cx)(Z:Xp)(e:Expr)(f:sT):Prop:=PE X e (tF X.K Z f)
def FT(X:Cx)(Z:Xp)(e:Expr)(f:sV):Prop:=PT X e (tT X.K Z f)
def FA(X:Cx)(Z:Xp)(es:List Expr)(f:sU):Prop:=PA X es (tA X.K Z f)
theorem Ax(h:PE X e t)(i:∀U H Q,t' U H Q->t U H Q):PE X e t':=λaa s U H Q I q=>h aa s U H Q I (i _ _ _ q)
theorem I0(h:PT X e t)(i:∀U H Q,t' U H Q->t U H Q):PT X e t':=λaa s U H Q I q=>h aa s U H Q I (i _ _ _ q)
theorem Ls(h:PA X e t)(i:∀U H Q,t' U H Q->t U H Q):PA X e t':=λpos aa s U H Q I q=>h pos aa s U H Q I (i _ _ _ q)
theorem BV(h:PS X e t)(i:∀D U H,t' D U H->t D U H):PS X e t':=λaa s U H D I q=>h aa s U H D I (i _ _ _ q)
theorem NT(h:PSs X e t)(i:∀D U H,t' D U H->t D U H):PSs X e t':=λaa s U H D I q=>h aa s U H D I (i _ _ _ q)
def Wd.tag(F:Wd)(p:Addr)(t:Tg):Wd:=⟨λa=>if a=p then t else F.o a⟩
def reT(b:Bool)(i:Nat)(g:List Nat->Tg):Tg->Tg
 |.q c j ρ=>if c=b/\j=i then g ρ else .q c j ρ
 |t=>t
def Wd.re(F:Wd)(b:Bool)(i:Nat)(g:List Nat->Tg):Wd:=⟨λa=>reT b i g (F.o a)⟩
variable{K:Fg}{Z:Xp}{F:Wd}{H:Hp}{U:St}{fs:FS}{p a:Addr}{o:HO}{t:Tg}{j:Nat}{g:List Nat->Tg}{ob:FO}
theorem NL:reT b i g (.q b i ρ)=g ρ:=by simp[reT]
theorem Li(h:¬(c=b/\j=i)):reT b i g (.q c j ρ)=.q c j ρ:=by simp only[reT];rw[if_neg h]
theorem A3:(F.tag p t).o p=t:=by simp[Wd.tag]
theorem Bo(h:a≠p):(F.tag p t).o a=F.o a:=by simp[Wd.tag,h]
theorem Le.re:Le F H (F.re b i g) H:=⟨λa f=>⟨by show reT _ _ _ (F.o a)=_;rw[show F.o a=_ from f];rfl,rfl⟩,λa f=>⟨by show reT _ _ _ (F.o a)=_;rw[show F.o a=_ from f];rfl,rfl⟩⟩
theorem Bp(h:upd H p o a=none):a≠p/\H a=none:=by
 by_cases e:a=p
 .rw[e,An]at h;cases h
 .rw[Al e]at h;exact⟨e,h⟩
theorem Okk.fresh(h:Okk K F B H fs U)(hp:H p=none)(hn:F.o a≠.no):a≠p:=λe=>hn (e▸h.td p hp)
theorem Okk.DQ(h:Okk K F B H fs U)(hp:H p=none):Le F H (F.tag p t) (upd H p o) :=
 ⟨λa f=>have q:=h.fresh hp (by rw[show F.o a=_ from f];nofun);⟨(Bo q).trans f,Al q⟩,λa f=>have q:=h.fresh hp (by rw[show F.o a=_ from f];nofun);⟨(Bo q).trans f,Al q⟩⟩
theorem Okk.alloc(h:Okk K F B H fs U)(hp:H p=none):Okk K (F.tag p t) B (upd H p o) fs U :=
 h.to (h.DQ hp).f (λa j ρ z=>have q:=h.fresh hp (by rw[z];nofun);⟨(Bo q).trans z,Al q⟩) λa e=>(Bo (Bp e).1).trans (h.td a (Bp e).2)
theorem Okk.re(h:Okk K F B H fs U):Okk K (F.re false i g) B H fs U :=
 h.to Le.re.f (λa j ρ z=>⟨by show reT _ _ _ (F.o a)=_;rw[z];exact Li (by simp),rfl⟩) λa e=>by show reT _ _ _ (F.o a)=_;rw[h.td a e];rfl
theorem Hy{l:List α}(h:l[i]?=some x):l.set i x=l:=by obtain⟨h',rfl⟩:=n6.mp h;exact List.set_getElem_self h'
theorem Okk.reS(h:Okk K F B H fs U)(e:U[i]?=some y)(hs:∀s,x=some s->∃v,y=some v/\SlR K (F.re true i g) B H i s v):Okk K (F.re true i g) B H (fs.set i x) U:=by have:=h.set Le.re.f (λa j ρ hj z=>⟨by show reT _ _ _ (F.o a)=_;rw[z];exact Li (by simp[hj]),rfl⟩) (λa e=>by show reT _ _ _ (F.o a)=_;rw[h.td a e];rfl) hs;rwa[Hy e]at this
theorem CN(ok:Okk K F B H fs U)(hp:H p=none)(s:sat Z B (RR K B U) F H (.ok (.nw ob) fs) Q)(e:ob.vw=some (sh,ts.map .val))(h:Has p (some o) sh vs)(r:Ah K F H ts vs):Q (.ref p) (upd H p o) :=
 s _ _ _ (ok.DQ hp) ⟨ok.alloc hp,.of e A3 (by rwa[An]) (r.le (ok.DQ hp))⟩
theorem G5{t:T}(ok:Okk K F B H fs U)(hp:H p=none)(s:sat Z B (RR K B U) F H (.ok (.t t) fs) Q)(r:Ay K (F.tag p .fz) (upd H p o) t (.ref p)):Q (.ref p) (upd H p o) :=
 s _ _ _ (ok.DQ hp) ⟨ok.alloc hp,r⟩
def Sl.put:Sl->FO->Sl
 |.own _,o=>.own o
 |.bor _,o=>.bor o
 |.val t,_=>.val t
def Aq(fs:FS)(i:Nat):Option FO:=match fs[i]? with|some (some (.own o))=>some o|some (some (.bor o))=>some o|_=>none
def putAt(fs:FS)(i:Nat)(o:FO):FS:=match fs[i]? with|some (some s)=>fs.set i (some (s.put o))|_=>fs
meta theorem Okk.own(h:Okk K F B H fs U)(e:Aq fs i=some ob):∃v,U[i]?=some (some v)/\A6 K F H true i [] ob v:=by
 unfold Aq at e;split at e
 next es=>cases e;exact h.sl _ _ es
 next es=>cases e;exact let⟨v,e1,r⟩:=h.sl _ _ es;⟨v,e1,r.1⟩
 .cases e
theorem Okk.at(h:Okk K F B H fs U)(r:U[i]?=some (some u))(e:Aq fs i=some ob):A6 K F H true i [] ob u:=by obtain⟨v,e1,q⟩:=h.own e;rw[r]at e1;cases e1;exact q
theorem Okk.put(h:Okk K F B H fs U)(e:Aq fs i=some ob)(l:Lf F H F' H')(hm:∀a j ρ,j≠i->F.o a=.q true j ρ->F'.o a=.q true j ρ/\H' a=H a)(td:∀a,H' a=none->F'.o a=.no)
  (r:∀v,U[i]?=some (some v)->A6 K F' H' true i [] ob' v):Okk K F' B H' (putAt fs i ob') U:=by
 have key:∀s,fs[i]?=some (some s)->(∀v,U[i]?=some (some v)->SlR K F B H i s v->SlR K F' B H' i (s.put ob') v)->Okk K F' B H' (putAt fs i ob') U:=λs es hs=>by obtain⟨v,e1,q⟩:=h.sl i s es;have:=h.set (x:=some (s.put ob')) l hm td (λs' e=>by cases e;exact⟨v,rfl,hs v e1 q⟩);rw[Hy e1]at this;unfold putAt;rwa[es]
 unfold Aq at e;split at e
 next es=>exact key _ es λv e1 _=>r v e1
 next es=>exact key _ es λv e1 q=>⟨r v e1,q.2⟩
 .cases e
theorem C4(f:F.o a=.q true i π):Le F H F (upd H a o) :=
 ⟨λb z=>⟨z,Al λe=>by rw[e]at z;exact nomatch f.symm.trans z⟩,λb z=>⟨z,Al λe=>by rw[e]at z;exact nomatch f.symm.trans z⟩⟩
theorem Okk.upd(h:Okk K F B H fs U)(e:Aq fs i=some ob)(f:F.o a=.q true i π)(r:∀v,U[i]?=some (some v)->A6 K F (upd H a o) true i [] ob' v):Okk K F B (L2.upd H a o) (putAt fs i ob') U :=
 h.put e (C4 f).f (λb j ρ hj z=>⟨z,Al λe=>hj (by rw[e,f]at z;cases z;rfl)⟩) (λb z=>h.td b (Bp z).2) r
theorem Okk.updV(h:Okk K F B H fs U)(e:Aq fs i=some ob)(r:U[i]?=some (some (.ref a)))(f:F.o a=.q true i [])(ev:ob'.vw=some (sh,ts.map .val))(hs:Has a (some o) sh vs)(rt:Ah K F H ts vs):Okk K F B (L2.upd H a o) (putAt fs i ob') U :=
 h.upd e f λv z=>by rw[r]at z;cases z;exact .of ev f (by rw[An];exact hs) (rt.le (C4 f))
def Aa(i:Nat):sT:=λfs=>match fs[i]? with|some (some (.val t))=>.ok (.t t) fs|some (some (.own _))=>.ok (.x i) fs|some (some (.bor _))=>.ok (.x i) fs|_=>.bad
def gc(t:T):sT:=λfs=>.ok (.t t) fs
meta theorem fe_v(i:Nat)(hN:X.N[i]?=some x:=by rfl)(hv:Vis X.env.scope x:=by first|exact Or.inl rfl|exact Or.inr (Or.inl rfl)|exact Or.inr (Or.inr rfl))(hd:Zdb x:=by decide)
  (cq:(x==("__classdict__":Str))=false:=by decide):FE X Z (.Name x pos) (Aa i):=by
 refine Ax (pv i hN hv hd cq) λU H Q aj=>?_
 obtain⟨F,B,fs,ok,s⟩:= aj;unfold Aa at s;split at s
 next es=>exact let⟨u,e1,q⟩:=ok.sl _ _ es;⟨u,e1,s F H u Le.refl ⟨ok,q⟩⟩
 next es=>exact let⟨u,e1,q⟩:=ok.sl _ _ es;⟨u,e1,s F H u Le.refl ⟨ok,e1⟩⟩
 next es=>exact let⟨u,e1,q⟩:=ok.sl _ _ es;⟨u,e1,s F H u Le.refl ⟨ok,e1⟩⟩
 .exact s.elim
theorem Yr(t:T)(h:PE X e (tC v))(r:∀K F H,Ay K F H t v):FE X Z e (gc t) :=
 Ax h λU H Q ⟨F,B,fs,ok,s⟩=>s F H v Le.refl (RR.of ok (r _ _ _))
theorem JbG:FE X Z (.Constant (.int i) j pos) (gc (.int i)):=Yr _ Lq λ_ _ _=>rfl
theorem fe_bl:FE X Z (.Constant (.bool b) j pos) (gc (.v b)):=Yr _ pe_bl λ_ _ _=>rfl
theorem Jbv:FE X Z (.Constant .none j pos) (gc .l):=Yr _ ZY λ_ _ _=>rfl
theorem Jbs:FE X Z (.Constant (.str x) j pos) (gc (.str x)):=Yr _ ZW λ_ _ _=>rfl
theorem JbH(h:∃t,X.mg x=some (.int i t))(hg:Gl X x:=by rfl)(hd:Zdb x:=by decide):FE X Z (.Name x pos) (gc (.int i)):=Yr _ (pe_gI h hg hd) λ_ _ _=>rfl
theorem fe_gS(h:∃t,X.mg x=some (.str z t))(hg:Gl X x:=by rfl)(hd:Zdb x:=by decide):FE X Z (.Name x pos) (gc (.str z)):=Yr _ (pe_gS h hg hd) λ_ _ _=>rfl
def fz(f:sT):sT:=λfs=>(f fs).bind λr fs=>match r with|.t t=>.ok (.t t) fs|.nw o=>.ok (.t (toT o)) fs|.x i=>match fs[i]? with|some (some (.own o))=>.ok (.t (toT o)) (fs.set i (some (.val (toT o))))|_=>.bad
theorem A6.fzR{o}(h:A6 K F H b i [] o u):Ay K (F.re b i λ_=>.fz) H (toT o) u :=
 h.frz (λa ρ z=>⟨by show reT _ _ _ (F.o a)=_;rw[z];exact NL,rfl⟩) Le.re.f
theorem A6.mvR{o}(h:A6 K F H b i [] o u):A6 K (F.re b i λρ=>.q c j (ρ++π)) H c j π o u :=
 h.mv (π:=[]) (λa ρ z=>⟨by show reT _ _ _ (F.o a)=_;rw[z,NL,oN],rfl⟩) Le.re.f
theorem RR.fz{o}(q:RR K B U F H fs (.x i) u)(es:fs[i]?=some (some (.own o))):RR K B U (F.re true i λ_=>.fz) H (fs.set i (some (.val (toT o)))) (.t (toT o)) u:=by obtain⟨ok,q⟩:=q;obtain⟨v,e1,r⟩:=ok.sl _ _ es;cases(show _=_ from q).symm.trans e1;exact⟨ok.reS q λs e=>by cases e;exact⟨u,rfl,A6.fzR r⟩,A6.fzR r⟩
theorem RR.mv{o}(q:RR K B U F H fs (.x i) u)(es:fs[i]?=some (some (.own o))):RR K B U (F.re true i λρ=>.q false 0 (ρ++[])) H (fs.set i none) (.nw o) u:=by obtain⟨ok,q⟩:=q;obtain⟨v,e1,r⟩:=ok.sl _ _ es;cases(show _=_ from q).symm.trans e1;exact⟨ok.reS q nofun,A6.mvR r⟩
theorem fe_fz(h:FE X Z e f):FE X Z e (fz f):=by
 refine Ax h λU H Q aj => ?_
 obtain⟨F,B,fs,ok,s⟩:= aj;refine⟨F,B,fs,ok,?_⟩;refine Ar s λr fs F' H' u l q s=>?_
 cases r with
 |t t=>exact s F' H' u Le.refl q
 |nw o=>exact s _ H' u Le.re ⟨q.1.re,A6.fzR q.2⟩
 |x i =>
  dsimp only at s;split at s
  next es=>exact s _ H' u Le.re (q.fz es)
  .exact s.elim
def big:Nat:=1000000
theorem Dx:big<=sizeLine:=by rw[sizeLine_eq];decide
theorem EV:big<sizeLine:=by rw[sizeLine_eq];decide
def Bw(fs:FS):Rv->Option (List T)
 |.t (.lst ts)=>some ts
 |.t (.zX ts)=>some ts
 |.x i=>match Aq fs i with|some (.lst ts)=>some ts|_=>none
 |_=>none
def Ki:Rv->Option (List T)
 |.t (.tup ts)=>some ts
 |_=>none
meta theorem AN(h:Okk K F B H fs U)(r:Cv K F H U x u)(e:Bw fs x=some ts):∃a vs,u=.ref a/\SqL K H a vs/\Ah K F H ts vs:=by
 unfold Bw at e;split at e
 .cases e;simp only[Cv,Ay]at r;obtain⟨a,vs,e,f,s,q⟩:=r;exact⟨a,vs,e,SqL.of s,q⟩
 .cases e;simp only[Cv,Ay]at r;obtain⟨a,vs,e,s,q⟩:=r;exact⟨a,vs,e,s.sq,q⟩
 .rename_i i;split at e
  next bI eo=>cases e;obtain⟨a,vs,e,_,s,q⟩:=(h.at r eo).vals rfl;exact⟨a,vs,e,SqL.of s,q⟩
  .cases e
 .cases e
theorem Bs(r:Cv K F H U x u)(e:Ki x=some ts):∃a vs,u=.ref a/\SqT K H a vs/\Ah K F H ts vs:=by
 unfold Ki at e;split at e
 .cases e;obtain⟨a,vs,e,s,q⟩:=r;exact⟨a,vs,e,s.sq,q⟩
 .cases e
theorem Qh{t}{i:Int}(r:Ah K F H ts vs)(e:atI ts i=some t):∃v,atI vs i=some v/\Ay K F H t v:=by unfold atI at e ⊢;rw[r.len];cases q:ixN ts.length i with|none=>rw[q]at e;cases e|some j =>rw[q]at e;exact r.at e
theorem Ah.ints:∀{ns:List Int}{vs:List V},Ah K F H (ns.map T.int) vs->vs=ns.map V.int
 | [],_,h=>by simpa[Ah]using h
 |n::ns,_,h=>by obtain⟨v,r,rfl,rfl,h⟩:=h;rw[nQ,Ah.ints h]
theorem Ah.bls:∀{ns:List Bool}{vs:List V},Ah K F H (ns.map T.v) vs->vs=ns.map V.v
 | [],_,h=>by simpa[Ah]using h
 |n::ns,_,h=>by obtain⟨v,r,rfl,rfl,h⟩:=h;rw[nQ,Ah.bls h]
theorem Ah.strs:∀{ns:List Str}{vs:List V},Ah K F H (ns.map T.str) vs->vs=ns.map V.str
 | [],_,h=>by simpa[Ah]using h
 |n::ns,_,h=>by obtain⟨v,r,rfl,rfl,h⟩:=h;rw[nQ,Ah.strs h]
def EX:List T->Option (List Int)
 | []=>some []
 |.int i::r=>(EX r).map (i::·)
 |_=>none
def IA:List T->Option (List Bool)
 | []=>some []
 |.v i::r=>(IA r).map (i::·)
 |_=>none
def CG:List T->Option (List Str)
 | []=>some []
 |.str i::r=>(CG r).map (i::·)
 |_=>none
theorem GC:∀{ts:List T}{ns:List Int},EX ts=some ns->ts=ns.map T.int
 | [],_,e=>by cases e;rfl
 |t::r,_,e=>by cases t<;>simp only[EX,nY,reduceCtorEq]at e;obtain⟨ns,e,rfl⟩:=e;rw[nQ,<- GC e]
theorem Er:∀{ts:List T}{ns:List Bool},IA ts=some ns->ts=ns.map T.v
 | [],_,e=>by cases e;rfl
 |t::r,_,e=>by cases t<;>simp only[IA,nY,reduceCtorEq]at e;obtain⟨ns,e,rfl⟩:=e;rw[nQ,<- Er e]
theorem GB:∀{ts:List T}{ns:List Str},CG ts=some ns->ts=ns.map T.str
 | [],_,e=>by cases e;rfl
 |t::r,_,e=>by cases t<;>simp only[CG,nY,reduceCtorEq]at e;obtain⟨ns,e,rfl⟩:=e;rw[nQ,<- GB e]
def Ag(g:sS)(fa fb:sT):sT:=λfs=>(fa fs).bnd λx fs=>(fb fs).bnd λy fs=>g x y fs
def OpF(K:Fg)(Z:Xp)(r:R2)(g:sS):Prop:=∀(F:Wd)(B:sY)(H:Hp)(U:St)(fs:FS)(x y:Rv)(u w:V)(Q:VK),Okk K F B H fs U->Cv K F H U x u->Cv K F H U y w ->
 sat Z B (RR K B U) F H (g x y fs) Q->r u w H Q
def asB(f:sT):sV:=λfs=>(f fs).bind λr fs=>match r with|.t (.v b)=>.ok b fs|_=>.bad
theorem Fv{g}(hg:OpF K Z r g)(h:tF K Z (Ag g fa fb) U H Q):tOp r (tF K Z fa) (tF K Z fb) U H Q:=by obtain⟨F,B,fs,ok,s⟩:=h;exact⟨F,B,fs,ok,As s λx ae F1 H1 u l au rx s1=>⟨F1,B,ae,au,As s1 λy aq F2 H2 w l2 aJ ry s2=>hg F2 B H2 U aq x y u w Q aJ (rx.le l2) ry s2⟩⟩
meta theorem UU(h:tT K Z (asB f) U H Q):tF K Z f U H λx H'=>∃k,x=.v k/\Q k H':=by
 obtain⟨F,B,fs,ok,s⟩:=h;refine⟨F,B,fs,ok,Ar s λr ae F1 H1 u l q s1=>?_⟩;split at s1
 next b=>obtain⟨o1,q⟩:=q;exact⟨b,q,s1 F1 H1 b Le.refl ⟨o1,rfl⟩⟩
 .exact s1.elim
theorem Pm{a}{g}(hg:OpF X.K Z r g)(ho:OpR X (binaryOp op) r)(ha:FE X Z a fa)(hb:FE X Z b fb):FE X Z (.BinOp a op b pos) (Ag g fa fb) :=
 Ax (pe_op ho ha hb) λ_ _ _ h=>Fv hg h
theorem Jw{a}{g}(hg:OpF X.K Z r g)(ho:OpR X (compareOp op) r)(ha:FE X Z a fa)(hb:FE X Z b fb)(hm:behindInMarks op b=false):FE X Z (.Compare a [op] [b] pos) (Ag g fa fb) :=
 Ax (VZ ho ha hb hm) λ_ _ _ h=>Fv hg h
theorem C6{a}{g}(hg:OpF X.K Z r g)(ho:OpR X (compareOp op) r)(ha:FE X Z a fa)(hb:FE X Z b fb)(hm:behindInMarks op b=false):FT X Z (.Compare a [op] [b] pos) (asB (Ag g fa fb)) :=
 I0 (VF ho ha hb hm) λ_ _ _ h=>Fv hg (UU h)
theorem fe_ix{a}{g}(hg:OpF X.K Z r g)(hr:IxR X r)(ha:FE X Z a fa)(hb:FE X Z b fb)(hs:ID b):FE X Z (.Subscript a b pos) (Ag g fa fb) :=
 Ax (Z0 hr ha hb hs) λ_ _ _ h=>Fv hg h
def chain(g g':sS)(fa fb fc:sT):sT:=λfs=>(fa fs).bnd λx fs=>(fb fs).bnd λy fs=>(g x y fs).bnd λz fs=>match z with
 |.t (.v true)=>(fc fs).bnd λw fs=>g' y w fs
 |.t (.v false)=>.ok (.t (.v false)) fs
 |_=>.bad
theorem XR{g}(hg:OpF K Z r g)(eO:OpF K Z r' g')(h:tF K Z (chain g g' fa fb fc) U H Q):Ny r r' (tF K Z fa) (tF K Z fb) (tF K Z fc) U H Q:=by
 obtain⟨F,B,fs,ok,s⟩:=h;refine⟨F,B,fs,ok,As s λx ae F1 H1 u l au rx s1=>⟨F1,B,ae,au,As s1 λy aq F2 H2 w l2 aJ ry s2=>hg F2 B H2 U aq x y u w _ aJ (rx.le l2) ry ?_⟩⟩;refine As s2 λz cn F3 H3 v l3 bG rz s3=>?_
 split at s3
 .refine⟨true,rz,?_⟩;exact⟨F3,B,cn,bG,As s3 λw' bP F4 H4 v' l4 df bM s4=>eO F4 B H4 U bP y w' w v' Q df ((ry.le l3).le l4) bM s4⟩
 .refine⟨false,rz,?_⟩;exact s3 F3 H3 (.v false) Le.refl (RR.of bG rfl)
 .exact s3.elim
theorem Rk{a b:Int}(ha:Builtin.Int.intBits a<=2^26)(hb:Builtin.Int.intBits b<=2^26):IntMulOk a b:=by intro h;rw[oy]at h;have h2:=oj (show decide _=true from h.2);have e:bitsLine=134217728:=rfl;omega
def gI(g:Int->Int->sT):sS
 |.t (.int i),.t (.int j),fs=>g i j fs
 |_,_,_=>.bad
def okT(t:T)(fs:FS):Out Rv:=.ok (.t t) fs
def gAdd:=gI λi j=>okT (.int (i+j))
def BX:=gI λi j=>okT (.int (i-j))
def Yn:=gI λi j fs=>if(decide (-(2^64)<i/\i<2^64)||decide (-(2^64)<j/\j<2^64)||(decide (Builtin.Int.intBits i<=2^26)&&decide (Builtin.Int.intBits j<=2^26)))=true then okT (.int (i*j)) fs else .bad
def Cu:=gI λi j fs=>if 0<j then okT (.int (i%j)) fs else .bad
def GJ:=gI λi j fs=>if 0<j/\j<1073741824 then okT (.int (i/j)) fs else .bad
def gLt:=gI λi j=>okT (.v (decide (i<j)))
def gLe:=gI λi j=>okT (.v (decide (i<=j)))
def gGt:=gI λi j=>okT (.v (decide (j<i)))
meta theorem V3{g}{t:Int->Int->T}(hv:∀K F H i j,Ay K F H (t i j) (v i j))(hg:∀i j fs,g i j fs=.bad\/(C i j/\g i j fs=okT (t i j) fs)):OpF K Z (rI C v) (gI g):=by
 intro F B H U fs x y u w Q ok rx ry s;unfold gI at s;split at s
 .rename_i i j;rcases hg i j fs with e|⟨c,e⟩
  .rw[e]at s;exact s.elim
  .rw[e]at s;exact⟨i,j,rx,ry,c,s F H _ Le.refl (RR.of ok (hv _ _ _ _ _))⟩
 .exact s.elim
meta theorem Je{t:Int->Int->T}(hv:∀K F H i j,Ay K F H (t i j) (v i j)):OpF K Z (rI0 v) (gI λi j=>okT (t i j)):=by
 intro F B H U fs x y u w Q ok rx ry s;unfold gI at s;split at s
 next i j=>exact⟨i,j,rx,ry,s F H _ Le.refl (RR.of ok (hv _ _ _ _ _))⟩
 .exact s.elim
theorem Jaj:OpF K Z (rI0 λi j=>.int (i+j)) gAdd:=Je λ_ _ _ _ _=>rfl
theorem Jae:OpF K Z (rI0 λi j=>.int (i-j)) BX:=Je λ_ _ _ _ _=>rfl
theorem of_lt:OpF K Z (rI0 λi j=>.v (decide (i<j))) gLt:=Je λ_ _ _ _ _=>rfl
theorem of_le:OpF K Z (rI0 λi j=>.v (decide (i<=j))) gLe:=Je λ_ _ _ _ _=>rfl
theorem of_gt:OpF K Z (rI0 λi j=>.v (decide (j<i))) gGt:=Je λ_ _ _ _ _=>rfl
theorem Jag:OpF K Z (rI (λ_ j=>0<j) λi j=>.int (i%j)) Cu:=V3 (t:=λi j=>.int (i%j)) (λ_ _ _ _ _=>rfl) λi j fs=>by
 by_cases h:0<j
 .exact .inr ⟨h,if_pos h⟩
 .exact .inl (if_neg h)
theorem Jai:OpF K Z (rI CDiv λi j=>.int (i/j)) GJ:=V3 (t:=λi j=>.int (i/j)) (λ_ _ _ _ _=>rfl) λi j fs=>by
 by_cases h:0<j/\j<1073741824
 .exact .inr ⟨h,if_pos h⟩
 .exact .inl (if_neg h)
theorem Jaf:OpF K Z (rI IntMulOk λi j=>.int (i*j)) Yn:=V3 (t:=λi j=>.int (i*j)) (λ_ _ _ _ _=>rfl) λi j fs=>by
 by_cases h:(decide (-(2^64)<i/\i<2^64)||decide (-(2^64)<j/\j<2^64)||(decide (Builtin.Int.intBits i<=2^26)&&decide (Builtin.Int.intBits j<=2^26)))=true
 .refine .inr ⟨?_,if_pos h⟩;rw[pM,pM,oy]at h;rcases h with(h|h)|⟨h1,h2⟩
  .exact CMul.ok (.inl (oj h))
  .exact CMul.ok (.inr (oj h))
  .exact Rk (oj h1) (oj h2)
 .exact .inl (if_neg h)
def plV:T->Option V
 |.l=>some .l
 |.v b=>some (.v b)
 |.int i=>some (.int i)
 |.str x=>some (.str x)
 |_=>none
theorem BI{t}(e:plV t=some v)(r:Ay K F H t u):u=v:=by cases t<;>cases e<;>exact r
def gEq(neg:Bool):sS
 |.t x,.t y,fs=>match plV x,plV y with|some u,some w=>if Vv u w=true then okT (.v (if neg then !decide (u=w)else decide (u=w))) fs else .bad|_,_=>.bad
 |_,_,_=>.bad
def VP:List T->Option (List V)
 | []=>some []
 |t::r=>(plV t).bind λv=>(VP r).map (v::·)
theorem HE:∀{ts:List T}{us vs:List V},VP ts=some vs->Ah K F H ts us->us=vs/\vs.all E1=true
 | [],_,_,e,r=>by cases e;exact⟨r,rfl⟩
 |t::ts,_,_,e,r=>by obtain⟨v,w,rfl,r1,r2⟩:=r;simp only[VP,ot,nY]at e;obtain⟨v',e1,ws,e2,rfl⟩:=e;obtain⟨rfl,h⟩:=HE e2 r2;have:=BI e1 r1;subst this;refine⟨rfl,?_⟩;rw[qD,h,Bool.and_true];cases t<;>first|(cases e1;rfl)|cases e1
theorem Ce{t}(e:plV t=some v):E1 v=true:=by cases t<;>first|(cases e;rfl)|cases e
def gIn(neg:Bool):sS
 |.t x,y,fs=>match plV x with
  |some v=>match(match Bw fs y with|some ts=>VP ts|none=>(Ki y).bind VP)with|some vs=>okT (.v (if neg then !inV v vs else inV v vs)) fs|none=>.bad
  |none=>.bad
 |_,_,_=>.bad
def Jt(neg:Bool):sS
 |.t (.str i),.t (.str j),fs=>okT (.v (if neg then !(!(Builtin.Str.occurrences j i 0 j.length 1).isEmpty)else !(Builtin.Str.occurrences j i 0 j.length 1).isEmpty)) fs
 |_,_,_=>.bad
theorem of_eq:OpF K Z rEq (gEq false):=by
 intro F B H U fs x y u w Q ok rx ry s;unfold gEq at s;split at s
 .split at s
  .rename_i e1 e2;split at s
   next hs=>have h1:=BI e1 rx;have h2:=BI e2 ry;subst h1 h2;exact⟨hs,s F H _ Le.refl (RR.of ok rfl)⟩
   .exact s.elim
  .exact s.elim
 .exact s.elim
theorem of_ne:OpF K Z rNe (gEq true):=by
 intro F B H U fs x y u w Q ok rx ry s;unfold gEq at s;split at s
 .split at s
  .rename_i e1 e2;split at s
   next hs=>have h1:=BI e1 rx;have h2:=BI e2 ry;subst h1 h2;exact⟨hs,s F H _ Le.refl (RR.of ok rfl)⟩
   .exact s.elim
  .exact s.elim
 .exact s.elim
meta theorem Wf(neg:Bool):OpF K Z (rIn K neg) (gIn neg):=by
 intro F B H U fs x y u w Q ok rx ry s;unfold gIn at s;split at s
 .split at s
  .rename_i v e1;split at s
   .rename_i vs e2;have h1:=BI e1 rx;subst h1;split at e2
    next ts e3=>obtain⟨a,us,rfl,hs,q⟩:=AN ok ry e3;obtain⟨rfl,hf⟩:=HE e2 q;exact⟨a,us,rfl,.inl hs,Ce e1,hf,s F H _ Le.refl (RR.of ok rfl)⟩
    .rw[ot]at e2;obtain⟨ts,e3,e2⟩:=e2;obtain⟨a,us,rfl,hs,q⟩:=Bs ry e3;obtain⟨rfl,hf⟩:=HE e2 q;exact⟨a,us,rfl,.inr hs,Ce e1,hf,s F H _ Le.refl (RR.of ok rfl)⟩
   .exact s.elim
  .exact s.elim
 .exact s.elim
meta theorem Lu:OpF K Z (λx y H Q=>∃i j,x=.str i/\y=.str j/\Q (.v (!(Builtin.Str.occurrences j i 0 j.length 1).isEmpty)) H) (Jt false):=by
 intro F B H U fs x y u w Q ok rx ry s;unfold Jt at s;split at s
 next i j=>exact⟨i,j,rx,ry,s F H _ Le.refl (RR.of ok rfl)⟩
 .exact s.elim
meta theorem Kq:OpF K Z (λx y H Q=>∃i j,x=.str i/\y=.str j/\Q (.v (!(!(Builtin.Str.occurrences j i 0 j.length 1).isEmpty))) H) (Jt true):=by
 intro F B H U fs x y u w Q ok rx ry s;unfold Jt at s;split at s
 next i j=>exact⟨i,j,rx,ry,s F H _ Le.refl (RR.of ok rfl)⟩
 .exact s.elim
def gIx:sS
 |x,.t (.int i),fs=>match Bw fs x with
  |some ts=>match atI ts i with|some t=>okT t fs|none=>.bad
  |none=>match x with
   |.t (.tup ts)=>match atI ts i with|some t=>okT t fs|none=>.bad
   |.t (.str z)=>if z.length<=big then match atI z.cps.toList i with|some c=>okT (.str ⟨#[c]⟩) fs|none=>.bad
    else .bad
   |_=>.bad
 |_,_,_=>.bad
meta theorem of_ix:OpF K Z (rIx K) gIx:=by
 intro F B H U fs x y u w Q ok rx ry s;unfold gIx at s;split at s
 .rename_i i;split at s
  .rename_i ts e;split at s
   next t et=>obtain⟨a,vs,rfl,hs,q⟩:=AN ok rx e;obtain⟨v,ev,rv⟩:=Qh q et;exact .inl ⟨a,vs,i,v,rfl,ry,hs,ev,s F H v Le.refl (RR.of ok rv)⟩
   .exact s.elim
  .split at s
   .rename_i ts _;split at s
    next t et=>obtain⟨a,vs,rfl,hs,q⟩:=Bs rx rfl;obtain⟨v,ev,rv⟩:=Qh q et;exact .inr (.inl ⟨a,vs,i,v,rfl,ry,hs,ev,s F H v Le.refl (RR.of ok rv)⟩)
    .exact s.elim
   .rename_i z _;split at s
    .rename_i hz;split at s
     next c ec=>exact .inr (.inr ⟨z,i,c,rx,ry,oB hz Dx,ec,s F H _ Le.refl (RR.of ok rfl)⟩)
     .exact s.elim
    .exact s.elim
   .exact s.elim
 .exact s.elim
def R9:sS
 |.t (.str i),.t (.str j),fs=>if i.length+j.length<=big then okT (.str (i++j)) fs else .bad
 |_,_,_=>.bad
def R7:sS
 |.t (.str z),.t (.int n),fs=>if z.length=1/\1<=n/\n<=1000 then okT (.str (Txt.mul z n)) fs else .bad
 |_,_,_=>.bad
theorem Wr(hz:z.length=1)(h0:1<=n)(h1:n<=1000):MulOk z n:=by
 refine⟨?_,λ_ _=>?_,λ_ _=>?_⟩
 .rw[Bool.or_eq_false_iff];exact⟨oF (by omega),oF (by omega)⟩
 .have h:=by omega
  have h2:1<=((2:Int)^63-1)/n:=(Int.le_ediv_iff_mul_le (by omega)).mpr (by omega);omega
 .unfold Builtin.Str.tooLong;refine oF ?_;rw[hz];have h3:(1000:Nat)<=sizeLine:=by rw[sizeLine_eq];decide
  omega
meta theorem Wl:OpF K Z (λx y H Q=>∃i j,x=.str i/\y=.str j/\i.length+j.length<=sizeLine/\Q (.str (i++j)) H) R9:=by
 intro F B H U fs x y u w Q ok rx ry s;unfold R9 at s;split at s
 .rename_i i j;split at s
  next h=>exact⟨i,j,rx,ry,oB h Dx,s F H _ Le.refl (RR.of ok rfl)⟩
  .exact s.elim
 .exact s.elim
meta theorem We:OpF K Z (λx y H Q=>∃z n,x=.str z/\y=.int n/\MulOk z n/\Q (.str (Txt.mul z n)) H) R7:=by
 intro F B H U fs x y u w Q ok rx ry s;unfold R7 at s;split at s
 .rename_i i j;split at s
  next h=>exact⟨i,j,rx,ry,Wr h.1 h.2.1 h.2.2,s F H _ Le.refl (RR.of ok rfl)⟩
  .exact s.elim
 .exact s.elim
def truR(fs:FS):Rv->Option Bool
 |.t .l=>some false
 |.t (.v b)=>some b
 |.t (.int i)=>some (i !=0)
 |.t (.str x)=>if x.length<=big then some ((x.length:Int)!=0)else none
 |.t (.lst ts)=>some !ts.isEmpty
 |.t (.tup ts)=>some !ts.isEmpty
 |.x i=>match Aq fs i with|some (.lst ts)=>some !ts.isEmpty|some (.n ks _)=>some !ks.isEmpty|_=>none
 |_=>none
def DL(f:sT):sV:=λfs=>(f fs).bnd λr fs=>match truR fs r with|some b=>.ok b fs|none=>.bad
def CJ(f:sV):sV:=λfs=>(f fs).bind λb fs=>.ok (!b) fs
def GF(f g:sV):sV:=λfs=>(f fs).bind λb fs=>if b=true then g fs else .ok false fs
def orT(f g:sV):sV:=λfs=>(f fs).bind λb fs=>if b=true then .ok true fs else g fs
def Jcj(f g:sT):sT:=λfs=>(f fs).bnd λr fs=>match r with|.t (.v true)=>g fs|.t (.v false)=>okT (.v false) fs|_=>.bad
theorem B7{xs:List α}{ys:List β}(h:ys.length=xs.length):(!ys.isEmpty)=!xs.isEmpty:=by cases xs<;>cases ys<;>simp_all
meta theorem Vd{b:Bool}(h:Okk K F B H fs U)(r:Cv K F H U x u)(e:truR fs x=some b):TruV K u H b:=by
 cases x with
 |nw=>cases e
 |x i =>
  change (match Aq fs i with|some (.lst ts)=>some !ts.isEmpty|some (.n ks _)=>some !ks.isEmpty|_=>none)=some b at e
  split at e
  next ts eo=>cases e;obtain⟨a,vs,rfl,hs,q⟩:=AN (ts:=ts) h r (by simp[Bw,eo]);exact .inl ⟨vs,hs,(B7 q.len).symm⟩
  next ks ts eo=>cases e;obtain⟨a,_,rfl,_,⟨af,hd,rfl,rfl⟩,_⟩:=(h.at r eo).vals rfl;exact .inr (.inr ⟨af,hd,(B7 (by simp))⟩)
  .cases e
 |t t =>
  cases t with
  |str x =>
   change (if x.length<=big then some ((x.length:Int)!=0)else none)=some b at e
   split at e
   next hz=>cases e;cases r;exact⟨oB hz Dx,rfl⟩
   .cases e
  |lst ts =>cases e;obtain⟨a,vs,rfl,hs,q⟩:=AN h r rfl;exact .inl ⟨vs,hs,(B7 q.len).symm⟩
  |tup ts =>cases e;obtain⟨a,vs,rfl,hs,q⟩:=Bs r rfl;exact .inr (.inl ⟨vs,hs,(B7 q.len).symm⟩)
  |_=>first|(cases e;cases r;rfl)|cases e
variable{X:Cx}{a b:Expr}{fa fb:sT}{ga gb:sV}{pos:Pos}{rest:List Expr}
meta theorem Sa(ha:FE X Z a fa)(he:∀aO,isTrue a X.env aO=(do let v <- aO;standAt a.pos;holding [v] (truthy v))):FT X Z a (DL fa):=by
 refine I0 (Ln ha he) λU H Q aj => ?_
 obtain⟨F,B,fs,ok,s⟩:= aj;refine⟨F,B,fs,ok,As s λr ae F1 H1 u l au rx s1=>?_⟩;split at s1
 next b e=>exact⟨b,Vd au rx e,s1 F1 H1 b Le.refl ⟨au,rfl⟩⟩
 .exact s1.elim
theorem Jbf(ha:FT X Z a ga):FT X Z (.UnaryOp .Not a pos) (CJ ga):=by
 refine I0 (ZJ ha) λU H Q aj => ?_
 obtain⟨F,B,fs,ok,s⟩:= aj;refine⟨F,B,fs,ok,Ar s λb ae F1 H1 b' l q s1=>?_⟩;obtain⟨au,rfl⟩:=q;exact s1 F1 H1 _ Le.refl ⟨au,rfl⟩
def FW(X:Cx)(Z:Xp)(e:Expr)(f:sV):Prop:=PW X e (tT X.K Z f)
theorem FW.ft(h:FW X Z a ga):FT X Z a ga:=PW.pt h
theorem TZ{t}(h:PW X e t)(i:∀U H Q,t' U H Q->t U H Q):PW X e t':=λaO aa s U H Q I q=>h aO aa s U H Q I (i _ _ _ q)
theorem Xa(ha:FT X Z a ga):FW X Z (.BoolOp .And [a] pos) ga:=VE ha
theorem Jbd(ha:FT X Z a ga):FW X Z (.BoolOp .Or [a] pos) ga:=ZH ha
theorem Jbe(ha:FT X Z a ga)(hb:FW X Z (.BoolOp .And (b::rest) pos) gb):FW X Z (.BoolOp .And (a::b::rest) pos) (GF ga gb):=by
 refine TZ (ZI ha hb) λU H Q aj => ?_
 obtain⟨F,B,fs,ok,s⟩:= aj;refine⟨F,B,fs,ok,Ar s λb ae F1 H1 b' l q s1=>?_⟩;obtain⟨au,rfl⟩:=q;cases b' with|true =>exact⟨F1,B,ae,au,s1⟩|false =>exact s1 F1 H1 _ Le.refl ⟨au,rfl⟩
theorem fw_or(ha:FT X Z a ga)(hb:FW X Z (.BoolOp .Or (b::rest) pos) gb):FW X Z (.BoolOp .Or (a::b::rest) pos) (orT ga gb):=by
 refine TZ (pw_or ha hb) λU H Q aj => ?_
 obtain⟨F,B,fs,ok,s⟩:= aj;refine⟨F,B,fs,ok,Ar s λb ae F1 H1 b' l q s1=>?_⟩;obtain⟨au,rfl⟩:=q;cases b' with|true =>exact s1 F1 H1 _ Le.refl ⟨au,rfl⟩|false =>exact⟨F1,B,ae,au,s1⟩
theorem Jbt(h:FE X Z a fa):FE X Z (.BoolOp op [a] pos) fa:=ZX h
theorem JbQ(ha:FE X Z a fa)(hb:FE X Z (.BoolOp .And (b::rest) pos) fb):FE X Z (.BoolOp .And (a::b::rest) pos) (Jcj fa fb):=by
 refine Ax (Z3 ha hb) λU H Q aj => ?_
 obtain⟨F,B,fs,ok,s⟩:= aj;refine⟨F,B,fs,ok,As s λr ae F1 H1 u l au rx s1=>?_⟩;split at s1
 .exact⟨true,rx,by rw[if_pos rfl];exact⟨F1,B,ae,au,s1⟩⟩
 .exact⟨false,rx,by rw[if_neg (by decide)];exact s1 F1 H1 _ Le.refl (RR.of au rfl)⟩
 .exact s1.elim
theorem Se{g}(hg:OpF X.K Z r g)(eO:OpF X.K Z r' g')(ha:FE X Z a fa)(hb:FE X Z b fb)(hc:FE X Z c fc)
  (h:∀{ta tb tc:TE},PE X a ta->PE X b tb->PE X c tc->PT X (.Compare a [op,op'] [b,c] pos) (Vf (Ny r r' ta tb tc))):FT X Z (.Compare a [op,op'] [b,c] pos) (asB (chain g g' fa fb fc)) :=
 I0 (h ha hb hc) λ_ _ _ q=>XR hg eO (UU q)
def Af:sU:=λfs=>.ok [] fs
def Ab(f:sT)(g:sU):sU:=λfs=>(f fs).bnd λr fs=>(g fs).bind λrs fs=>.ok (r::rs) fs
def Na:List Rv->Option (List T)
 | []=>some []
 |.t t::r=>(Na r).map (t::·)
 |_=>none
theorem Fy:∀{rs:List Rv}{vs:List V}{ts:List T},IC K F H U rs vs->Na rs=some ts->Ah K F H ts vs
 | [],_,_,h,e=>by cases e;exact h
 |.t t::r,_,_,h,e=>by simp only[Na,nY]at e;obtain⟨ts,e,rfl⟩:=e;obtain⟨v,w,rfl,h1,h2⟩:=h;exact⟨v,w,rfl,h1,Fy h2 e⟩
 |.nw _::r,_,_,h,e=>by simp[Na]at e
 |.x _::r,_,_,h,e=>by simp[Na]at e
def Ao(g:List T->sT)(f:sU):sT:=λfs=>(f fs).bind λrs fs=>match Na rs with|some ts=>if ts.length<=big then g ts fs else .bad|none=>.bad
def AW(ts:List T)(fs:FS):Out Rv:=.ok (.t (.tup ts)) fs
def Be(ts:List T)(fs:FS):Out Rv:=.ok (.t (.lst ts)) fs
def Bm(ts:List T)(fs:FS):Out Rv:=.ok (.nw (.lst ts)) fs
theorem JbT:FA X Z [] Af:=Ls FV λU H Q ⟨F,B,fs,ok,s⟩=>s F H [] Le.refl ⟨ok,rfl⟩
theorem Xx{g}(ha:FE X Z e f)(hr:FA X Z es g)(hs:Zsc X.env e es:=by rfl):FA X Z (e::es) (Ab f g):=by
 refine Ls (B5 ha hr hs) λU H Q aj => ?_
 obtain⟨F,B,fs,ok,s⟩:= aj;refine⟨F,B,fs,ok,As s λr ae F1 H1 u l au rx s1=>⟨F1,B,ae,au,Ar s1 λrs aq F2 H2 us l2 q s2=>?_⟩⟩;exact s2 F2 H2 (u::us) Le.refl ⟨q.1,u,us,rfl,rx.le l2,q.2⟩
theorem DB(ok:Okk K F B H fs U)(hp:H p=none)(r:Ah K F H ts us):Ay K (F.tag p .fz) (upd H p (.tup us)) (.tup ts) (.ref p):=by exact⟨p,us,rfl,⟨rfl,A3,An⟩,r.le (ok.DQ hp)⟩
theorem G6(ok:Okk K F B H fs U)(hp:H p=none)(r:Ah K F H ts us):Ay K (F.tag p .fz) (upd H p (.lst us)) (.lst ts) (.ref p):=by exact⟨p,us,rfl,A3,An,r.le (ok.DQ hp)⟩
meta theorem Jbp{g}(h:FA X Z es g):FE X Z (.Tuple es x1 pos) (Ao AW g):=by
 refine Ax (ZV h) λU H Q aj => ?_
 obtain⟨F,B,fs,ok,s⟩:= aj;refine⟨F,B,fs,ok,Ar s λrs ae F1 H1 us l q s1=>?_⟩;obtain⟨au,q⟩:=q;split at s1
 .rename_i ts e;have r:=Fy q e;split at s1
  next hl=>refine⟨by rw[r.len];exact oB hl Dx,λp hp=>G5 au hp s1 (DB au hp r)⟩
  .exact s1.elim
 .exact s1.elim
meta theorem JbB{g}(h:FA X Z es g):FE X Z (.List es pos) (Ao Be g):=by
 refine Ax (Ua h) λU H Q aj => ?_
 obtain⟨F,B,fs,ok,s⟩:= aj;refine⟨F,B,fs,ok,Ar s λrs ae F1 H1 us l q s1=>?_⟩;obtain⟨au,q⟩:=q;split at s1
 .rename_i ts e;have r:=Fy q e;split at s1
  next hl=>refine⟨by rw[r.len];exact oB hl Dx,λp hp=>G5 au hp s1 (G6 au hp r)⟩
  .exact s1.elim
 .exact s1.elim
meta theorem Xq{g}(h:FA X Z es g):FE X Z (.List es pos) (Ao Bm g):=by
 refine Ax (Ua h) λU H Q aj => ?_
 obtain⟨F,B,fs,ok,s⟩:= aj;refine⟨F,B,fs,ok,Ar s λrs ae F1 H1 us l q s1=>?_⟩;obtain⟨au,q⟩:=q;split at s1
 .rename_i ts e;have r:=Fy q e;split at s1
  next hl=>exact⟨by rw[r.len];exact oB hl Dx,λp hp=>CN au hp s1 rfl rfl r⟩
  .exact s1.elim
 .exact s1.elim
def D3:sT:=λfs=>.ok (.nw (.n [] [])) fs
theorem Ss:FE X Z (.Dict [] [] pos) D3:=by refine Ax Lr λU H Q ⟨F,B,fs,ok,s⟩ p hp=>CN ok hp s rfl ⟨[],rfl,rfl,rfl⟩ rfl
def B1(K:Fg)(Z:Xp)(r:List V->Hp->VK->Prop)(g:List Rv->sT):Prop:=∀(F:Wd)(B:sY)(H:Hp)(U:St)(fs:FS)(rs:List Rv)(vs:List V)(Q:VK),Okk K F B H fs U->IC K F H U rs vs ->
 sat Z B (RR K B U) F H (g rs fs) Q->r vs H Q
def Ad(g:List Rv->sT)(f:sU):sT:=λfs=>(f fs).bind λrs fs=>g rs fs
variable{e:Expr}{es:List Expr}{fa:sU}{g:List Rv->sT}{r:List V->Hp->VK->Prop}{p:Pos}{x:Str}
section
variable{id:String}
theorem CS(eO:B1 X.K Z r g)(hc:BK X (.builtin id) r)(hm:X.mg x=none)(hv:bootBuiltins x=some (.builtin id))(ha:FA X Z (e::es) fa)(hg:Gl X x:=by rfl)(hn:x≠"__name__":=by decide)(aQ:Zdb x:=by decide)
  (he:Zsc X.env e es:=by rfl) (aC:Zbt X.env pos es:=by rfl):FE X Z (.Call (.Name x p) (e::es) [] pos) (Ad g fa) :=
 Ax (Fl hc hg hm hv ha hn aQ he aC) λU H Q ⟨F,B,fs,ok,s⟩=>⟨F,B,fs,ok,Ar s λrs ae F1 H1 us l q s1=>eO F1 B H1 U ae rs us Q q.1 q.2 s1⟩
theorem Ek(eO:B1 X.K Z r g)(hc:BK X (.type Ty) r)(hm:X.mg x=none)(hv:bootBuiltins x=some (.type Ty))(ha:FA X Z (e::es) fa)(hg:Gl X x:=by rfl)(hn:x≠"__name__":=by decide)(aQ:Zdb x:=by decide)
  (he:Zsc X.env e es:=by rfl) (aC:Zbt X.env pos es:=by rfl):FE X Z (.Call (.Name x p) (e::es) [] pos) (Ad g fa) :=
 Ax (N7 hc hg hm hv ha hn aQ he aC) λU H Q ⟨F,B,fs,ok,s⟩=>⟨F,B,fs,ok,Ar s λrs ae F1 H1 us l q s1=>eO F1 B H1 U ae rs us Q q.1 q.2 s1⟩
end
def Ja6:List Rv->sT
 | [x],fs=>match Bw fs x with|some ts=>okT (.int ts.length) fs|none=>match Ki x with|some ts=>okT (.int ts.length) fs|none=>.bad
 |_,_=>.bad
def Kz:List Rv->sT
 | [.t (.str z)],fs=>if z.length<=big then okT (.int z.length) fs else .bad
 |_,_=>.bad
def Ym:Rv->Option Int
 |.t (.int i)=>some i
 |_=>none
theorem Gg{x:Rv}{i:Int}(e:Ym x=some i):x=.t (.int i):=by
 cases x with
 |t t=>cases t<;>first|(cases e;done)|(cases e;rfl)
 |_=>cases e
def int2(g:Int->Int->Int):List Rv->sT
 | [x,y],fs=>match Ym x,Ym y with|some i,some j=>okT (.int (g i j)) fs|_,_=>.bad
 |_,_=>.bad
def Js:List Rv->sT:=int2 λi j=>if j<i then j else i
def MQ:List Rv->sT
 | [.t (.int i)],fs=>okT (.int i) fs
 | [.t (.v k)],fs=>okT (.int (if k then 1 else 0)) fs
 |_,_=>.bad
def Qo:List Rv->sT
 | [x],fs=>match(Bw fs x).bind EX with|some ns=>okT (.int ns.sum) fs|none=>.bad
 |_,_=>.bad
def Yp:List Rv->sT
 | [x],fs=>match(Bw fs x).bind IA with|some ns=>okT (.v (ns.all id)) fs|none=>.bad
 |_,_=>.bad
def W6:List Rv->sT
 | [x],fs=>match Bw fs x with|some ts=>.ok (.nw (.lst ts)) fs|none=>match Ki x with|some ts=>.ok (.nw (.lst ts)) fs|none=>.bad
 |_,_=>.bad
def Bv:List Rv->sT
 | [x],fs=>match Bw fs x with|some ts=>okT (.tup ts) fs|none=>match Ki x with|some ts=>okT (.tup ts) fs|none=>.bad
 |_,_=>.bad
def J0:Key->T
 |.inl i=>.int i
 |.inr x=>.str x
def O9:List Rv->sT
 | [.t (.n ks _)],fs=>.ok (.nw (.lst (ks.map J0))) fs
 |_,_=>.bad
theorem AO{x}(h:IC K F H U [x] vs):∃v,vs=[v]/\Cv K F H U x v:=by obtain⟨v,w,rfl,h1,h2⟩:=h;have:=h2;subst this;exact⟨v,rfl,h1⟩
theorem Jb9:B1 K Z (λxs H Q=>∃p ys,xs=[.ref p]/\(SqL K H p ys\/SqT K H p ys)/\Q (.int ys.length) H) Ja6:=by
 intro F B H U fs rs vs Q ok q s;unfold Ja6 at s;split at s
 .obtain⟨v,rfl,qq⟩:=AO q;have q:=qq;split at s
  next ts e=>obtain⟨a,us,rfl,hs,r⟩:=AN ok q e;exact⟨a,us,rfl,.inl hs,by rw[r.len];exact s F H _ Le.refl (RR.of ok rfl)⟩
  .split at s
   next ts e=>obtain⟨a,us,rfl,hs,r⟩:=Bs q e;exact⟨a,us,rfl,.inr hs,by rw[r.len];exact s F H _ Le.refl (RR.of ok rfl)⟩
   .exact s.elim
 .exact s.elim
meta theorem XX:B1 K Z (λxs H Q=>∃z,xs=[.str z]/\z.length<=sizeLine/\Q (.int z.length) H) Kz:=by
 intro F B H U fs rs vs Q ok q s;unfold Kz at s;split at s
 .rename_i z;obtain⟨v,rfl,qq⟩:=AO q;cases qq;split at s
  next hz=>exact⟨z,rfl,oB hz Dx,s F H _ Le.refl (RR.of ok rfl)⟩
  .exact s.elim
 .exact s.elim
theorem PX{g:Int->Int->Int}:B1 K Z (λxs H Q=>∃i j,xs=[.int i,.int j]/\Q (.int (g i j)) H) (int2 g):=by
 intro F B H U fs rs vs Q ok q s;unfold int2 at s;split at s
 .split at s
  next e1 e2=>cases Gg e1;cases Gg e2;obtain⟨v,w,rfl,q1,v2,w2,rfl,q2,q3⟩:=q;cases q1;cases q2;cases q3;exact⟨_,_,rfl,s F H _ Le.refl (RR.of ok rfl)⟩
  .exact s.elim
 .exact s.elim
theorem XS:B1 K Z (λxs H Q=>∃i j,xs=[.int i,.int j]/\Q (.int (if j<i then j else i)) H) Js:=PX
theorem XZ:B1 K Z (λxs H Q=>(∃i,xs=[.int i]/\Q (.int i) H)\/∃k,xs=[.v k]/\Q (.int (if k then 1 else 0)) H) MQ:=by
 intro F B H U fs rs vs Q ok q s;cases rs with
 |nil=>exact s.elim
 |cons r rs =>
  cases r with
  |t t =>
   cases t with
   |int =>cases rs with|nil =>obtain⟨v,rfl,qq⟩:=AO q;have q:=qq;cases q;exact .inl ⟨_,rfl,s F H _ Le.refl (RR.of ok rfl)⟩|_=>exact s.elim
   |v =>cases rs with|nil =>obtain⟨v,rfl,qq⟩:=AO q;have q:=qq;cases q;exact .inr ⟨_,rfl,s F H _ Le.refl (RR.of ok rfl)⟩|_=>exact s.elim
   |_=>exact s.elim
  |_=>exact s.elim
meta theorem Jb8:B1 K Z (λxs H Q=>∃(l:Addr)(ns:List Int),xs=[.ref l]/\SqL K H l (ns.map V.int)/\Q (.int ns.sum) H) Qo:=by
 intro F B H U fs rs vs Q ok q s;unfold Qo at s;split at s
 .obtain⟨v,rfl,qq⟩:=AO q;split at s
  next ns e=>rw[ot]at e;obtain⟨ts,e1,e2⟩:=e;obtain⟨a,us,rfl,hs,r⟩:=AN ok qq e1;rw[GC e2]at r;rw[Ah.ints r]at hs;exact⟨a,ns,rfl,hs,s F H _ Le.refl (RR.of ok rfl)⟩
  .exact s.elim
 .exact s.elim
meta theorem Jcb:B1 K Z (λxs H Q=>∃(l:Addr)(bs:List Bool),xs=[.ref l]/\SqL K H l (bs.map V.v)/\Q (.v (bs.all id)) H) Yp:=by
 intro F B H U fs rs vs Q ok q s;unfold Yp at s;split at s
 .obtain⟨v,rfl,qq⟩:=AO q;split at s
  next ns e=>rw[ot]at e;obtain⟨ts,e1,e2⟩:=e;obtain⟨a,us,rfl,hs,r⟩:=AN ok qq e1;rw[Er e2]at r;rw[Ah.bls r]at hs;exact⟨a,ns,rfl,hs,s F H _ Le.refl (RR.of ok rfl)⟩
  .exact s.elim
 .exact s.elim
theorem XU:B1 K Z (λxs H Q=>∃p ys,xs=[.ref p]/\(SqL K H p ys\/SqT K H p ys)/\∀l,H l=none->Q (.ref l) (upd H l (.lst ys))) W6:=by
 intro F B H U fs rs vs Q ok q s;unfold W6 at s;split at s
 .obtain⟨v,rfl,qq⟩:=AO q;have q:=qq;split at s
  next ts e=>obtain⟨a,us,rfl,hs,r⟩:=AN ok q e;exact⟨a,us,rfl,.inl hs,λp hp=>CN ok hp s rfl rfl r⟩
  .split at s
   next ts e=>obtain⟨a,us,rfl,hs,r⟩:=Bs q e;exact⟨a,us,rfl,.inr hs,λp hp=>CN ok hp s rfl rfl r⟩
   .exact s.elim
 .exact s.elim
meta theorem SQ:B1 K Z (λxs H Q=>∃p ys,xs=[.ref p]/\((SqL K H p ys/\∀l,H l=none->Q (.ref l) (upd H l (.tup ys)))\/(SqT K H p ys/\Q (.ref p) H))) Bv:=by
 intro F B H U fs rs vs Q ok q s;unfold Bv at s;split at s
 .rename_i x;obtain⟨v,rfl,qq⟩:=AO q;have q:=qq;split at s
  next ts e=>obtain⟨a,us,rfl,hs,r⟩:=AN ok q e;exact⟨a,us,rfl,.inl ⟨hs,λp hp=>G5 ok hp s (DB ok hp r)⟩⟩
  .split at s
   .rename_i ts e;obtain⟨a,us,rfl,hs,r⟩:=Bs q e;have ex:x=.t (.tup ts):=by
     unfold Ki at e;split at e
     .cases e;rfl
     .cases e
    rw[ex]at q;exact⟨a,us,rfl,.inr ⟨hs,s F H _ Le.refl (RR.of ok q)⟩⟩
   .exact s.elim
 .exact s.elim
theorem HU:∀ks:List Key,Ah K F H (ks.map J0) (ks.map kV)
 | []=>by simp[Ah]
 |.inl i::r=>by exact⟨_,_,rfl,rfl,HU r⟩
 |.inr i::r=>by exact⟨_,_,rfl,rfl,HU r⟩
meta theorem SS:B1 K Z (λxs H Q=>∃p af,xs=[.ref p]/\Rd H p (.n af)/\∀l,H l=none->Q (.ref l) (upd H l (.lst (af.map λkv=>kV kv.1)))) O9:=by
 intro F B H U fs rs vs Q ok q s;unfold O9 at s;split at s
 .rename_i ks ts;obtain⟨v,rfl,qq⟩:=AO q;have q:=qq;obtain⟨a,af,rfl,f,hd,rfl,r⟩:=q;refine⟨a,af,rfl,hd,λp hp=>CN ok hp s rfl rfl ?_⟩;have e:(af.map λkv=>kV kv.1)=(af.map (·.1)).map kV:=by rw[om];rfl
  rw[e];exact HU _
 .exact s.elim
def MtF(K:Fg)(Z:Xp)(r:V->List V->Hp->VK->Prop)(g:Rv->List Rv->sT):Prop:=∀(F:Wd)(B:sY)(H:Hp)(U:St)(fs:FS)(x:Rv)(rs:List Rv)(u:V)(vs:List V)(Q:VK),Okk K F B H fs U->Cv K F H U x u->IC K F H U rs vs ->
 sat Z B (RR K B U) F H (g x rs fs) Q->r u vs H Q
def Aw(g:Rv->List Rv->sT)(fo:sT)(fa:sU):sT:=λfs=>(fo fs).bnd λx fs=>if(Bw fs x).isSome=true then(fa fs).bind λrs fs=>g x rs fs else .bad
def Rq(g:Rv->List Rv->sT)(fo:sT)(fa:sU):sT:=λfs=>(fo fs).bnd λx fs=>match x with
 |.t (.str _)=>(fa fs).bind λrs fs=>g x rs fs
 |_=>.bad
variable{o:Expr}{fo:sT}{g:Rv->List Rv->sT}{r:V->List V->Hp->VK->Prop}{aA ay:Pos}{name:Str}
section
variable{id:String}
theorem Po(hg:MtF X.K Z r g)(slot:Slot "list" name id)(bV:typeOf (.builtin id)=pure (.type "method_descriptor"))(hm:MtR X id r)(ho:FE X Z o fo)(ha:FA X Z (e::es) fa)
  (aE:Zab X.env o name:=by rfl)
  (bR:((backTo ay (starEach (e::es) X.env)).all (λx=>!x.1)&&(backToKw ay (keywordEach [] X.env)).all (λx=>x.1.isSome)
  &&decide ((e::es).length+([]:List Keyword).length+(if([]:List Keyword).isEmpty then 0 else 1)<30))=true:=by rfl)
  (aG:(aA.endLine==ay.line)=true:=by rfl) (hs:Zsc X.env e es:=by rfl) (bh:Zbt X.env ay es:=by rfl) :
  FE X Z (.Call (.Attribute o name aA) (e::es) [] ay) (Aw g fo fa):=by
 refine Ax (V0 plainAttrs_list slot bV hm ho ha aE bR aG hs bh) λU H Q aj => ?_
 obtain⟨F,B,fs,ok,s⟩:= aj;refine⟨F,B,fs,ok,As s λx ae F1 H1 u l au rx s1=>?_⟩;split at s1
 next he=>obtain⟨ts,fL⟩:=pK.mp he;obtain⟨a,vs,rfl,hs,q⟩:=AN au rx fL;exact⟨.inl ⟨rfl,vs,hs⟩,F1,B,ae,au,Ar s1 λrs aq F2 H2 us l2 q2 s2=>hg F2 B H2 U aq x rs _ us Q q2.1 (rx.le l2) q2.2 s2⟩
 .exact s1.elim
theorem JbO(hg:MtF X.K Z r g)(slot:Slot "list" name id)(bV:typeOf (.builtin id)=pure (.type "method_descriptor"))(hm:MtR X id r)(ho:FE X Z o fo)
  (aE:Zab X.env o name:=by rfl) (aG:(aA.endLine==ay.line)=true:=by rfl):FE X Z (.Call (.Attribute o name aA) [] [] ay) (Aw g fo Af):=by
 refine Ax (Ub plainAttrs_list slot bV hm ho aE aG) λU H Q aj => ?_
 obtain⟨F,B,fs,ok,s⟩:= aj;refine⟨F,B,fs,ok,As s λx ae F1 H1 u l au rx s1=>?_⟩;split at s1
 next he=>obtain⟨ts,fL⟩:=pK.mp he;obtain⟨a,vs,rfl,hs,q⟩:=AN au rx fL;exact⟨.inl ⟨rfl,vs,hs⟩,hg F1 B H1 U ae x [] _ [] Q au rx rfl s1⟩
 .exact s1.elim
theorem UG(hg:MtF X.K Z r g)(slot:Slot "str" name id)(bV:typeOf (.builtin id)=pure (.type "method_descriptor"))(hm:MtR X id r)(ho:FE X Z o fo)(ha:FA X Z (e::es) fa)
  (aE:Zab X.env o name:=by rfl)
  (bR:((backTo ay (starEach (e::es) X.env)).all (λx=>!x.1)&&(backToKw ay (keywordEach [] X.env)).all (λx=>x.1.isSome)
  &&decide ((e::es).length+([]:List Keyword).length+(if([]:List Keyword).isEmpty then 0 else 1)<30))=true:=by rfl)
  (aG:(aA.endLine==ay.line)=true:=by rfl) (hs:Zsc X.env e es:=by rfl) (bh:Zbt X.env ay es:=by rfl) :
  FE X Z (.Call (.Attribute o name aA) (e::es) [] ay) (Rq g fo fa):=by
 refine Ax (V0 PySem.F.plainAttrs_str slot bV hm ho ha aE bR aG hs bh) λU H Q aj => ?_
 obtain⟨F,B,fs,ok,s⟩:= aj;refine⟨F,B,fs,ok,As s λx ae F1 H1 u l au rx s1=>?_⟩;split at s1
 .have mJ:=rx;cases rx;exact⟨rfl,F1,B,ae,au,Ar s1 λrs aq F2 H2 us l2 q2 s2=>hg F2 B H2 U aq _ rs _ us Q q2.1 (Cv.le mJ l2) q2.2 s2⟩
 .exact s1.elim
end
def ET:Rv->List Rv->sT
 |.x i,[.t t],fs=>match Aq fs i with|some (.lst ts)=>if ts.length<big then .ok (.t .l) (putAt fs i (.lst (ts++[t])))else .bad|_=>.bad
 |_,_,_=>.bad
def Gi:Rv->List Rv->sT
 |.x i,[],fs=>match Aq fs i with
  |some (.lst ts)=>match ts.getLast? with|some t=>.ok (.t t) (putAt fs i (.lst ts.dropLast))|none=>.bad
  |_=>.bad
 |_,_,_=>.bad
def gExt:Rv->List Rv->sT
 |.x i,[.t (.lst us)],fs=>match Aq fs i with|some (.lst ts)=>if ts.length+us.length<=big then .ok (.t .l) (putAt fs i (.lst (ts++us)))else .bad|_=>.bad
 |_,_,_=>.bad
def KA:Rv->List Rv->sT
 |.t (.str z),[x],fs=>match(Bw fs x).bind CG with|some ys=>if(ys.map (·.length)).sum+ys.length*z.length<=big then okT (.str (Txt.join z ys)) fs else .bad|none=>.bad
 |_,_,_=>.bad
theorem Ah.last{t}(r:Ah K F H ts vs)(e:ts.getLast?=some t):∃z,vs=vs.dropLast++[z]/\Ay K F H t z/\Ah K F H ts.dropLast vs.dropLast:=by
 have hl:=r.len;rw[List.getLast?_eq_getElem?]at e;obtain⟨z,ez,rz⟩:=r.at e;have cz:=by have:=(n6.mp e).1;omega
 refine⟨z,?_,rz,?_⟩
 .have aW:vs≠[]:=by intro q;rw[q]at hl;simp at hl;omega
  have h1:=(oG aW).symm;have h2:vs.getLast aW=z:=by
   rw[List.getLast_eq_getElem];have:=(n6.mp ez)
   obtain⟨h3,h4⟩:=this;rw[<- h4];congr 1;rw[hl]
  rwa[h2]at h1
 .rw[List.dropLast_eq_take,List.dropLast_eq_take,hl];exact r.take _
theorem Okk.list(h:Okk K F B H fs U)(r:U[i]?=some (some u))(e:Aq fs i=some (.lst ts)):∃a vs,u=.ref a/\H a=some (.lst vs)/\Ah K F H ts vs /\
  ∀bI bB,Ah K F H bI bB->Okk K F B (L2.upd H a (.lst bB)) (putAt fs i (.lst bI)) U/\Le F H F (L2.upd H a (.lst bB)):=by
 obtain⟨a,vs,rfl,f,hs,q⟩:=(h.at r e).vals rfl;exact⟨a,vs,rfl,hs,q,λbI bB q'=>⟨h.updV e r f rfl rfl q',C4 f⟩⟩
meta theorem Jas:MtF K Z NN ET:=by
 intro F B H U fs x rs u vs Q ok rx q s;unfold ET at s;split at s
 .rename_i i t;obtain⟨v,rfl,qq⟩:=AO q;split at s
  .rename_i ts e;split at s
   next hl=>obtain⟨a,us,rfl,hs,r,k⟩:=ok.list rx e;obtain⟨bx,l⟩:=k (ts++[t]) (us++[v]) (r.app (Ah.one qq));exact⟨a,us,v,rfl,rfl,hs,by rw[r.len];exact pE hl EV,s F _ _ l (RR.of bx rfl)⟩
   .exact s.elim
  .exact s.elim
 .exact s.elim
theorem Jaq:MtF K Z (λx vs H Q=>∃l e z,x=.ref l/\vs=[]/\H l=some (.lst (e++[z]))/\Q z (upd H l (.lst e))) Gi:=by
 intro F B H U fs x rs u vs Q ok rx q s;unfold Gi at s;split at s
 .have:=q;subst this;split at s
  .rename_i ts e;split at s
   next t et=>obtain⟨a,us,rfl,hs,r,k⟩:=ok.list rx e;obtain⟨z,ez,rz,rd⟩:=r.last et;obtain⟨bx,l⟩:=k _ _ rd;refine⟨a,us.dropLast,z,rfl,rfl,by rw[<- ez];exact hs,s F _ z l (RR.of bx (Ay.le l rz))⟩
   .exact s.elim
  .exact s.elim
 .exact s.elim
theorem Jar:MtF K Z HB gExt:=by
 intro F B H U fs x rs u vs Q ok rx q s;unfold gExt at s;split at s
 .rename_i i ws;obtain⟨v,rfl,qq⟩:=AO q;split at s
  .rename_i ts e;split at s
   next hl=>obtain⟨a,us,rfl,hs,r,k⟩:=ok.list rx e;obtain⟨b,zs,rfl,f,hb,rz⟩:=qq;obtain⟨bx,l⟩:=k _ _ (r.app rz);exact⟨a,b,us,zs,rfl,rfl,hs,hb,by rw[r.len,rz.len];exact oB hl Dx,s F _ _ l (RR.of bx rfl)⟩
   .exact s.elim
  .exact s.elim
 .exact s.elim
theorem Wv:MtF K Z (λx xs H Q=>∃(z:Str)(l:Addr)(ys:List Str),x=.str z/\xs=[.ref l]/\SqL K H l (ys.map V.str)/\(ys.map (·.length)).sum+ys.length*z.length<=16777216/\Q (.str (Txt.join z ys)) H) KA:=by
 intro F B H U fs x rs u vs Q ok rx q s;unfold KA at s;split at s
 .rename_i z x;obtain⟨v,rfl,qq⟩:=AO q;cases rx;split at s
  .rename_i ys e;rw[ot]at e;obtain⟨ts,e1,e2⟩:=e;split at s
   next hl=>obtain⟨a,us,rfl,hs,r⟩:=AN ok qq e1;rw[GB e2]at r;rw[Ah.strs r]at hs;exact⟨z,a,ys,rfl,rfl,hs,oB hl (by decide),s F H _ Le.refl (RR.of ok rfl)⟩
   .exact s.elim
  .exact s.elim
 .exact s.elim
def FH:T->Option Key
 |.int i=>some (.inl i)
 |.str x=>some (.inr x)
 |_=>none
def Ee:List T->Option (List Key)
 | []=>some []
 |t::r=>(FH t).bind λk=>(Ee r).map (k::·)
theorem CM{t}(e:FH t=some k)(r:Ay K F H t u):u=kV k:=by
 unfold FH at e;split at e
 .cases e;exact r
 .cases e;exact r
 .cases e
theorem FG:∀{ts:List T}{us:List V}{ks:List Key},Ee ts=some ks->Ah K F H ts us->us=ks.map kV
 | [],_,_,e,r=>by cases e;exact r
 |t::ts,_,_,e,r=>by simp only[Ee,ot,nY]at e;obtain⟨k,e1,ks,e2,rfl⟩:=e;obtain⟨v,w,rfl,r1,r2⟩:=r;rw[nQ,FG e2 r2,CM e1 r1]
def By{κ:Type}[DecidableEq κ]:List κ->List T->κ->Option T
 |k::ks,t::ts,j=>if k=j then some t else By ks ts j
 |_,_,_=>none
def GL{κ:Type}[DecidableEq κ](ks:List κ)(ts:List T)(j:κ)(v:T):List κ×List T :=
 if(ks.any λk=>decide (k=j))=true then(ks,List.zipWith (λk t=>if k=j then v else t) ks ts)else(ks++[j],ts++[v])
section
variable{κ:Type}[DecidableEq κ]
theorem E6:∀{af:List (κ×V)}{ts:List T}{j:κ},Ah K F H ts (af.map (·.2))->(By (af.map (·.1)) ts j=none/\J6 af j=none)\/∃t v,By (af.map (·.1)) ts j=some t/\J6 af j=some v/\Ay K F H t v
 | [],ts,j,r=>by have h:=r.len;cases ts with|nil=>exact .inl ⟨rfl,rfl⟩|cons t ts=>simp at h
 |(k,v)::af,ts,j,r=>by
  cases ts with
  |nil =>have h:=r.len;simp at h
  |cons t ts =>
   obtain⟨v',w,e,r1,r2⟩:=r;cases e;by_cases hk:k=j
   .refine .inr ⟨t,v,?_,Eb hk,r1⟩;simp only[nQ,By];rw[if_pos hk]
   .have e1:By (((k,v)::af).map (·.1)) (t::ts) j=By (af.map (·.1)) ts j:=by simp only[nQ,By];rw[if_neg hk]
    rw[e1,Ec hk];exact E6 r2
theorem Nh{j:κ}{t:T}{w:V}(q:Ay K F H t w):∀{af:List (κ×V)}{ts:List T},Ah K F H ts (af.map (·.2)) ->
  Ah K F H (List.zipWith (λk t'=>if k=j then t else t') (af.map (·.1)) ts) ((af.map λkv=>if kv.1=j then(kv.1,w)else kv).map (·.2))
 | [],ts,r=>by have h:=r.len;cases ts with|cons t ts=>simp at h|nil=>exact rfl
 |(k,v)::af,ts,r=>by
  cases ts with
  |nil =>have h:=r.len;simp at h
  |cons t' ts =>
   simp only[nQ,Ah]at r;obtain⟨v',w',e,r1,r2⟩:=r;cases e;have ih:=Nh q (j:=j) r2;simp only[nQ,List.zipWith_cons_cons,Ah];by_cases hk:k=j
   .rw[if_pos hk,if_pos hk];exact⟨w,_,rfl,q,ih⟩
   .rw[if_neg hk,if_neg hk];exact⟨v,_,rfl,r1,ih⟩
theorem Fi{j}{t}(q:Ay K F H t w){af:List (κ×V)}(r:Ah K F H ts (af.map (·.2))):
  (putK af j w).map (·.1)=(GL (af.map (·.1)) ts j t).1/\Ah K F H (GL (af.map (·.1)) ts j t).2 ((putK af j w).map (·.2)):=by
 have e:((af.map (·.1)).any λk=>decide (k=j))=(af.any λkv=>decide (kv.1=j)):=by rw[List.any_map];rfl
 unfold putK GL;rw[e];by_cases h:(af.any λkv=>decide (kv.1=j))=true
 .rw[if_pos h,if_pos h];refine⟨?_,Nh q r⟩;rw[om];refine List.map_congr_left λp hp=>?_
  show(if p.1=j then(p.1,w)else p).1=p.1;split<;>rfl
 .rw[if_neg h,if_neg h];refine⟨by rw[nU];rfl,?_⟩;rw[nU];exact r.app (Ah.one q)
end
def XJ(fs:FS):Rv->T->Option (Option T)
 |.t (.n ks ts),y=>(FH y).map λk=>By ks ts k
 |.t (.dF ks ts),y=>(FH y).map λk=>By ks ts k
 |.t (.dT ks ts),.tup y=>(Ee y).map λk=>By ks ts k
 |.x i,y=>match Aq fs i with
  |some (.n ks ts)=>(FH y).map λk=>By ks ts k
  |some (.dT ks ts)=>match y with
   |.tup y=>(Ee y).map λk=>By ks ts k
   |_=>none
  |_=>none
 |_,_=>none
meta theorem PJ{x}{o:Option T}(h:Okk K F B H fs U)(rx:Cv K F H U x u)(ry:Ay K F H y w)(e:XJ fs x y=some o):
  ∃a o',u=.ref a/\J1 H a w o'/\((o=none/\o'=none)\/∃t v,o=some t/\o'=some v/\Ay K F H t v):=by
 have key:∀{a:Addr}{af:List (Key×V)}{ts:List T},Rd H a (.n af)->Ah K F H ts (af.map (·.2))->(FH y).map (λk=>By (af.map (·.1)) ts k)=some o ->
   ∃o',J1 H a w o'/\((o=none/\o'=none)\/∃t v,o=some t/\o'=some v/\Ay K F H t v):=by
  intro a af ts hd r e;rw[nY]at e;obtain⟨k,ek,eo⟩:=e;have:=CM ek ry;subst this;refine⟨_,.inl ⟨af,k,hd,rfl,rfl⟩,?_⟩;rcases E6 (j:=k) r with⟨h1,h2⟩|⟨t,v,h1,h2,h3⟩
  .exact .inl ⟨eo.symm.trans h1,h2⟩
  .exact .inr ⟨t,v,eo.symm.trans h1,h2,h3⟩
 have J0:∀{a:Addr}{af:List (List Key×V)}{ts ys:List T},H a=some (.dT af)->Ah K F H ts (af.map (·.2))->y=.tup ys->(Ee ys).map (λk=>By (af.map (·.1)) ts k)=some o ->
   ∃o',J1 H a w o'/\((o=none/\o'=none)\/∃t v,o=some t/\o'=some v/\Ay K F H t v):=by
  intro a af ts ys hd r ey e;rw[nY]at e;obtain⟨k,ek,eo⟩:=e;subst ey;simp only[Ay]at ry;obtain⟨b,vs,rfl,hb,rb⟩:=ry;have:=FG ek rb;subst this;refine⟨_,J1.t hd hb.2.2,?_⟩;rcases E6 (j:=k) r with⟨h1,h2⟩|⟨t,v,h1,h2,h3⟩
  .exact .inl ⟨eo.symm.trans h1,h2⟩
  .exact .inr ⟨t,v,eo.symm.trans h1,h2,h3⟩
 cases x with
 |nw=>cases e
 |t t =>
  simp only[Cv]at rx;cases t with
  |n =>simp only[Ay]at rx;obtain⟨a,af,rfl,f,hd,rfl,r⟩:=rx;exact let⟨o',h⟩:=key hd r e;⟨a,o',rfl,h⟩
  |dF =>simp only[Ay]at rx;obtain⟨a,af,rfl,f,⟨ob,hd⟩,rfl,r⟩:=rx;exact let⟨o',h⟩:=key (.inr ⟨ob,hd⟩) r e;⟨a,o',rfl,h⟩
  |dT =>cases y with|tup ys =>simp only[Ay]at rx;obtain⟨a,af,rfl,f,hd,rfl,r⟩:=rx;exact let⟨o',h⟩:=J0 hd r rfl e;⟨a,o',rfl,h⟩|_=>cases e
  |_=>cases e
 |x i =>
  change (match Aq fs i with|some (.n ks ts)=>(FH y).map λk=>By ks ts k|some (.dT ks ts)=>(match y with|.tup y=>(Ee y).map λk=>By ks ts k|_=>none)|_=>none)=some o at e
  split at e
  next eo=>obtain⟨a,_,rfl,_,⟨af,hd,rfl,rfl⟩,r⟩:=(h.at rx eo).vals rfl;exact let⟨o',h⟩:=key (.inl hd) r e;⟨a,o',rfl,h⟩
  next eo=>cases y with|tup ys =>obtain⟨a,_,rfl,_,⟨af,hd,rfl,rfl⟩,r⟩:=(h.at rx eo).vals rfl;exact let⟨o',h⟩:=J0 hd r rfl e;⟨a,o',rfl,h⟩|_=>cases e
  .cases e
def KC:sS
 |x,.t y,fs=>match XJ fs x y with|some (some t)=>okT t fs|_=>.bad
 |_,_,_=>.bad
def W8(neg:Bool):sS
 |.t y,x,fs=>match XJ fs x y with|some o=>okT (.v (if neg then !o.isSome else o.isSome)) fs|_=>.bad
 |_,_,_=>.bad
def E7:List Str->List T->Str->Option T
 |f::fs,t::ts,g=>if g==f then some t else E7 fs ts g
 |_,_,_=>none
def AQ:List Str->List FO->Str->Option FO
 |f::fs,t::ts,g=>if g==f then some t else AQ fs ts g
 |_,_,_=>none
def W7(C:Addr)(f:Str):Rv->sT
 |.t (.ins C' fs ts),st=>if C'=C then match E7 fs ts f with|some t=>okT t st|none=>.bad
  else .bad
 |.x i,st=>match Aq st i with
  |some (.ins C' fs os)=>if C'=C then match AQ fs os f with|some (.val t)=>okT t st|_=>.bad
   else .bad
  |_=>.bad
 |_,_=>.bad
theorem K4{g}:∀{af:List (Str×V)}{ts:List T}{t:T},Ah K F H ts (af.map (·.2))->E7 (af.map (·.1)) ts g=some t->∃v,af.lookup g=some v/\Ay K F H t v
 | [],ts,t,r,e=>by cases ts<;>simp[E7]at e
 |(k,v)::af,ts,t,r,e=>by cases ts with|nil=>simp[E7]at e|cons t' ts =>obtain⟨v',w',ee,r1,r2⟩:=r;cases ee;simp only[nQ,E7]at e;rw[oR];cases hb:g==k with|true =>rw[hb]at e;cases e;exact⟨v,rfl,r1⟩|false =>rw[hb]at e;exact K4 r2 (by simpa using e)
theorem K3{g}{t}:∀{af:List (Str×V)}{os:List FO},AQ (af.map (·.1)) os g=some t->∃(k:Nat)(v:V),os[k]?=some t/\(af.map (·.2))[k]?=some v/\af.lookup g=some v
 | [],os,e=>by cases os<;>simp[AQ]at e
 |(k,v)::af,[],e=>by simp[AQ]at e
 |(k,v)::af,o::os,e=>by simp only[nQ,AQ]at e;rw[oR];cases hb:g==k with|true=>rw[hb]at e;cases e;exact⟨0,v,rfl,rfl,rfl⟩|false=>rw[hb]at e;exact let⟨n,w,h⟩:=K3 (by simpa using e);⟨n+1,w,h⟩
def Cg(C:Addr)(f:Str)(fo:sT):sT:=λfs=>(fo fs).bnd λx fs=>W7 C f x fs
meta theorem JbL(c:Cls X.K C)(n:AH X.K C f)(ho:FE X Z o fo)(hb:Zab X.env o f:=by rfl):FE X Z (.Attribute o f pos) (Cg C f fo):=by
 refine Ax (EO ho hb) λU H Q aj => ?_
 obtain⟨F,B,fs,ok,s⟩:= aj;refine⟨F,B,fs,ok,As s λx ae F1 H1 u l au rx s1=>?_⟩;unfold W7 at s1;split at s1
 .rename_i C' gs ts;split at s1
  .rename_i hC;subst hC;split at s1
   next t e=>obtain⟨a,dx,af,rfl,ff,hd,rfl,r⟩:=rx;obtain⟨v,e1,rv⟩:=K4 r e;exact⟨a,C',dx,af,v,rfl,hd,c,n,e1,s1 F1 H1 v Le.refl (RR.of au rv)⟩
   .exact s1.elim
  .exact s1.elim
 .rename_i i;split at s1
  .rename_i C' gs os eo;split at s1
   .rename_i hC;subst hC;split at s1
    next t e=>obtain⟨a,_,rfl,_,⟨dx,af,hd,rfl,rfl⟩,hl,r⟩:=(au.at rx eo).inv rfl;obtain⟨k,v2,e2,e3,e4⟩:=K3 e;exact⟨a,C',dx,af,v2,rfl,hd,c,n,e4,s1 F1 H1 v2 Le.refl (RR.of au (r k _ v2 e2 e3).t)⟩
    .exact s1.elim
   .exact s1.elim
  .exact s1.elim
 .exact s1.elim
def Fe(K:Fg)(Z:Xp)(B:sY)(F:Wd)(H:Hp)(o:SO)(D:Ends):Prop:=match o with|.nx fs=>∀F' H' U,Le F H F' H'->Okk K F' B H' fs U->D.nx U H'|.ret r fs=>∀F' H' U u,Le F H F' H'->RR K B U F' H' fs r u->D.rt u H'|.brk fs=>∀F' H' U,Le F H F' H'->Okk K F' B H' fs U->D.bk U H'|.cnt fs=>∀F' H' U,Le F H F' H'->Okk K F' B H' fs U->D.ct U H'|.exc c fs=>Z.p F B H c fs|.bad=>False
inductive tSt(K:Fg)(Z:Xp)(g:FS->SO)(D:Ends)(U:St)(H:Hp):Prop
 |mk (F:Wd) (B:sY) (fs:FS) (h0:Okk K F B H fs U) (h1:Fe K Z B F H (g fs) D)
def GS(X:Cx)(Z:Xp)(st:Stmt)(g:FS->SO):Prop:=PS X st (tSt X.K Z g)
def GSs(X:Cx)(Z:Xp)(i7:List Stmt)(g:FS->SO):Prop:=PSs X i7 (tSt X.K Z g)
theorem Fe.le{o}(h:Fe K Z B F H o D)(l:Le F H F' H'):Fe K Z B F' H' o D:=by
 cases o with
 |nx fs=>exact λF2 H2 U l2 k=>h F2 H2 U (l.trans l2) k
 |ret r fs=>exact λF2 H2 U u l2 k=>h F2 H2 U u (l.trans l2) k
 |brk fs=>exact λF2 H2 U l2 k=>h F2 H2 U (l.trans l2) k
 |cnt fs=>exact λF2 H2 U l2 k=>h F2 H2 U (l.trans l2) k
 |exc c fs=>exact Z.mono h l
 |bad=>exact h
def nxS:FS->SO:=λfs=>.nx fs
def Aj(g h:FS->SO):FS->SO:=λfs=>match g fs with|.nx fs=>h fs|o=>o
def SO.of{α:Type}(o:Out α)(k:α->FS->SO):SO:=match o with|.ok a fs=>k a fs|.exc c fs=>.exc c fs|.bad=>.bad
theorem BS{α β:Type}{R:Wd->Hp->FS->α->β->Prop}{o:Out α}{k:α->FS->SO}{D:Ends}{Q:β->Hp->Prop}(h:Fe K Z B F H (SO.of o k) D)
  (hk:∀a fs F' H' b,Le F H F' H'->R F' H' fs a b->Fe K Z B F' H' (k a fs) D->Q b H'):sat Z B R F H o Q:=by
 cases o with
 |ok a fs=>exact λF2 H2 b l r=>hk a fs F2 H2 b l r (Fe.le h l)
 |exc c fs=>exact h
 |bad=>exact h
def putSl(i:Nat)(r:Rv)(fs:FS):Option FS:=match r with|.t t=>some (fs.set i (some (.val t)))|.nw o=>some (fs.set i (some (.own o)))|.x _=>none
def GH(i:Nat)(r:Rv)(fs:FS):Option FS:=match fs[i]? with|none=>none|some (some (.bor _))=>none|some _=>putSl i r fs
meta theorem Kh{r}(h:RR K B U F H fs r u)(e:GH i r fs=some ak):∃F',Le F H F' H/\Okk K F' B H ak (U.set i (some u)):=by
 have e:=by
  unfold GH at e;split at e
  .cases e
  .cases e
  .exact e
 obtain⟨ok,q⟩:=h;cases r with|t t=>cases e;exact⟨F,Le.refl,ok.set Le.refl.f (λ_ _ _ _ z=>⟨z,rfl⟩) ok.td λs e=>by cases e;exact⟨u,rfl,q⟩⟩|nw o=>cases e;exact⟨_,Le.re,ok.re.set Le.refl.f (λ_ _ _ _ z=>⟨z,rfl⟩) ok.re.td λs e=>by cases e;exact⟨u,rfl,A6.mvR q⟩⟩|x j=>cases e
def Av(i:Nat)(f:sT):FS->SO:=λfs=>SO.of (f fs) λr fs=>match GH i r fs with|some fs=>.nx fs|none=>.bad
def Au(f:sT):FS->SO:=λfs=>SO.of (f fs) λ_ fs=>.nx fs
def retS(f:sT):FS->SO:=λfs=>SO.of (f fs) λr fs=>.ret r fs
def ifS(c:sV)(g h:FS->SO):FS->SO:=λfs=>SO.of (c fs) λb fs=>if b=true then g fs else h fs
variable{st:Stmt}{rest:List Stmt}{c:Expr}{g h:FS->SO}
theorem WY:GSs X Z [] nxS:=NT VH λD U H ⟨F,B,fs,ok,s⟩=>s F H U Le.refl ok
theorem RM(h1:GS X Z st g)(h2:GSs X Z rest h):GSs X Z (st::rest) (Aj g h):=by
 refine NT (QY h1 h2) λD U H aj => ?_
 obtain⟨F,B,fs,ok,s⟩:= aj;refine⟨F,B,fs,ok,?_⟩;unfold Aj at s;cases e:g fs with
 |nx ae =>rw[e]at s;exact λF1 H1 cF l k=>⟨F1,B,ae,k,Fe.le s l⟩
 |ret r ae=>rwa[e]at s
 |brk ae=>rwa[e]at s
 |cnt ae=>rwa[e]at s
 |exc c ae=>rwa[e]at s
 |bad=>rwa[e]at s
theorem WX(h1:GS X Z st g):GSs X Z [st] g:=VG h1
theorem WZ(he:FE X Z e f)(hs:swapsWith e none pos.line X.env=pure false:=by rfl):GS X Z (.Expr e pos) (Au f) :=
 BV (VI he hs) λD U H ⟨F,B,fs,ok,s⟩=>⟨F,B,fs,ok,BS s λr ae F1 H1 u l q s1=>s1 F1 H1 U Le.refl q.ok⟩
theorem Ja1(he:FE X Z e f):GS X Z (.Return (some e) pos) (retS f) :=
 BV (ZL he) λD U H ⟨F,B,fs,ok,s⟩=>⟨F,B,fs,ok,BS s λr ae F1 H1 u l q s1=>s1 F1 H1 U u Le.refl q⟩
theorem gs_if{a}{b}(hc:FT X Z c fc)(ha:GSs X Z a g)(hb:GSs X Z b h):GS X Z (.If c a b pos) (ifS fc g h):=by
 refine BV (ps_if hc ha hb) λD U H aj => ?_
 obtain⟨F,B,fs,ok,s⟩:= aj;refine⟨F,B,fs,ok,BS s λr ae F1 H1 u l q s1=>?_⟩;obtain⟨au,rfl⟩:=q;cases u with|true =>exact⟨F1,B,ae,au,s1⟩|false =>exact⟨F1,B,ae,au,s1⟩
meta theorem Zj(s:tSt K Z (Av i f) D U H):Zb (tF K Z f) (R6 i) D U H:=by
 obtain⟨F,B,fs,ok,s⟩:=s;refine⟨F,B,fs,ok,BS s λr ae F1 H1 u l q s1=>?_⟩;split at s1
 next aq e2=>exact let⟨F2,l2,ok⟩:=Kh q e2;s1 F2 H1 _ l2 ok
 .exact s1.elim
theorem Ja0(i:Nat)(hN:X.N.Nodup)(hx:Loc X.env.scope x)(he:FE X Z e f)(hi:X.N[i]?=some x:=by rfl)(hs:swapsWith e (some (.Name x aP)) pos.line X.env=pure false:=by rfl)(hf:X.fn x=true\/X.env.scope.names.lookup x=some .local:=by first|exact .inl rfl|exact .inr rfl|assumption):
  GS X Z (.Assign [.Name x aP] e pos) (Av i f) :=
 BV (ZK hN hi hx he hs hf) λ_ _ _ s=>Zj s
def tG(K:Fg)(gt:sW):TG:=λv U H Q=>∃F B fs t,Okk K F B H fs U/\Ay K F H t v/\match gt t fs with|some ak=>∀F' H' ax,Le F H F' H'->Okk K F' B H' ak ax->Q ax H'|none=>False
def tGs(K:Fg)(gt:List T->FS->Option FS):TGs:=λvs U H Q=>∃F B fs ts,Okk K F B H fs U/\Ah K F H ts vs/\match gt ts fs with|some ak=>∀F' H' ax,Le F H F' H'->Okk K F' B H' ak ax->Q ax H'|none=>False
def GT(X:Cx)(tg:Expr)(gt:sW):Prop:=PG X tg (tG X.K gt)
def GTs(X:Cx)(tgs:List Expr)(gt:List T->FS->Option FS):Prop:=PGs X tgs (tGs X.K gt)
theorem T8{t}(h:PG X e t)(i:∀v U H Q,t' v U H Q->t v U H Q):PG X e t':=λaa s U H v u Q I r q=>h aa s U H v u Q I r (i _ _ _ _ q)
theorem N4{e}{t}(h:PGs X e t)(i:∀v U H Q,t' v U H Q->t v U H Q):PGs X e t':=λaa s U H v u Q I r q=>h aa s U H v u Q I r (i _ _ _ _ q)
def tgN(i:Nat):sW:=λt fs=>GH i (.t t) fs
def AB:List T->FS->Option FS
 | [],fs=>some fs
 |_,_=>none
def Ai(g:sW)(h:List T->FS->Option FS):List T->FS->Option FS
 |t::ts,fs=>(g t fs).bind λfs=>h ts fs
 |_,_=>none
def AD(n:Nat)(h:List T->FS->Option FS):sW
 |.tup ts,fs=>if ts.length=n then h ts fs else none
 |_,_=>none
meta theorem WW(i:Nat)(hN:X.N.Nodup)(hx:Loc X.env.scope x)(hi:X.N[i]?=some x:=by rfl)(hf:X.fn x=true\/X.env.scope.names.lookup x=some .local:=by first|exact .inl rfl|exact .inr rfl|assumption):GT X (.Name x pos) (tgN i):=by
 refine T8 (VT hN hi hx hf) λv U H Q aj=>?_
 obtain⟨F,B,fs,t,ok,r,s⟩:= aj;split at s
 next ak e=>exact let⟨F2,l2,ok⟩:=Kh (RR.of (r:=.t t) ok r) e;s F2 H _ l2 ok
 .exact s.elim
theorem WV:GTs X [] AB:=by
 refine N4 VS λv U H Q aj=>?_
 obtain⟨F,B,fs,ts,ok,r,s⟩:= aj;cases ts with|nil=>exact⟨r,s F H U Le.refl ok⟩|cons t ts=>exact s.elim
theorem RL{g}{h}(h1:GT X e g)(h2:GTs X es h)
  (hc:∀{t:TG}{u:TGs},PG X e t->PGs X es u->PGs X (e::es) (Jbc t u)):GTs X (e::es) (Ai g h):=by
 refine N4 (hc h1 h2) λv U H Q aj=>?_
 obtain⟨F,B,fs,ts,ok,r,s⟩:= aj;cases ts with
 |nil=>exact s.elim
 |cons t ts =>
  obtain⟨v',w,rfl,r1,r2⟩:=r;refine⟨v',w,rfl,F,B,fs,t,ok,r1,?_⟩;simp only[Ai]at s;cases e1:g t fs with
  |none=>rwa[e1]at s
  |some ae =>
   rw[e1]at s;exact λF1 H1 cF l k=>⟨F1,B,ae,ts,k,r2.le l,by
    simp only[oH]at s;split at s
    .exact λF2 H2 eJ l2 k2=>s F2 H2 eJ (l.trans l2) k2
    .exact s.elim⟩
meta theorem JaZ{h}(hc:X.calm=true)(h1:GTs X es h)(hn:(assignEach es X.env).length=n:=by rfl)(dJ:(assignEach es X.env).findIdx? (·.1)=none:=by rfl):GT X (.Tuple es k pos) (AD n h):=by
 refine T8 (ZR hc h1 hn dJ) λv U H Q aj=>?_
 obtain⟨F,B,fs,t,ok,r,s⟩:= aj;unfold AD at s;split at s
 .rename_i ak e;split at e
  .rename_i ts;split at e
   next hl=>obtain⟨a,vs,rfl,hs,r⟩:=r;refine⟨a,vs,rfl,hs.sq,by rw[r.len];exact hl,F,B,fs,ts,ok,r,?_⟩;rwa[e]
   .cases e
  .cases e
 .exact s.elim
def Et(f:sT)(g:sW):FS->SO:=λfs=>SO.of (f fs) λr fs=>match r with
 |.t t=>match g t fs with|some fs=>.nx fs|none=>.bad
 |_=>.bad
meta theorem Ja4{g}(he:FE X Z e f)(hg:GT X tg g)(hs:swapsWithSole [tg] e pos.line X.env=pure false:=by rfl)(hw:swappedStores [tg] e X.env=pure none:=by rfl)
  (h1:(assignEach [tg] X.env).map (·.2)=[assign tg X.env]:=by rfl):GS X Z (.Assign [tg] e pos) (Et f g):=by
 refine BV (T3 he hg hs hw h1) λD U H aj => ?_
 obtain⟨F,B,fs,ok,s⟩:= aj;refine⟨F,B,fs,ok,BS s λr ae F1 H1 u l q s1=>?_⟩;split at s1
 .rename_i t;obtain⟨o1,q⟩:=q;refine⟨F1,B,ae,t,o1,q,?_⟩;split at s1
  next aq e2=>exact λF2 H2 eJ l2 k2=>s1 F2 H2 eJ l2 k2
  .exact s1.elim
 .exact s1.elim
def Nw(K:Fg)(F:Wd)(H:Hp)(F':Wd)(H':Hp):Prop:=Le F H F' H'/\∀B fs U,Okk K F B H fs U->Okk K F' B H' fs U
theorem Nw.refl:Nw K F H F H:=⟨Le.refl,λ_ _ _ h=>h⟩
def JOk(K:Fg)(F:Wd)(H:Hp)(J:It)(ts:List T):Prop:=∀(F':Wd)(H':Hp),(∀a,F a->F' a/\H' a=H a)->(∃B fs U,Okk K F' B H' fs U)->∀i,(∀t,ts[i]?=some t->J.go i H'/\∀x cG,J.yV i H' x cG->∃F'',Nw K F' H' F'' cG/\Ay K F'' cG t x)/\(ts.length<=i->J.stop i H')
theorem JOk.within(h:JOk K F H J ts)(f:∀a,F a->F2 a):JOk K F2 H J ts:=λF3 H3 l=>h F3 H3 λa z=>l a (f a z)
theorem stays{t}{x}(e:H'=H)(r:Ay K F H t x):∃F',Nw K F H F' H'/\Ay K F' H' t x:=by subst e;exact⟨F,Nw.refl,r⟩
def RJ(K:Fg)(B:sY)(U:St):Wd->Hp->FS->List T->It->Prop:=λF H fs ts J=>Okk K F B H fs U/\JOk K F H J ts
inductive tI(K:Fg)(Z:Xp)(f:sX)(U:St)(H:Hp)(R:It->Hp->Prop):Prop
 |mk (F:Wd) (B:sY) (fs:FS) (h0:Okk K F B H fs U) (h1:sat Z B (RJ K B U) F H (f fs) R)
def FI(X:Cx)(Z:Xp)(tg av:Expr)(f:sX):Prop:=PI X tg av (tI X.K Z f)
theorem G8{t}(h:PI X tg e t)(i:∀U H Q,t' U H Q->t U H Q):PI X tg e t':=λaa s U H Q I q=>h aa s U H Q I (i _ _ _ q)
def signs(z:Str):List T:=z.cps.toList.map λc=>T.str ⟨#[c]⟩
def upTo(lo:Int)(n:Nat):List T:=(List.range n).map λi=>T.int (lo+(i:Nat))
def upBy(lo st:Int)(n:Nat):List T:=(List.range n).map λi=>T.int (lo+(i:Nat)*st)
def ES(f:sU):sX:=λfs=>(f fs).bind λrs fs=>match rs with| [.t (.int j)]=>if -(2^62)<=j/\j<2^62 then .ok (upTo 0 j.toNat) fs else .bad|_=>.bad
def itR3(f:sU):sX:=λfs=>(f fs).bind λrs fs=>match rs with| [x,y,z]=>(match Ym x,Ym y with|some i,some j=>(match Ym z with|some c=>if 0<c/\c<1073741824/\Builtin.Range.small i j c=true/\0<=Builtin.Range.rangeSize i j c then .ok (upBy i c (Builtin.Range.rangeSize i j c).toNat) fs else .bad|none=>.bad)|_,_=>.bad)|_=>.bad
theorem LC{a:Addr}(hs:∀(F':Wd) H',(∀a,F a->F' a/\H' a=H a)->SqL K H' a vs)(r:Ah K F H ts vs):JOk K F H (Itl K a) ts:=by intro F' H' l _ i;refine⟨λt et=>?_,λhl=>⟨vs,hs F' H' l,by rwa[r.len]⟩⟩;obtain⟨v,ev,rv⟩:=(Ah.lf l r).at et;refine⟨⟨vs,v,hs F' H' l,ev⟩,λx cG hy=>stays hy.1 ?_⟩;have:=hy.2 vs (hs F' H' l);rw[ev]at this;cases this;exact rv
theorem WJ{a:Addr}(hs:∀(F':Wd) H',(∀a,F a->F' a/\H' a=H a)->SqT K H' a vs)(r:Ah K F H ts vs):JOk K F H (Itt K a) ts:=by intro F' H' l _ i;refine⟨λt et=>?_,λhl=>⟨vs,hs F' H' l,by rwa[r.len]⟩⟩;obtain⟨v,ev,rv⟩:=(Ah.lf l r).at et;refine⟨⟨vs,v,hs F' H' l,ev⟩,λx cG hy=>stays hy.1 ?_⟩;have:=hy.2 vs (hs F' H' l);rw[ev]at this;cases this;exact rv
theorem OM:JOk K F H (Itr lo n) (upTo lo n):=by
 intro F' H' l _ i;refine⟨λt et=>?_,λhl=>by unfold upTo at hl;simpa[Itr]using hl⟩;unfold upTo at et;rw[ou]at et;have hi:i<n:=by
  by_cases h:i<n
  .exact h
  .rw[oQ (by simpa using h)]at et;cases et
 rw[pO hi]at et;cases et;exact⟨hi,λx cG hy=>stays hy.1 hy.2⟩
theorem MI{st}:JOk K F H (Itrs lo st n) (upBy lo st n):=by
 intro F' H' l _ i;refine⟨λt et=>?_,λhl=>by unfold upBy at hl;simpa[Itrs]using hl⟩;unfold upBy at et;rw[ou]at et;have hi:i<n:=by
  by_cases h:i<n
  .exact h
  .rw[oQ (by simpa using h)]at et;cases et
 rw[pO hi]at et;cases et;exact⟨hi,λx cG hy=>stays hy.1 hy.2⟩
theorem WK:JOk K F H (Its z) (signs z):=by
 intro F' H' l _ i;refine⟨λt et=>?_,λhl=>by unfold signs at hl;simpa[Its]using hl⟩;unfold signs at et;rw[ou,nY]at et;obtain⟨c,ec,rfl⟩:=et;have hi:=by have:=(n6.mp ec).1;simpa using this
 refine⟨hi,λx cG hy=>stays hy.1 ?_⟩;obtain⟨c',e1,e2⟩:=hy.2;rw[Array.getElem?_toList]at ec;rw[ec]at e1;cases e1;exact e2
meta theorem Pl(hm:X.mg "range"=none)(ha:FA X Z [a] fa)(hg:Gl X "range":=by rfl)(hs:Zs1 X.env a:=by rfl):FI X Z tg (.Call (.Name "range" p) [a] [] pos) (ES fa):=by
 refine G8 (N3 hg hm ha hs) λU H Q aj => ?_
 obtain⟨F,B,fs,ok,s⟩:= aj;refine⟨F,B,fs,ok,Ar s λrs ae F1 H1 us l q s1=>?_⟩;obtain⟨au,q⟩:=q;split at s1
 .rename_i j;split at s1
  next hj=>obtain⟨v,rfl,qq⟩:=AO q;cases qq;exact⟨j,rfl,hj.1,hj.2,s1 F1 H1 _ Le.refl ⟨au,OM⟩⟩
  .exact s1.elim
 .exact s1.elim
theorem Pk(ha:FA X Z [a,b,c] fa)
  (h:∀{ta:TA},PA X [a,b,c] ta->PI X tg (.Call (.Name "range" p) [a,b,c] [] pos) (JaU ta)):FI X Z tg (.Call (.Name "range" p) [a,b,c] [] pos) (itR3 fa):=by
 refine G8 (h ha) λU H Q aj => ?_
 obtain⟨F,B,fs,ok,s⟩:= aj;refine⟨F,B,fs,ok,Ar s λrs ae F1 H1 us l q s1=>?_⟩;obtain⟨au,q⟩:=q;split at s1
 .split at s1
  .split at s1
   .rename_i e1 e2 _ _ e3;split at s1
    next hj=>cases Gg e1;cases Gg e2;cases Gg e3;obtain⟨v,w,rfl,q1,v2,w2,rfl,q2,v3,w3,rfl,q3,q4⟩:=q;cases q1;cases q2;cases q3;cases q4;exact⟨_,_,_,rfl,hj.1,hj.2.1,hj.2.2.1,hj.2.2.2,s1 F1 H1 _ Le.refl ⟨au,MI⟩⟩
    .exact s1.elim
   .exact s1.elim
  .exact s1.elim
 .exact s1.elim
def Dl(gt:sW)(body:FS->SO):List T->FS->SO
 | [],fs=>.nx fs
 |t::ts,fs=>match gt t fs with|none=>.bad|some fs=>match body fs with|.nx fs=>Dl gt body ts fs|.cnt fs=>Dl gt body ts fs|.brk fs=>.nx fs|o=>o
def BB(src:sX)(gt:sW)(body:FS->SO):FS->SO:=λfs=>SO.of (src fs) λts fs=>Dl gt body ts fs
theorem Ja2(hp:PassesOwn (model X.prog X.w) X.A X.env X.xe)(hc:X.calm=true)(hi:FI X Z tg av src)(hg:GT X tg gt)(hb:GSs X Z body g)
  (hs:Zfs X.env av:=by intro _;rfl):GS X Z (.For tg av body [] pos) (BB src gt g):=by
 refine BV (ZM hp hc hi hg hb hs) λD U H aj => ?_
 obtain⟨F,B,fs,ok,s⟩:= aj;refine⟨F,B,fs,ok,BS s λts ae F1 H1 J l q s1=>?_⟩;obtain⟨au,jk⟩:=q;refine⟨λi m U H=>m=ts.length-i/\∃F' ak,Le F1 H1 F' H/\Okk X.K F' B H ak U/\Fe X.K Z B F' H (Dl gt g (ts.drop i) ak) D,⟨ts.length,rfl,F1,ae,Le.refl,au,s1⟩,?_⟩
 rintro i m U H ⟨rfl,F2,aq,l2,aJ,s2⟩
 by_cases hi:i<ts.length
 .refine .inr ?_;rw[(pV hi)]at s2;obtain⟨j1,j2⟩:=(jk F2 H l2.f ⟨_,_,_,aJ⟩ i).1 _ (nO hi);refine⟨j1,λax H'=>∃F' ak,Le F1 H1 F' H'/\Okk X.K F' B H' ak ax/\Fe X.K Z B F' H' (Dl gt g (ts.drop (i+1)) ak) D,λax H' h=>⟨ts.length-(i+1),by lia,rfl,h⟩,λx H' hy=>?_⟩;obtain⟨j9,⟨jS,nw⟩,rx⟩:=j2 x H' hy;replace l2:=l2.trans jS;replace s2:=Fe.le s2 jS;replace aJ:=nw _ _ _ aJ;refine⟨j9,B,aq,ts[i],aJ,rx,?_⟩;simp only[Dl]at s2;cases eg:gt ts[i] aq with
  |none=>rwa[eg]at s2
  |some cn =>
   rw[eg]at s2;intro F3 H3 cL l3 bG;refine⟨F3,B,cn,bG,?_⟩;have s3:=Fe.le s2 l3;simp only at s3;cases eb:g cn with
   |nx bP =>rw[eb]at s3;exact λF4 H4 jb l4 df=>⟨F4,bP,(l2.trans l3).trans l4,df,Fe.le s3 l4⟩
   |cnt bP =>rw[eb]at s3;exact λF4 H4 jb l4 df=>⟨F4,bP,(l2.trans l3).trans l4,df,Fe.le s3 l4⟩
   |brk bP=>rwa[eb]at s3
   |ret r bP=>rwa[eb]at s3
   |exc c bP=>rwa[eb]at s3
   |bad=>rwa[eb]at s3
 .refine .inl ⟨(jk F2 H l2.f ⟨_,_,_,aJ⟩ i).2 (by lia),?_⟩;rw[List.drop_eq_nil_of_le (by lia)]at s2;exact s2 F2 H U Le.refl aJ
def BN(c:sV)(body:FS->SO):Nat->FS->SO
 |0,_=>.bad
 |n+1,fs=>SO.of (c fs) λb fs=>if b=true then(match body fs with|.nx fs=>BN c body n fs|.cnt fs=>BN c body n fs|.brk fs=>.nx fs|o=>o)else .nx fs
theorem RN(n:Nat)(hp:PassesOwn (model X.prog X.w) X.A X.env X.xe)(hc:FT X Z c fc)(hb:GSs X Z body g):GS X Z (.While c body [] pos) (BN fc g n):=by
 refine BV (QZ hp hc hb) λD U H aj=>?_
 obtain⟨F,B,fs,ok,s⟩:= aj;refine⟨λm ax H'=>∃F' ak,Le F H F' H'/\Okk X.K F' B H' ak ax/\Fe X.K Z B F' H' (BN fc g m ak) D,⟨n,F,fs,Le.refl,ok,s⟩,?_⟩
 rintro m cF H1 ⟨F1,ae,l1,au,s1⟩
 cases m with
 |zero=>exact s1.elim
 |succ m =>
  refine⟨F1,B,ae,au,BS s1 λb aq F2 H2 b' l2 q s2=>?_⟩;obtain⟨aJ,rfl⟩:=q;cases b' with
  |false =>exact s2 F2 H2 cF Le.refl aJ
  |true =>
   refine⟨λax H'=>∃F' ak,Le F H F' H'/\Okk X.K F' B H' ak ax/\Fe X.K Z B F' H' (BN fc g m ak) D,λax H' h=>⟨m,by lia,h⟩,F2,B,aq,aJ,?_⟩;cases eb:g aq with
   |nx bP =>rw[eb]at s2;exact λF4 H4 jb l4 df=>⟨F4,bP,(l1.trans l2).trans l4,df,Fe.le s2 l4⟩
   |cnt bP =>rw[eb]at s2;exact λF4 H4 jb l4 df=>⟨F4,bP,(l1.trans l2).trans l4,df,Fe.le s2 l4⟩
   |brk bP=>rwa[eb]at s2
   |ret r bP=>rwa[eb]at s2
   |exc c bP=>rwa[eb]at s2
   |bad=>rwa[eb]at s2
theorem Okk.take(h:Okk K F B H fs U)(n:Nat):Okk K F B H (fs.take n) (U.take n):=by
 refine⟨by simp[h.ln],λi s e=>?_,h.td⟩;rw[pG]at e ⊢;split at e
 next hi=>rw[if_pos hi];exact h.sl i s e
 .cases e
theorem RR.take{r}(h:RR K B U F H fs r u)(n:Nat)(hr:∀i,r≠.x i):RR K B (U.take n) F H (fs.take n) r u:=by refine⟨h.1.take n,?_⟩;cases r with|t t=>exact h.2|nw o=>exact h.2|x i=>exact(hr i rfl).elim
theorem Okk.more(h:Okk K F B H fs U)(n:Nat):Okk K F B H (fs++List.replicate n none) (U++List.replicate n none):=by
 refine⟨by simp[h.ln],λi s e=>?_,h.td⟩;rw[List.getElem?_append]at e ⊢;rw[h.ln];split at e
 next hi=>rw[if_pos hi];exact h.sl i s e
 .rw[List.getElem?_replicate]at e;split at e<;>cases e
inductive Ini where
 |no|val (t:T)|slot (j:Nat)|new (o:FO)
def Nd(fs:FS):Ini->Option Sl
 |.no=>none
 |.val t=>some (.val t)
 |.new o=>some (.bor o)
 |.slot j=>match fs[j]? with|some (some (.val t))=>some (.val t)|some (some (.own o))=>some (.bor o)|some (some (.bor o))=>some (.bor o)|_=>none
def Bx(fs:FS)(is:List Ini):FS:=is.map (Nd fs)
def AI(fs:FS):Ini->Option Nat
 |.slot j=>if(Aq fs j).isSome=true then some j else none
 |_=>none
def Cn(fs:FS)(is:List Ini):List Nat:=is.filterMap (AI fs)
def placeOf(fs:FS)(j:Nat):List Ini->Nat->Option Nat
 | [],_=>none
 |i::r,k=>if AI fs i=some j then some k else placeOf fs j r (k+1)
def DT(fs:FS)(is:List Ini)(τ:FS)(j:Nat)(s:Option Sl):Option (Option Sl):=match placeOf fs j is 0 with|none=>some s|some k=>match τ[k]?,s with|some (some (.bor o)),some s=>some (some (s.put o))|_,_=>none
def Ct(fs:FS)(is:List Ini)(τ:FS):Nat->FS->Option FS
 |_,[]=>some []
 |j,s::r=>match DT fs is τ j s,Ct fs is τ (j+1) r with|some s',some r'=>some (s'::r')|_,_=>none
def Cb(is:List Ini)(τ fs:FS):Option FS:=Ct fs is τ 0 fs
theorem placeOf_some:∀{is:List Ini}{k k':Nat},placeOf fs j is k=some k'->k<=k'/\∃i,is[k'-k]?=some i/\AI fs i=some j
 | [],_,_,e=>by simp[placeOf]at e
 |i::r,k,k',e=>by
  simp only[placeOf]at e;split at e
  next h=>cases e;exact⟨n9 _,i,by simp,h⟩
  .obtain⟨h1,i',h2,h3⟩:=placeOf_some e;refine⟨by lia,i',?_,h3⟩;rw[show k'-k=(k'-(k+1))+1 by lia];simpa using h2
theorem placeOf_none:∀{is:List Ini}{k:Nat},placeOf fs j is k=none->j∉Cn fs is
 | [],_,_,h=>by simp[Cn]at h
 |i::r,k,e,h=>by
  simp only[placeOf]at e;split at e
  .cases e
  .rename_i hn;unfold Cn at h;rw[pB]at h;cases q:AI fs i with
   |none =>rw[q]at h;exact placeOf_none e h
   |some j' =>
    rw[q]at h;rcases oh.mp h with h|h
    .exact hn (by rw[q,h])
    .exact placeOf_none e h
theorem Jl:∀{is:List Ini}{k k':Nat}{i i':Ini}{j:Nat},(Cn fs is).Nodup->is[k]?=some i->is[k']?=some i'->AI fs i=some j->AI fs i'=some j->k=k'
 | [],_,_,_,_,_,_,e,_,_,_=>by simp at e
 |i0::r,k,k',i,i',j,nd,e,e',h,h'=>by
  have mem:∀{m:Nat}{x:Ini},r[m]?=some x->AI fs x=some j->j∈Cn fs r:=λhm hx=>qv.mpr ⟨_,pJ hm,hx⟩
  unfold Cn at nd;rw[pB]at nd;cases k with
  |zero =>simp at e;subst e;rw[h]at nd;have fD:=nd;cases k' with|zero=>rfl|succ k'=>exact((oK.mp fD).1 (mem (by simpa using e') h')).elim
  |succ k =>cases k' with|zero =>simp at e';subst e';rw[h']at nd;exact((oK.mp nd).1 (mem (by simpa using e) h)).elim|succ k' =>exact congrArg (·+1) (Jl (by cases q:AI fs i0 with|none=>rwa[q]at nd|some j'=>rw[q]at nd;exact(oK.mp nd).2) (by simpa using e) (by simpa using e') h h')
meta theorem L7:∀{r r':FS}{j:Nat},Ct fs is τ j r=some r'->r'.length=r.length/\∀i s,r[i]?=some s->∃s',r'[i]?=some s'/\DT fs is τ (j+i) s=some s'
 | [],_,_,e=>by cases e;exact⟨rfl,λi s q=>by simp at q⟩
 |s::r,_,j,e=>by
  simp only[Ct]at e;split at e
  next s' r' h1 h2=>cases e;obtain⟨q1,q2⟩:=L7 h2;refine⟨by simp[q1],λi s0 q=>?_⟩;cases i with|zero =>simp at q;subst q;exact⟨s',rfl,h1⟩|succ i =>obtain⟨s1,e1,e2⟩:=q2 i s0 (by simpa using q);exact⟨s1,by simpa using e1,by rwa[show j+(i+1)=j+1+i by lia]⟩
  .cases e
def Tj(K:Fg)(F:Wd)(H:Hp)(U:St)(k:Nat)(i:Ini)(v:Option V):Prop:=match i with|.no=>True|.val t=>∃u,v=some u/\Ay K F H t u|.slot j=>U[j]?=some v|.new o=>∃u,v=some u/\A6 K F H false k [] o u
def Bof(U:St):sY:=λk=>(U[k]?).join
theorem GG:Bof U k=some v↔U[k]?=some (some v):=by unfold Bof;cases U[k]?<;>simp
def GN(fs:FS)(is:List Ini):Tg->Tg
 |.q true j ρ=>match placeOf fs j is 0 with|some k=>.q true k ρ|none=>.cl
 |.q false k ρ=>match is[k]? with|some (.new _)=>.q true k ρ|_=>.cl
 |t=>t
def X8(fs:FS)(is:List Ini):Tg->Tg
 |.q true k ρ=>match is[k]? with|some (.new _)=>.q false k ρ|some i=>(match AI fs i with|some j=>.q true j ρ|none=>.no)|none=>.no
 |.cl=>.no
 |t=>t
def Wd.lend(F:Wd)(fs:FS)(is:List Ini):Wd:=⟨λa=>GN fs is (F.o a)⟩
open Classical in
def Wd.back(F:Wd)(fs:FS)(is:List Ini)(F2:Wd):Wd:=⟨λa=>if(F.lend fs is).p a then F.o a else X8 fs is (F2.o a)⟩
variable{F2:Wd}{H2:Hp}{ak τ:FS}{eK eJ:St}{is:List Ini}{k:Nat}{ρ:List Nat}{a:Addr}
theorem Ez:Lf F H (F.lend fs is) H:=λa f=>⟨by show GN _ _ (F.o a)=_;rw[show F.o a=_ from f];rfl,rfl⟩
theorem Kw{i}(h:AI fs i=some j):i=.slot j/\(Aq fs j).isSome=true:=by
 unfold AI at h;split at h
 .split at h
  .cases h;exact⟨rfl,‹_›⟩
  .cases h
 .cases h
theorem Okk.lend(ok:Okk K F B H fs U)(hl:eK.length=is.length)(hi:∀(k:Nat)(i:Ini)(v:Option V),is[k]?=some i->eK[k]?=some v->Tj K F H U k i v)(nd:(Cn fs is).Nodup):
  Okk K (F.lend fs is) (Bof eK) H (Bx fs is) eK:=by
 refine⟨by simp[Bx,hl],λk s e=>?_,λa z=>by show GN _ _ (F.o a)=_;rw[ok.td a z];rfl⟩;rw[Bx,ou,nY]at e;obtain⟨i,ei,e⟩:=e;have hk:k<eK.length:=by rw[hl];exact(n6.mp ei).1
 have ek:=nO hk;have io:=hi k i _ ei ek;have Cn:∀{j:Nat}{o:FO}{v:V},Aq fs j=some o->i=.slot j->A6 K F H true j [] o v->A6 K (F.lend fs is) H true k [] o v:=λ{j o v} eo e1 r=>by
  refine r.mv (π:=[]) (λa ρ z=>⟨?_,rfl⟩) Ez;show GN _ _ (F.o a)=_;rw[z];have e2:AI fs (.slot j)=some j:=by simp[AI,eo]
  cases q:placeOf fs j is 0 with|none=>exact absurd (qv.mpr ⟨i,pJ ei,by rw[e1,e2]⟩) (placeOf_none q)|some k' =>obtain⟨_,i',g1,g2⟩:=placeOf_some q;have:=Jl nd ei (by simpa using g1) (by rw[e1,e2]) g2;subst this;simp only[GN,q]
 cases i with
 |no=>cases e
 |val t=>cases e;exact let⟨u,eu,r⟩:=io;⟨u,by rw[ek,eu],r.lf Ez⟩
 |new o =>cases e;obtain⟨u,eu,r⟩:=io;refine⟨u,by rw[ek,eu],r.mv (π:=[]) (λa ρ z=>⟨?_,rfl⟩) Ez,GG.mpr (by rw[ek,eu])⟩;show GN _ _ (F.o a)=_;rw[z];simp only[GN,ei]
 |slot j =>
  have io:U[j]?=some eK[k]:=io;simp only[Nd]at e;split at e
  next es=>cases e;exact let⟨v,e1,r⟩:=ok.sl _ _ es;⟨v,by rw[ek,<- io,e1],Ay.lf Ez r⟩
  next es=>cases e;obtain⟨v,e1,r⟩:=ok.sl _ _ es;rw[e1]at io;exact⟨v,by rw[ek,<- io],Cn (by simp[Aq,es]) rfl r,GG.mpr (by rw[ek,<- io])⟩
  next es=>cases e;obtain⟨v,e1,r⟩:=ok.sl _ _ es;rw[e1]at io;exact⟨v,by rw[ek,<- io],Cn (by simp[Aq,es]) rfl r.1,GG.mpr (by rw[ek,<- io])⟩
  .cases e
theorem L6(l:Le (F.lend fs is) H F2 H2)(h:(F.lend fs is).p a):(F.back fs is F2).o a=F.o a/\H2 a=H a:=⟨by simp[Wd.back,h],(l.p a h).2⟩
theorem JR(l:Le (F.lend fs is) H F2 H2)(h:F2.o a≠.cl):(F.back fs is F2).o a=X8 fs is (F2.o a):=by
 have:¬(F.lend fs is).p a:=λz=>h (l.p a z).1
 simp[Wd.back,this]
theorem Dg(l:Le (F.lend fs is) H F2 H2):Lf F2 H2 (F.back fs is F2) H2:=λa f=>⟨(JR l (by rw[show F2.o a=_ from f];nofun)).trans (by rw[show F2.o a=_ from f];rfl),rfl⟩
theorem CP(l:Le (F.lend fs is) H F2 H2):Le F H (F.back fs is F2) H2 :=
 ⟨λa f=>have q:=l.f a (Ez (H:=H) a f).1;⟨(Dg l a q.1).1,q.2⟩,λa f=>have q:=L6 l (by show GN _ _ (F.o a)=_;rw[show F.o a=_ from f];rfl);⟨q.1.trans f,q.2⟩⟩
theorem Of{o}(l:Le (F.lend fs is) H F2 H2)(r:A6 K F2 H2 false k [] o u):A6 K (F.back fs is F2) H2 false k [] o u :=
 r.mv (π:=[]) (λa ρ z=>⟨(JR l (by rw[z];nofun)).trans (by rw[z];rfl),rfl⟩) (Dg l)
theorem Okk.back(ok:Okk K F B H fs U)(hi:∀(k:Nat)(i:Ini)(v:Option V),is[k]?=some i->eK[k]?=some v->Tj K F H U k i v)(l:Le (F.lend fs is) H F2 H2)
  (o2:Okk K F2 (Bof eK) H2 τ eJ) (eb:Cb is τ fs=some ak):Okk K (F.back fs is F2) B H2 ak U:=by
 obtain⟨b1,b2⟩:=L7 eb;refine⟨by rw[b1];exact ok.ln,λj s' e=>?_,λa z=>?_⟩
 .have hj:=b1▸(n6.mp e).1;obtain⟨s1,e1,e2⟩:=b2 j fs[j] (nO hj);rw[e]at e1;cases e1;unfold DT at e2;rw[Nat.zero_add]at e2;split at e2
  next q=>obtain⟨v,g1,g2⟩:=ok.sl j s' (by rw[nO hj];simpa using e2);exact⟨v,g1,g2.mv (λa ρ z=>have q:=L6 l (by show GN _ _ (F.o a)=_;rw[z];simp only[GN,q]);⟨q.1.trans z,q.2⟩) (CP l).f⟩
  .rename_i k q;obtain⟨_,i,g1,g2⟩:=placeOf_some q;rw[Nat.sub_zero]at g1;obtain⟨rfl,ho⟩:=Kw g2;split at e2
   .rename_i o s h1 h2;cases e2;obtain⟨v,f1,f2,f3⟩:=o2.sl k _ h1;have sj:=hi k _ _ g1 (GG.mp f3);have r:A6 K (F.back fs is F2) H2 true j [] o v:=f2.mv (π:=[]) (λa ρ z=>⟨(JR l (by rw[z];nofun)).trans (by rw[z];simp[X8,g1,g2]),rfl⟩) (Dg l);have es:fs[j]?=some (some s):=by rw[nO hj,h2]
    obtain⟨w,k1,k2⟩:=ok.sl j s es;rw[sj]at k1;cases k1;refine⟨v,sj,?_⟩;cases s with|val t=>simp[Aq,es]at ho|own o=>exact r|bor o=>exact⟨r,k2.2⟩
   .cases e2
 .by_cases h:(F.lend fs is).p a
  .rw[(L6 l h).1];exact ok.td a ((L6 l h).2▸z)
  .have:=o2.td a z;rw[JR l (by rw[this];nofun),this];rfl
end Lake.FL
namespace Lake.FL
open PySem PySem.Spec L2
inductive EZ(K:Fg)(Z:Xp)(cv:Value)(U:St)(H:Hp):Prop
 |mk (F:Wd) (B:sY) (fs:FS) (c:Str) (C:Addr) (h0:Cs K c=some C) (h1:cv=.ref C) (h2:Okk K F B H fs U) (h3:Z.p F B H c fs)
def spX(K:Fg)(p:Nat)(Fn:sT):Sp:=λvs H Q E=>vs.length=p/\∃F cM,Okk K F (Bof (vs.map some)) H cM (vs.map some)/\match Fn cM with|.ok r τ=>∀F' H' u ax,Le F H F' H'->RR K (Bof (vs.map some)) ax F' H' τ r u->Q u H'|.exc c τ=>∀C,Cs K c=some C->∀F' H' ax,Le F H F' H'->Okk K F' (Bof (vs.map some)) H' τ ax->E (.ref C) none H'|.bad=>False
def AX(n:Nat)(g:FS->SO):sT:=λargs=>match g (args++List.replicate n none)with
 |.nx τ=>.ok (.t .l) (τ.take args.length)
 |.ret (.t t) τ=>.ok (.t t) (τ.take args.length)
 |.ret (.nw o) τ=>.ok (.nw o) (τ.take args.length)
 |.ret (.x i) τ=>match τ[i]? with|some (some (.own o))=>.ok (.nw o) ((τ.set i none).take args.length)|_=>.bad
 |.exc c τ=>.exc c (τ.take args.length)
 |_=>.bad
def AE:Rv->Ini
 |.t t=>.val t
 |.x i=>.slot i
 |.nw o=>.new o
def S3(Fn:sT)(rs:List Rv)(fs:FS):Out Rv :=
 if(Cn fs (rs.map AE)).Nodup then(match Fn (Bx fs (rs.map AE))with|.ok (.t t) τ=>(match Cb (rs.map AE) τ fs with|some ak=>.ok (.t t) ak|none=>.bad)|.ok (.nw o) τ=>(match Cb (rs.map AE) τ fs with|some ak=>.ok (.nw o) ak|none=>.bad)|_=>.bad)else .bad
def En(Fn:sT)(rs:List Rv)(fs:FS):Out Rv :=
 if(Cn fs (rs.map AE)).Nodup then(match Fn (Bx fs (rs.map AE))with|.ok (.t t) τ=>(match Cb (rs.map AE) τ fs with|some ak=>.ok (.t t) ak|none=>.bad)|.ok (.nw o) τ=>(match Cb (rs.map AE) τ fs with|some ak=>.ok (.nw o) ak|none=>.bad)|.exc c τ=>(match Cb (rs.map AE) τ fs with|some ak=>.exc c ak|none=>.bad)|_=>.bad)else .bad
def Ae(p:Nat)(Fn:sT):List Rv->sT:=λrs fs=>if rs.length=p then En Fn rs fs else .bad
theorem IC.len:∀{rs:List Rv}{vs:List V},IC K F H U rs vs->vs.length=rs.length
 | [],_,h=>by cases h;rfl
 |r::rs,_,h=>by obtain⟨v,w,rfl,h1,h2⟩:=h;simp[IC.len h2]
def RelRs(K:Fg)(F:Wd)(H:Hp)(U:St)(rs:List Rv)(vs:List V):Prop:=vs.length=rs.length/\∀(k:Nat)(r:Rv)(v:V),rs[k]?=some r->vs[k]?=some v->Yu K F H U k r v
def RAn(K:Fg)(B:sY)(U:St)(F:Wd)(H:Hp)(fs:FS)(rs:List Rv)(vs:List V):Prop:=Okk K F B H fs U/\RelRs K F H U rs vs
inductive tAn(K:Fg)(Z:Xp)(f:sU)(U:St)(H:Hp)(Q:List V->Hp->Prop):Prop
 |mk (F:Wd) (B:sY) (fs:FS) (h0:Okk K F B H fs U) (h1:sat Z B (RAn K B U) F H (f fs) Q)
def FAn(X:Cx)(Z:Xp)(es:List Expr)(f:sU):Prop:=PA X es (tAn X.K Z f)
def Ac(f:sT)(g:sU):sU:=λfs=>(f fs).bind λr fs=>(g fs).bind λrs fs=>.ok (r::rs) fs
def shT:Tg->Tg
 |.q false k ρ=>.q false (k+1) ρ
 |t=>t
def Wd.V1(F:Wd):Wd:=F.re false 0 λ_=>.cl
open Classical in
def Wd.join(F F2:Wd):Wd:=⟨λa=>if F.V1.p a then F.o a else shT (F2.o a)⟩
variable{K:Fg}{F F2:Wd}{H H2:Hp}{B:sY}{fs aq:FS}{U:St}{r:Rv}{u:V}{rs:List Rv}{us:List V}{a:Addr}
theorem Yu.mv(hm:∀a ρ,F.o a=.q false k ρ->F'.o a=.q false k' ρ/\H' a=H a)(l:Lf F H F' H')(h:Yu K F H U k r u):Yu K F' H' U k' r u:=by cases r with|t t=>exact Ay.lf l h|nw o=>exact A6.mv (π:=[]) (λa ρ z=>hm a _ z) l h|x i=>exact h
theorem Up(l:Le F.V1 H F2 H2)(h:F.V1.p a):(F.join F2).o a=F.o a/\H2 a=H a:=⟨by simp[Wd.join,h],(l.p a h).2⟩
theorem LF(l:Le F.V1 H F2 H2)(h:F2.o a≠.cl):(F.join F2).o a=shT (F2.o a):=by
 have:¬F.V1.p a:=λz=>h (l.p a z).1
 simp[Wd.join,this]
theorem RAn.join(q:RR K B U F H fs r u)(l:Le F.V1 H F2 H2)(q2:RAn K B U F2 H2 aq rs us):RAn K B U (F.join F2) H2 aq (r::rs) (u::us)/\Le F H (F.join F2) H2:=by
 have f2:Lf F2 H2 (F.join F2) H2:=λa f=>⟨(LF l (by rw[show F2.o a=_ from f];nofun)).trans (by rw[show F2.o a=_ from f];rfl),rfl⟩
 have le:Le F H (F.join F2) H2:=⟨λa f=>have q:=l.f a (Le.re (H:=H).f a f).1;⟨(f2 a q.1).1,q.2⟩,λa f=>have q:=Up l (Le.re (H:=H).p a f).1;⟨q.1.trans f,q.2⟩⟩
 refine⟨⟨q2.1.to f2 (λa j ρ z=>⟨(LF l (by rw[z];nofun)).trans (by rw[z];rfl),rfl⟩) λa z=>?_,by simp[q2.2.1],λk r' v e1 e2=>?_⟩,le⟩
 .have:=q2.1.td a z;rw[LF l (by rw[this];nofun),this];rfl
 .cases k with|zero =>cases e1;cases e2;exact q.2.mv (λa ρ z=>have q:=Up l (by show reT _ _ _ (F.o a)=_;rw[z,NL]);⟨q.1.trans z,q.2⟩) le.f|succ k=>exact(q2.2.2 k r' v e1 e2).mv (λa ρ z=>⟨(LF l (by rw[z];nofun)).trans (by rw[z];rfl),rfl⟩) f2
theorem RAn.push(q:RAn K B U F H fs rs vs)(h:Cv K F H U r u):RAn K B U ⟨λa=>shT (F.o a)⟩ H fs (r::rs) (u::vs)/\Le F H ⟨λa=>shT (F.o a)⟩ H:=by
 have l:Le F H ⟨λa=>shT (F.o a)⟩ H:=⟨λa f=>⟨by show shT (F.o a)=_;rw[show F.o a=_ from f];rfl,rfl⟩,λa f=>⟨by show shT (F.o a)=_;rw[show F.o a=_ from f];rfl,rfl⟩⟩
 refine⟨⟨q.1.to l.f (λa j ρ z=>⟨by show shT (F.o a)=_;rw[z];rfl,rfl⟩) λa z=>by show shT (F.o a)=_;rw[q.1.td a z];rfl,by simp[q.2.1],λk r' v e1 e2=>?_⟩,l⟩;cases k with|zero=>cases e1;cases e2;exact(h.le l).rr|succ k=>exact(q.2.2 k r' v e1 e2).mv (λa ρ z=>⟨by show shT (F.o a)=_;rw[z];rfl,rfl⟩) l.f
theorem LI(q:RelRs K F H U rs vs)(k:Nat)(i:Ini)(v:Option V)(e1:(rs.map AE)[k]?=some i)(e2:(vs.map some)[k]?=some v):Tj K F H U k i v:=by rw[ou,nY]at e1 e2;obtain⟨r,er,rfl⟩:=e1;obtain⟨u,eu,rfl⟩:=e2;have rr:=q.2 k r u er eu;cases r with|t t=>exact⟨u,rfl,rr⟩|nw o=>exact⟨u,rfl,rr⟩|x i=>exact rr
meta theorem Gw(q:RAn K B U F H fs rs vs)(s:sat Z B (RR K B U) F H (En Fn rs fs) Q):spX K rs.length Fn vs H Q λc _ H'=>EZ K Z c U H':=by
 unfold En at s;split at s
 .rename_i nd;have hi:=LI q.2;refine⟨q.2.1,_,_,q.1.lend (by simp[q.2.1]) hi nd,?_⟩;split at s
  .rename_i t τ e;rw[e];split at s
   next ak eb=>exact λF' H' u ax l k=>s _ H' u (CP l) ⟨q.1.back hi l k.1 eb,Ay.lf (Dg l) k.2⟩
   .exact s.elim
  .rename_i o τ e;rw[e];split at s
   next ak eb=>exact λF' H' u ax l k=>s _ H' u (CP l) ⟨q.1.back hi l k.1 eb,Of l k.2⟩
   .exact s.elim
  .rename_i c τ e;rw[e];split at s
   next ak eb=>exact λC hC F' H' ax l k=>⟨_,B,ak,c,C,hC,rfl,q.1.back hi l k eb,Z.mono s (CP l)⟩
   .exact s.elim
  .exact s.elim
 .exact s.elim
meta theorem S1(q:RAn K B U F H fs rs vs)(s:sat Z B (RR K B U) F H (S3 Fn rs fs) Q):spX K rs.length Fn vs H Q E:=by
 unfold S3 at s;split at s
 .rename_i nd;have hi:=LI q.2;refine⟨q.2.1,_,_,q.1.lend (by simp[q.2.1]) hi nd,?_⟩;split at s
  .rename_i t τ e;rw[e];split at s
   next ak eb=>exact λF' H' u ax l k=>s _ H' u (CP l) ⟨q.1.back hi l k.1 eb,Ay.lf (Dg l) k.2⟩
   .exact s.elim
  .rename_i o τ e;rw[e];split at s
   next ak eb=>exact λF' H' u ax l k=>s _ H' u (CP l) ⟨q.1.back hi l k.1 eb,Of l k.2⟩
   .exact s.elim
  .exact s.elim
 .exact s.elim
theorem Xw:FAn X Z [] Af:=Ls FV λU H Q ⟨F,B,fs,ok,s⟩=>s F H [] Le.refl ⟨ok,rfl,nofun⟩
theorem LJ{R2:Wd->Hp->FS->γ->δ->Prop}(q:RR K B U F1 H1 ae r u)(s1:sat Z B R2 F1 H1 ((g ae).bind k) Q)
  (hk:∀rs aq F2 H2 us,Le F1 H1 F2 H2->RAn K B U F2 H2 aq (r::rs) (u::us)->sat Z B R2 F2 H2 (k rs aq) Q->Q' us H2):tAn K Z g U H1 Q':=by
 refine⟨F1.V1,B,ae,q.1.re,?_⟩;cases eg:g ae with|bad=>rwa[eg]at s1|exc c t=>rw[eg]at s1;exact Z.mono s1 Le.re|ok rs aq =>rw[eg]at s1;exact λF2 H2 us l2 q2=>have z:=RAn.join q l2 q2;hk rs aq _ H2 us z.2 z.1 (sat.le s1 z.2)
theorem Sw(ha:FE X Z e f)(hr:FAn X Z es g)(hs:Zsc X.env e es:=by rfl):FAn X Z (e::es) (Ac f g) :=
 Ls (B5 ha hr hs) λU H Q ⟨F,B,fs,ok,s⟩=>⟨F,B,fs,ok,Ar s λr ae F1 H1 u l q s1=>LJ q s1 λrs aq F2 H2 us _ ra s2=>s2 F2 H2 (u::us) Le.refl ra⟩
variable{k p:Nat}
def P2(p:Nat)(Fn:sT):List Rv->sT:=λrs fs=>if rs.length=p then S3 Fn rs fs else .bad
def DR(C:Addr)(m:Str)(fs:FS):Rv->Bool
 |.t (.ins C' gs _)=>decide (C'=C)&&!gs.any (·==m)
 |.x i=>match Aq fs i with|some (.ins C' gs _)=>decide (C'=C)&&!gs.any (·==m)|_=>false
 |_=>false
theorem F8{af:List (Str×V)}(h:((af.map (·.1)).any (·==m))=false):af.lookup m=none:=by
 induction af with
 |nil=>rfl
 |cons p r ih =>
  rw[nQ,qh,Bool.or_eq_false_iff]at h;obtain⟨k,v⟩:=p;rw[oR];have:(m==k)=false:=by have h1:=h.1;rw[beq_eq_false_iff_ne]at h1 ⊢;exact λe=>h1 e.symm
  rw[this];exact ih h.2
meta theorem LH(ok:Okk K F B H fs U)(q:Cv K F H U r u)(h:DR C m fs r=true):∃a dx af,u=.ref a/\H a=some (.ins C dx af)/\af.lookup m=none:=by
 unfold DR at h;split at h
 next C' gs ts=>rw[oy]at h;have hC:=oj h.1;subst hC;obtain⟨a,dx,af,rfl,f,hd,rfl,r⟩:=q;exact⟨a,dx,af,rfl,hd,F8 (by simpa using h.2)⟩
 .rename_i i;split at h
  next C' gs os eo=>rw[oy]at h;have hC:=oj h.1;subst hC;obtain⟨a,_,rfl,_,⟨dx,af,hd,rfl,rfl⟩,_⟩:=(ok.at q eo).inv rfl;exact⟨a,dx,af,rfl,hd,F8 (by simpa using h.2)⟩
  .cases h
 .cases h
def Eg(C:Addr)(m:Str)(p:Nat)(Fn:sT)(fo:sT)(fa:sU):sT:=λfs=>(fo fs).bnd λx fs=>if DR C m fs x=true then(fa fs).bind λrs fs=>P2 p Fn (x::rs) fs else .bad
def BW(C:Addr)(p:Nat)(Fn:sT)(rs:List Rv)(fs:FS):Out Rv :=
 if(Cn fs (rs.map AE)).Nodup/\rs.length+1=p then(match Fn (some (.bor (.ins C [] []))::Bx fs (rs.map AE))with|.ok (.t .l) (some (.bor o)::τ)=>(match Cb (rs.map AE) τ fs with|some ak=>.ok (.nw o) ak|none=>.bad)|_=>.bad)else .bad
theorem Lo:∀{is:List Ini}{k:Nat},placeOf fs j is (k+1)=(placeOf fs j is k).map (·+1)
 | [],_=>rfl
 |i::r,k=>by
  simp only[placeOf];split
  .rfl
  .exact Lo
theorem P9{o:FO}:Cb (.new o::is) (s::τ) fs=Cb is τ fs:=by
 have h1:∀j x,DT fs (.new o::is) (s::τ) j x=DT fs is τ j x:=λj x=>by unfold DT;have:placeOf fs j (.new o::is) 0=(placeOf fs j is 0).map (·+1):=Lo;rw[this];cases placeOf fs j is 0<;>rfl
 have h2:∀r j,Ct fs (.new o::is) (s::τ) j r=Ct fs is τ j r:=λr=>by
  induction r with
  |nil=>exact λ_=>rfl
  |cons a r ih=>exact λj=>by simp only[Ct,h1,ih]
 exact h2 fs 0
theorem Jap{x dx:Addr}(q:RAn K B U F H fs rs vs)(hx:H x=none)(dU:H dx=none)(aW:dx≠x):
  ∃F',RAn K B U F' (upd (upd H dx (.own x)) x (.ins C dx [])) fs (.nw (.ins C [] [])::rs) (.ref x::vs)/\Le F H F' (upd (upd H dx (.own x)) x (.ins C dx [])):=by
 have gh:upd H dx (.own x) x=none:=by rwa[Al aW.symm]
 obtain⟨q1,l1⟩:=q.push (r:=.t .l) rfl;have l2:=(q1.1.DQ (t:=.no) dU).trans ((q1.1.alloc dU).DQ (t:=.q false 0 []) (o:=.ins C dx []) gh);refine⟨_,⟨(q1.1.alloc dU).alloc gh,by simp[q.2.1],λk r v e1 e2=>?_⟩,l1.trans l2⟩;cases k with|zero=>cases e1;cases e2;exact .nd rfl A3 (by rw[An];exact⟨dx,[],rfl,rfl,rfl⟩) rfl nofun|succ k=>exact(q1.2.2 (k+1) r v e1 e2).mv (λa ρ z=>by have h1:=q1.1.fresh dU (by rw[z];nofun);have h2:=q1.1.fresh hx (by rw[z];nofun);exact⟨by rw[Bo h2,Bo h1];exact z,by rw[Al h2,Al h1]⟩) l2.f
theorem Ey{o:FO}(q1:RAn K B U F' H' fs (.nw (.ins C [] [])::rs) (.ref x::vs))(l:Le (F'.lend fs ((.nw (.ins C [] [])::rs).map AE)) H' F2 H2)(k:Okk K F2 (Bof ((.ref x::vs).map some)) H2 (some (.bor o)::τ) ax)(eb:Cb (rs.map AE) τ fs=some ak):
  RR K B U (F'.back fs ((.nw (.ins C [] [])::rs).map AE) F2) H2 ak (.nw o) (.ref x):=by
 refine⟨q1.1.back (LI q1.2) l k (P9.trans eb),?_⟩;obtain⟨v,e1,r,e2⟩:=k.sl 0 _ rfl;cases GG.mp e2;exact r.mv (π:=[]) (λa ρ z=>⟨(JR l (by rw[z];nofun)).trans (by rw[z];rfl),rfl⟩) (Dg l)
meta theorem Ry(q:RAn K B U F H fs rs vs)(s:sat Z B (RR K B U) F H (BW C p Fn rs fs) Q)(hx:H x=none)(dU:H dx=none)(aW:dx≠x):
  spX K p Fn (.ref x::vs) (upd (upd H dx (.own x)) x (.ins C dx [])) (λv H2=>v=.l/\Q (.ref x) H2) E:=by
 unfold BW at s;split at s
 .rename_i hh;obtain⟨F',q1,l1⟩:=Jap q hx dU aW;refine⟨by rw[n8,q.2.1];exact hh.2,_,_,q1.1.lend (by simp[q.2.1]) (LI q1.2) (show(Cn fs (rs.map AE)).Nodup from hh.1),?_⟩;rw[show Bx fs ((.nw (.ins C [] [])::rs).map AE)=some (.bor (.ins C [] []))::Bx fs (rs.map AE)from rfl];split at s
  .rename_i o τ e;rw[e];split at s
   next ak eb=>exact λF2 H2 u ax l k=>⟨k.2,s _ H2 _ (l1.trans (CP l)) (Ey q1 l k.1 eb)⟩
   .exact s.elim
  .exact s.elim
 .exact s.elim
def A9(gt:sW)(ft:sV)(fe:sT):List T->FS->List T->Option (List T×FS)
 | [],τ,ar=>some (ar,τ)
 |t::ts,τ,ar=>match gt t τ with|none=>none|some τ=>match ft τ with|.ok true τ=>(match fe τ with|.ok (.t v) τ=>if ar.length<big then A9 gt ft fe ts τ (ar++[v])else none|_=>none)|.ok false τ=>A9 gt ft fe ts τ ar|_=>none
def C7:sV:=λfs=>.ok true fs
def AL(new:Bool)(src:sZ)(fi:sX)(gt:sW)(ft:sV)(fe:sT):sT:=λfs=>(fi fs).bind λts fs =>if(Cn fs (src.map λo=>o.elim Ini.no Ini.slot)).Nodup/\(src.all λo=>o.elim true λj=>decide (j<fs.length))=true then(match A9 gt ft fe ts (Bx fs (src.map λo=>o.elim Ini.no Ini.slot)) []with|some (vs,τ)=>(match Cb (src.map λo=>o.elim Ini.no Ini.slot) τ fs with|some ak=>if new=true then .ok (.nw (.lst vs)) ak else .ok (.t (.lst vs)) ak|none=>.bad)|none=>.bad)else .bad
def FIf(X:Cx)(bj:List Expr)(ft:sV):Prop:=UX X bj (tT X.K Xp.no ft)
theorem Q5(h:UX X e t)(i:∀U H Q,t' U H Q->t U H Q):UX X e t':=λaa s U H Q I q=>h aa s U H Q I (i _ _ _ q)
theorem Xh:FIf X [] C7:=Q5 Q4 λU H Q ⟨F,B,fs,ok,s⟩=>s F H true Le.refl ⟨ok,rfl⟩
theorem Xg(h:FT X Xp.no c ft):FIf X [c] ft:=Q3 h
theorem SM(hp:F.p p):Lf F H F (upd H p o):=λa f=>⟨f,Al λe=>by rw[e]at f;exact nomatch (show F.o p=_ from hp).symm.trans f⟩
theorem Okk.upP(h:Okk K F B H fs U)(hp:F.p p):Okk K F B (L2.upd H p o) fs U :=
 h.to (SM hp) (λa j ρ z=>⟨z,Al λe=>by rw[e]at z;exact nomatch (show F.o p=_ from hp).symm.trans z⟩) λa z=>h.td a (Bp z).2
theorem Okk.tag(h:Okk K F B H fs U)(hn:F.o p=.no)(hp:H p≠none):Okk K (F.tag p t) B H fs U/\Le F H (F.tag p t) H:=by
 have ne:∀{a x},F.o a=x->x≠.no->a≠p:=λz q e=>q (by rw[<- z,e,hn])
 have l:Le F H (F.tag p t) H:=⟨λa f=>⟨(Bo (ne f nofun)).trans f,rfl⟩,λa f=>⟨(Bo (ne f nofun)).trans f,rfl⟩⟩
 exact⟨h.to l.f (λa j ρ z=>⟨(Bo (ne z nofun)).trans z,rfl⟩) λa z=>(Bo λe=>hp (by rwa[<- e])).trans (h.td a z),l⟩
inductive CI(K:Fg)(W:Wd)(H1:Hp)(D:Addr)(Bc:sY)(gt:sW)(ft:sV)(fe:sT)(r:List T×FS)(l:List T)(bc:St)(H2:Hp):Prop
 |mk (F2:Wd) (τ:FS) (ar:List T) (ys:List V) (l2:Le W H1 F2 H2) (pD:F2.p D) (aJ:Okk K F2 Bc H2 τ bc) (dS:H2 D=some (.lst ys)) (cE:Ah K F2 H2 ar ys) (ec:A9 gt ft fe l τ ar=some r):CI K W H1 D Bc gt ft fe r l bc H2
theorem CI.put{r}(nP:¬W.p D)(gm:Le W H1 F6 H6)(p6:F6.p D)(o6:Okk K F6 Bc H6 τ3 bc)(gw:Ah K F6 H6 ar ys)(rv:Ay K F6 H6 v y)
  (aV:A9 gt ft fe l τ3 (ar++[v])=some r):CI K W H1 D Bc gt ft fe r l bc (upd H6 D (.lst (ys++[y]))) :=
 .mk F6 τ3 (ar++[v]) (ys++[y]) ⟨λa f=>⟨(gm.f a f).1,(SM p6 a (gm.f a f).1).2.trans (gm.f a f).2⟩,λa f=>⟨(gm.p a f).1,(Al λe=>nP (by rwa[<- e])).trans (gm.p a f).2⟩⟩
  p6 (o6.upP p6) An (Ah.lf (SM p6) (gw.app (Ah.one rv))) aV
theorem CI.one{gt}{r}(nP:¬W.p D)(gN:Le W H1 F5 H5)(p5:F5.p D)(gQ:Okk K F5 Bc H5 bq bc)(kP:H5 D=some (.lst ys))(eI:Ah K F5 H5 ar ys)
  (aV:(match fe bq with|.ok (.t v) τ=>if ar.length<big then A9 gt ft fe l τ (ar++[v])else none|_=>none)=some r) :
  tF K Xp.no fe bc H5 λy H6=>∃ys,H6 D=some (.lst ys)/\ys.length<sizeLine/\CI K W H1 D Bc gt ft fe r l bc (upd H6 D (.lst (ys++[y]))):=by
 refine⟨F5,Bc,bq,gQ,?_⟩;cases ee:fe bq with
 |exc c τ3=>rw[ee]at aV;cases aV
 |bad=>rw[ee]at aV;cases aV
 |ok w τ3 =>
  rw[ee]at aV;cases w with
  |nw o=>cases aV
  |x o=>cases aV
  |t v =>
   dsimp only at aV;by_cases hlen:ar.length<big
   .rw[if_pos hlen]at aV;intro F6 H6 y l6 q6;have p6:=l6.p D p5;exact⟨ys,p6.2.trans kP,by rw[eI.len];exact pE hlen EV,CI.put nP (gN.trans l6) p6.1 q6.1 (eI.le l6) q6.2 aV⟩
   .rw[if_neg hlen]at aV;cases aV
theorem CI.turn{r}(nP:¬W.p D)(l2:Le W H1 F3 H3)(pD:F3.p D)(aJ:Okk K F3 Bc H3 τ bc)(dS:H3 D=some (.lst ys))(cE:Ah K F3 H3 ar ys)
  (aV:A9 gt ft fe (t::l) τ ar=some r) (rx:Ay K F3 H3 t x) :
  tG K gt x bc H3 λbq H4=>tT K Xp.no ft bq H4 λb H5=>if b=true then tF K Xp.no fe bq H5 λy H6=>∃ys,H6 D=some (.lst ys)/\ys.length<sizeLine/\CI K W H1 D Bc gt ft fe r l bq (upd H6 D (.lst (ys++[y])))else CI K W H1 D Bc gt ft fe r l bq H5:=by
 simp only[A9]at aV;refine⟨F3,Bc,τ,t,aJ,rx,?_⟩;cases eg:gt t τ with|none=>rw[eg]at aV;cases aV|some e9 =>rw[eg]at aV;intro F4 H4 j8 l4 df;refine⟨F4,Bc,e9,df,?_⟩;dsimp only at aV;cases et:ft e9 with|exc c bq=>rw[et]at aV;cases aV|bad=>rw[et]at aV;cases aV|ok b bq =>rw[et]at aV;intro F5 H5 b' l5 q5;obtain⟨gQ,rfl⟩:=q5;have p4:=l4.p D pD;have p5:=l5.p D p4.1;have h5:=(p5.2.trans p4.2).trans dS;have gN:=(l2.trans l4).trans l5;have r5:=(cE.le l4).le l5;cases b' with|false =>exact .mk F5 bq ar ys gN p5.1 gQ h5 r5 aV|true =>exact CI.one nP gN p5.1 gQ h5 r5 aV
theorem X2(ok:Okk K F B H fs U)(cN:(src.all λo=>o.elim true λj=>decide (j<fs.length))=true)(k:Nat)(i:Ini)(v:Option V)(e1:(src.map λo=>o.elim Ini.no Ini.slot)[k]?=some i)(e2:(E3 U src)[k]?=some v):Tj K F H U k i v:=by unfold E3 at e2;rw[ou,nY]at e1 e2;obtain⟨o,eo,rfl⟩:=e1;obtain⟨o',jj,rfl⟩:=e2;rw[eo]at jj;cases jj;cases o with|none=>exact trivial|some j =>show U[j]?=some ((U[j]?).join);rw[nO (by rw[ok.ln];exact oj (pj.mp cN _ (pJ eo)))];rfl
meta theorem UO(h:tF K Z (AL new src fi gt ft fe) U H Q):Vk src (tI K Z fi) (tG K gt) (tT K Xp.no ft) (tF K Xp.no fe) U H Q:=by
 obtain⟨F,B,fs,ok,s⟩:=h;refine⟨F,B,fs,ok,Ar s λts ae F1 H1 J l q s1=>?_⟩;obtain⟨au,jk⟩:=q;split at s1
 .rename_i eA;have hi:=X2 au eA.2;have p2:=au.lend (by unfold E3;simp) hi eA.1;split at s1
  .rename_i vs jc ec;split at s1
   .rename_i ak eb;intro D hD;have nP:¬(F1.lend ae (src.map λo=>o.elim Ini.no Ini.slot)).p D:=λz=>nomatch (p2.td D hD).symm.trans z
    refine⟨λi m bc H2=>m=ts.length-i/\CI K (F1.lend ae (src.map λo=>o.elim Ini.no Ini.slot)) H1 D (Bof (E3 U src)) gt ft fe (vs,jc) (ts.drop i) bc H2,⟨ts.length,rfl,.mk _ _ [] [] (p2.DQ hD) A3 (p2.alloc hD) An rfl ec⟩,λi m bc H2 hc=>?_⟩;obtain⟨rfl,F2,τ,ar,ys,l2,pD,aJ,dS,cE,aV⟩:=hc;have jI:=(jk.within λa f=>(Ez (H:=H1) a f).1) F2 H2 l2.f ⟨_,_,_,aJ⟩ i;by_cases hit:i<ts.length
    .have ei:=nO hit;rw[pV hit]at aV;obtain⟨j1,j2⟩:=jI.1 _ ei;refine .inr ⟨j1,CI K _ H1 D (Bof (E3 U src)) gt ft fe (vs,jc) (ts.drop (i+1)),λj7 H' h=>⟨ts.length-(i+1),by lia,rfl,h⟩,λx H3 hy=>?_⟩;obtain⟨F3,⟨dM,nw⟩,rx⟩:=j2 x H3 hy;exact CI.turn nP (l2.trans dM) (dM.p D pD).1 (nw _ _ _ aJ) ((dM.p D pD).2.trans dS) (cE.le dM) aV rx
    .refine .inl ⟨jI.2 (by lia),?_⟩;rw[List.drop_eq_nil_of_le (by lia)]at aV;cases (aV);have o3:=au.back hi l2 aJ eb;have nb:(F1.back ae (src.map λo=>o.elim Ini.no Ini.slot) F2).o D=.no:=by have:F2.o D=.cl:=pD;simp only[Wd.back,nP,this];rfl
     cases new with|true =>obtain⟨o4,l4⟩:=o3.tag nb (by rw[dS];nofun);exact s1 _ H2 (.ref D) ((CP l2).trans l4) ⟨o4,.of rfl A3 dS ((cE.lf (Dg l2)).le l4)⟩|false =>obtain⟨o4,l4⟩:=o3.tag nb (by rw[dS];nofun);refine s1 _ H2 (.ref D) ((CP l2).trans l4) ⟨o4,?_⟩;exact⟨D,ys,rfl,A3,dS,(cE.lf (Dg l2)).le l4⟩
   .exact s1.elim
  .exact s1.elim
 .exact s1.elim
theorem Xu(new:Bool)(N:List Str)(src:sZ)(aI:X.calm=true)(hi:FI X Z tg av fi)(hg:∀cl C s H fp,GT (Bn X N sc cl C s H fp) tg gt)(ht:∀cl C s H fp,FIf (Bn X N sc cl C s H fp) bj ft)
  (he:∀cl C s H fp,FE (Bn X N sc cl C s H fp) Xp.no elt fe) (hS:EU X.env.scope sc=true:=by rfl) (aT:Ea X.N sc N src=true:=by rfl)
  (hs:Zfs X.env av:=by intro _;rfl):FE X Z (.ListComp elt [⟨tg,av,bj,0⟩] sc pos) (AL new src fi gt ft fe) :=
 Ax (VY (g:=tG X.K gt) (tt:=tT X.K Xp.no ft) (te:=tF X.K Xp.no fe) N src aI hi hg ht he hS aT hs) λ_ _ _ h=>UO h
theorem MN(new:Bool)(i:Nat)(N:List Str)(src:sZ)(aI:X.calm=true)(hN:X.N.Nodup)(hy:Loc X.env.scope y)(hi:FI X Z tg av fi)(hg:∀cl C s H fp,GT (Bn X N sc cl C s H fp) tg gt)(ht:∀cl C s H fp,FIf (Bn X N sc cl C s H fp) bj ft)
  (he:∀cl C s H fp,FE (Bn X N sc cl C s H fp) Xp.no elt fe) (fS:X.N[i]?=some y:=by rfl) (hS:EU X.env.scope sc=true:=by rfl) (aT:Ea X.N sc N src=true:=by rfl)
  (hs:Zfs X.env av:=by intro _;rfl) (gf:swapsWith (.ListComp elt [⟨tg,av,bj,0⟩] sc pos) (some (.Name y aP)) b4.line X.env=pure true:=by rfl)
  (hf:X.fn y=true\/X.env.scope.names.lookup y=some .local:=by first|exact .inl rfl|exact .inr rfl|assumption) :
  GS X Z (.Assign [.Name y aP] (.ListComp elt [⟨tg,av,bj,0⟩] sc pos) b4) (Av i (AL new src fi gt ft fe)) :=
 BV (My (g:=tG X.K gt) (tt:=tT X.K Xp.no ft) (te:=tF X.K Xp.no fe) N src aI hN fS hy hi hg ht he hS aT hs gf hf) λ_ _ _ s=>UO (Zj s)
end Lake.FL
namespace Lake.FL
open PySem PySem.Spec L2
def orG(g g':sS):sS:=λx y fs=>match g x y fs with|.bad=>g' x y fs|o=>o
theorem OpF.or(h:OpF K Z r g)(h':OpF K Z r' g'):OpF K Z (orR r r') (orG g g'):=by intro F B H U fs x y u w Q ok rx ry s;unfold orG at s;cases e:g x y fs with|ok a t=>rw[e]at s;exact .inl (h F B H U fs x y u w Q ok rx ry (by rw[e];exact s))|exc c t=>rw[e]at s;exact .inl (h F B H U fs x y u w Q ok rx ry (by rw[e];exact s))|bad=>rw[e]at s;exact .inr (h' F B H U fs x y u w Q ok rx ry s)
def orC(g g':List Rv->sT):List Rv->sT:=λx fs=>match g x fs with|.bad=>g' x fs|o=>o
theorem B1.or(h:B1 K Z r g)(h':B1 K Z r' g'):B1 K Z (Uc r r') (orC g g'):=by intro F B H U fs x u Q ok rx s;unfold orC at s;cases e:g x fs with|ok a t=>rw[e]at s;exact .inl (h F B H U fs x u Q ok rx (by rw[e];exact s))|exc c t=>rw[e]at s;exact .inl (h F B H U fs x u Q ok rx (by rw[e];exact s))|bad=>rw[e]at s;exact .inr (h' F B H U fs x u Q ok rx s)
def exL(fs:FS):Rv->Option (List T)
 |.t (.lst ts)=>some ts
 |.x i=>match Aq fs i with|some (.lst ts)=>some ts|_=>none
 |_=>none
meta theorem UH(h:Okk K F B H fs U)(r:Cv K F H U x u)(e:exL fs x=some ts):∃a vs,u=.ref a/\H a=some (.lst vs)/\Ah K F H ts vs:=by
 unfold exL at e;split at e
 .cases e;obtain⟨a,vs,e,f,s,q⟩:=r;exact⟨a,vs,e,s,q⟩
 .rename_i i;split at e
  next bI eo=>cases e;obtain⟨a,vs,e,_,s,q⟩:=(h.at r eo).vals rfl;exact⟨a,vs,e,s,q⟩
  .cases e
 .cases e
def MU:sS:=λx y fs=>match exL fs x,exL fs y with|some ts,some us=>if ts.length+us.length<=big then .ok (.nw (.lst (ts++us))) fs else .bad|_,_=>.bad
def Pc:sS
 |.t (.tup ts),.t (.tup us),fs=>if ts≠[]/\ts.length+us.length<=big then okT (.tup (ts++us)) fs else .bad
 |_,_,_=>.bad
meta theorem Wk:OpF K Z rCat MU:=by
 intro F B H U fs x y u w Q ok rx ry s;unfold MU at s;split at s
 .rename_i ts us e1 e2;split at s
  next hl=>obtain⟨a,vs,rfl,hs,r⟩:=UH ok rx e1;obtain⟨b,ws,rfl,aR,r2⟩:=UH ok ry e2;exact⟨a,b,vs,ws,rfl,rfl,hs,aR,by rw[r.len,r2.len];exact oB hl Dx,λp hp=>CN ok hp s rfl rfl (r.app r2)⟩
  .exact s.elim
 .exact s.elim
meta theorem Wj:OpF K Z (Zu K) Pc:=by
 intro F B H U fs x y u w Q ok rx ry s;unfold Pc at s;split at s
 .rename_i ts us;split at s
  .rename_i hl;obtain⟨a,vs,rfl,hs,r⟩:=Bs rx rfl;obtain⟨b,ws,rfl,aR,r2⟩:=Bs ry rfl;refine⟨a,b,vs,ws,rfl,rfl,hs,aR,λz=>hl.1 ?_,by rw[r.len,r2.len];exact oB hl.2 Dx,λz=>?_,λ_ p hp=>G5 ok hp s (DB ok hp (r.app r2))⟩
   .have:=r.len;rw[z]at this;exact ql this.symm
   .have e:=by have:=r2.len;rw[z]at this;exact ql this.symm
    subst e;rw[oN]at s;exact s F H _ Le.refl (RR.of ok rx)
  .exact s.elim
 .exact s.elim
def Pb:sS
 |.t (.tup []),.t (.tup us),fs=>okT (.tup us) fs
 |_,_,_=>.bad
meta theorem Rh:OpF K Z (TV K) Pb:=by
 intro F B H U fs x y u w Q ok rx ry s;unfold Pb at s;split at s
 next us=>obtain⟨a,vs,rfl,hs,r⟩:=Bs rx rfl;obtain⟨b,ws,rfl,aR,r2⟩:=Bs ry rfl;subst(by simpa using r);exact⟨a,b,ws,rfl,rfl,hs,aR,s F H _ Le.refl (RR.of ok ry)⟩
 .exact s.elim
meta theorem Wi:OpF K Z Zt KC:=by
 intro F B H U fs x y u w Q ok rx ry s;unfold KC at s;split at s
 .split at s
  .rename_i t e;obtain⟨a,o',rfl,hd,h⟩:=PJ ok rx ry e;rcases h with⟨h1,_⟩|⟨t',v,h1,h2,h3⟩
   .cases h1
   .cases h1;subst h2;exact⟨a,v,rfl,hd,s F H v Le.refl (RR.of ok h3)⟩
  .exact s.elim
 .exact s.elim
meta theorem Oe(neg:Bool):OpF K Z (rDIn neg) (W8 neg):=by
 intro F B H U fs y x w u Q ok ry rx s;unfold W8 at s;split at s
 .split at s
  .rename_i t e;obtain⟨a,o',rfl,hd,h⟩:=PJ ok rx ry e;refine⟨a,o',rfl,hd,?_⟩;have:o'.isSome=t.isSome:=by
    rcases h with⟨h1,h2⟩|⟨t',v,h1,h2,h3⟩
    .rw[h1,h2];rfl
    .rw[h1,h2];rfl
   rw[this];exact s F H _ Le.refl (RR.of ok rfl)
  .exact s.elim
 .exact s.elim
def Az:=orG gAdd (orG R9 (orG MU (orG Pc Pb)))
def BQ:=orG Yn R7
def Ap:=orG gIx KC
def CK(neg:Bool):=orG (W8 neg) (orG (Jt neg) (gIn neg))
def R8:List Rv->sT
 | [.t (.n ks _)],fs=>okT (.int ks.length) fs
 | [.x i],fs=>match Aq fs i with|some (.n ks _)=>okT (.int ks.length) fs|_=>.bad
 |_,_=>.bad
def AK:=orC Ja6 (orC Kz R8)
def C5:=orC W6 O9
meta theorem XY:B1 K Z (λxs H Q=>∃a af,xs=[V.ref a]/\Rd H a (.n af)/\Q (.int af.length) H) R8:=by
 intro F B H U fs rs vs Q ok q s;cases rs with
 |nil=>exact s.elim
 |cons r rs =>
  cases r with
  |nw=>exact s.elim
  |t t =>
   cases t with
   |n ks ts =>
    cases rs with
    |nil =>
     obtain⟨v,rfl,qq⟩:=AO q;simp only[Cv,Ay]at qq;obtain⟨a,af,rfl,f,hd,rfl,r⟩:=qq
     change sat Z B (RR K B U) F H (okT (.int (af.map (·.1)).length) fs) Q at s
     rw[nX]at s;exact⟨a,af,rfl,hd,s F H _ Le.refl (RR.of ok rfl)⟩
    |_=>exact s.elim
   |_=>exact s.elim
  |x i =>
   cases rs with
   |nil =>
    obtain⟨v,rfl,qq⟩:=AO q
    change sat Z B (RR K B U) F H (match Aq fs i with|some (.n ks _)=>okT (.int ks.length) fs|_=>.bad) Q at s
    split at s
    next eo=>obtain⟨a,_,rfl,_,⟨af,hd,rfl,_⟩,_⟩:=(ok.at qq eo).vals rfl;rw[nX]at s;exact⟨a,af,rfl,.inl hd,s F H _ Le.refl (RR.of ok rfl)⟩
    .exact s.elim
   |_=>exact s.elim
theorem JbS(ha:FE X Z a fa)(hb:FE X Z b fb):FE X Z (.BinOp a .Add b pos) (Ag Az fa fb) :=
 Pm (OpF.or Jaj (OpF.or Wl (OpF.or Wk (OpF.or Wj Rh)))) (OpR.orR Jac (OpR.orR MA (OpR.orR Jab (OpR.orR Wa Rf)))) ha hb
theorem Jbr(ha:FE X Z a fa)(hb:FE X Z b fb):FE X Z (.BinOp a .Sub b pos) (Ag BX fa fb):=Pm Jae Z7 ha hb
theorem Jbx(ha:FE X Z a fa)(hb:FE X Z b fb):FE X Z (.BinOp a .Mult b pos) (Ag BQ fa fb):=Pm (OpF.or Jaf We) (OpR.orR V6 N9) ha hb
theorem Jbz(ha:FE X Z a fa)(hb:FE X Z b fb):FE X Z (.BinOp a .Mod b pos) (Ag Cu fa fb):=Pm Jag Z9 ha hb
theorem JbN(ha:FE X Z a fa)(hb:FE X Z b fb):FE X Z (.BinOp a .FloorDiv b pos) (Ag GJ fa fb):=Pm Jai V8 ha hb
theorem fe_sx(hu:X.A.units+1<cLine)(ha:FE X Z a fa)(hb:FE X Z b fb)(hs:ID b):FE X Z (.Subscript a b pos) (Ag Ap fa fb):=fe_ix (OpF.or of_ix Wi) (IxR.orR JaH (WM hu)) ha hb hs
theorem fe_eq(ha:FE X Z a fa)(hb:FE X Z b fb):FE X Z (.Compare a [.Eq] [b] pos) (Ag (gEq false) fa fb):=Jw of_eq V9 ha hb (Cz _)
theorem ft_eq(ha:FE X Z a fa)(hb:FE X Z b fb):FT X Z (.Compare a [.Eq] [b] pos) (asB (Ag (gEq false) fa fb)):=C6 of_eq V9 ha hb (Cz _)
theorem ft_ne(ha:FE X Z a fa)(hb:FE X Z b fb):FT X Z (.Compare a [.NotEq] [b] pos) (asB (Ag (gEq true) fa fb)):=C6 of_ne op_ne ha hb (Cz _)
theorem ft_lt(ha:FE X Z a fa)(hb:FE X Z b fb):FT X Z (.Compare a [.Lt] [b] pos) (asB (Ag gLt fa fb)):=C6 of_lt op_lt ha hb (Cz _)
theorem ft_le(ha:FE X Z a fa)(hb:FE X Z b fb):FT X Z (.Compare a [.LtE] [b] pos) (asB (Ag gLe fa fb)):=C6 of_le V7 ha hb (Cz _)
theorem ft_gt(ha:FE X Z a fa)(hb:FE X Z b fb):FT X Z (.Compare a [.Gt] [b] pos) (asB (Ag gGt fa fb)):=C6 of_gt op_gt ha hb (Cz _)
theorem fe_in(hu:X.A.units+1<cLine)(ha:FE X Z a fa)(hb:FE X Z b fb)(hm:behindInMarks .In b=false:=by rfl):FE X Z (.Compare a [.In] [b] pos) (Ag (CK false) fa fb) :=
 Jw (OpF.or (Oe false) (OpF.or Lu (Wf false))) (OpR.orR (Ue hu) (OpR.orR Jh Ji)) ha hb hm
theorem ft_in(hu:X.A.units+1<cLine)(ha:FE X Z a fa)(hb:FE X Z b fb)(hm:behindInMarks .In b=false:=by rfl):FT X Z (.Compare a [.In] [b] pos) (asB (Ag (CK false) fa fb)) :=
 C6 (OpF.or (Oe false) (OpF.or Lu (Wf false))) (OpR.orR (Ue hu) (OpR.orR Jh Ji)) ha hb hm
theorem Sd(hu:X.A.units+1<cLine)(ha:FE X Z a fa)(hb:FE X Z b fb)(hm:behindInMarks .NotIn b=false:=by rfl):FT X Z (.Compare a [.NotIn] [b] pos) (asB (Ag (CK true) fa fb)) :=
 C6 (OpF.or (Oe true) (OpF.or Kq (Wf true))) (OpR.orR (Ob hu) (OpR.orR Jf Jg)) ha hb hm
def itU(f:sT):sX:=λfs=>(f fs).bnd λr fs=>match r with|.t (.lst ts)=>.ok ts fs|.t (.zX ts)=>.ok ts fs|.t (.tup ts)=>.ok ts fs|.t (.str z)=>.ok (signs z) fs|_=>.bad
theorem Jbn(hl:FE X Z l f):FI X Z tg l (itU f):=by
 refine G8 (ZP hl) λU H Q aj => ?_
 obtain⟨F,B,fs,ok,s⟩:= aj;refine⟨F,B,fs,ok,As s λr ae F1 H1 u l au rx s1=>?_⟩;split at s1
 next ts=>obtain⟨a,vs,rfl,ff,hs,r⟩:=rx;exact .inl ⟨a,rfl,⟨vs,SqL.of hs⟩,s1 F1 H1 _ Le.refl ⟨au,LC (λF' H' l=>SqL.of ((l a ff).2.trans hs)) r⟩⟩
 next ts=>obtain⟨a,vs,rfl,hs,r⟩:=rx;exact .inl ⟨a,rfl,⟨vs,hs.sq⟩,s1 F1 H1 _ Le.refl ⟨au,LC (λF' H' l=>(StL.lf l hs).sq) r⟩⟩
 next ts=>obtain⟨a,vs,rfl,hs,r⟩:=rx;exact .inr (.inl ⟨a,rfl,⟨vs,hs.sq⟩,s1 F1 H1 _ Le.refl ⟨au,WJ (λF' H' l=>SqT.of ((l a hs.2.1).2.trans hs.2.2)) r⟩⟩)
 next z=>exact .inr (.inr ⟨z,rx,s1 F1 H1 _ Le.refl ⟨au,WK⟩⟩)
 .exact s1.elim
def O5:Rv->Rv->Rv->FS->SO
 |.x i,.t (.int k),.t t,fs=>match Aq fs i with
  |some (.lst ts)=>match ixN ts.length k with|some j=>.nx (putAt fs i (.lst (ts.set j t)))|none=>.bad
  |_=>.bad
 |_,_,_,_=>.bad
def O6:Rv->Rv->Rv->FS->SO
 |.x i,.t y,.t t,fs=>match Aq fs i with
  |some (.n ks ts)=>match FH y with|some k=>if ks.length<big then .nx (putAt fs i (.n (GL ks ts k t).1 (GL ks ts k t).2))else .bad|none=>.bad
  |some (.dT ks ts)=>match y with
   |.tup ys=>match Ee ys with|some k=>if ks.length<big then .nx (putAt fs i (.dT (GL ks ts k t).1 (GL ks ts k t).2))else .bad|none=>.bad
   |_=>.bad
  |_=>.bad
 |_,_,_,_=>.bad
def O4:Rv->Rv->Rv->FS->SO:=λo i v fs=>match O5 o i v fs with|.bad=>O6 o i v fs|s=>s
def A1(fv fo fi:sT):FS->SO:=λfs=>SO.of ((fv fs).bnd λv fs=>(fo fs).bnd λo fs=>(fi fs).bnd λi fs=>.ok (v,o,i) fs) λ(v,o,i) fs=>O4 o i v fs
variable{B:sY}
meta theorem R4(ok:Okk K F B H fs U)(ro:Cv K F H U o uo)(ri:Cv K F H U i ui)(rv:Cv K F H U v uv)(s:Fe K Z B F H (O5 o i v fs) D):Vz uo ui uv H (λH3=>D.nx U H3):=by
 unfold O5 at s;split at s
 .rename_i i k t;split at s
  .rename_i ts e;split at s
   next j ej=>obtain⟨a,us,rfl,hs,r,kk⟩:=ok.list ro e;obtain⟨bx,l⟩:=kk (ts.set j t) (us.set j uv) (Ah.set rv j r);exact⟨a,us,k,j,rfl,ri,hs,by rw[r.len];exact ej,s F _ U l bx⟩
   .exact s.elim
  .exact s.elim
 .exact s.elim
meta theorem R5(ok:Okk K F B H fs U)(ro:Cv K F H U o uo)(ri:Cv K F H U i ui)(rv:Cv K F H U v uv)(s:Fe K Z B F H (O6 o i v fs) D):VA uo ui uv H (λH3=>D.nx U H3):=by
 unfold O6 at s;split at s
 .rename_i i y t;split at s
  .rename_i ks ts e;split at s
   .rename_i k ek;split at s
    next hl=>obtain⟨a,_,rfl,f,⟨af,hs,rfl,rfl⟩,q⟩:=(ok.at ro e).vals rfl;have:=CM ek ri;subst this;refine⟨a,_,rfl,Ng.k hs (by rw[nX]at hl;exact pE hl EV),?_⟩;obtain⟨h1,h2⟩:=Fi rv q;exact s F _ U (C4 f) (ok.updV e ro f rfl ⟨_,rfl,h1,rfl⟩ h2)
    .exact s.elim
   .exact s.elim
  .rename_i ks ts e;split at s
   .rename_i ys;split at s
    .rename_i k ek;split at s
     next hl=>obtain⟨a,_,rfl,f,⟨af,hs,rfl,rfl⟩,q⟩:=(ok.at ro e).vals rfl;obtain⟨b,vs,rfl,hb,rb⟩:=ri;have:=FG ek rb;subst this;refine⟨a,_,rfl,Ng.t hs hb.2.2 (by rw[nX]at hl;exact pE hl EV),?_⟩;obtain⟨h1,h2⟩:=Fi rv q;exact s F _ U (C4 f) (ok.updV e ro f rfl ⟨_,rfl,h1,rfl⟩ h2)
     .exact s.elim
    .exact s.elim
   .exact s.elim
  .exact s.elim
 .exact s.elim
theorem RS(hu:X.A.units+1<cLine)(he:FE X Z e fv)(ho:FE X Z o fo)(hi:FE X Z i fi)
  (h:∀{te to ti:TE}{t:TSet},PE X e te->PE X o to->PE X i ti->Ti X t->PS X (.Assign [.Subscript o i tpos] e pos) (Zb te (gSub to ti t))):GS X Z (.Assign [.Subscript o i tpos] e pos) (A1 fv fo fi):=by
 refine BV (h he ho hi (Ti.orR set_list (set_dict hu))) λD U H aj=>?_
 obtain⟨F,B,fs,ok,s⟩:= aj;exact⟨F,B,fs,ok,(by
  refine As (BS (R:=λF' H' ak (a:Rv×Rv×Rv) (b:V×V×V)=>Okk X.K F' B H' ak U/\Cv X.K F' H' U a.1 b.1/\Cv X.K F' H' U a.2.1 b.2.1/\Cv X.K F' H' U a.2.2 b.2.2) (Q:=λb H3=>Z6 Vz VA b.2.1 b.2.2 b.1 H3 λH4=>D.nx U H4) s (λa ak F' H' b l q s2=>by
   obtain⟨q1,q2,q3,q4⟩:=q;dsimp only at s2 q2 q3 q4 ⊢;unfold O4 at s2;split at s2
   .exact .inr (R5 q1 q3 q4 q2 s2)
   .exact .inl (R4 q1 q3 q4 q2 s2))) λv ae F1 H1 uv l1 au rv s2=>?_
  refine⟨F1,B,ae,au,As s2 λo aq F2 H2 uo l2 aJ ro s3=>⟨F2,B,aq,aJ,As s3 λi cn F3 H3 ui l3 bG ri s4=>?_⟩⟩;exact s4 F3 H3 (uv,uo,ui) Le.refl ⟨bG,(rv.le l2).le l3,ro.le l3,ri⟩)⟩
theorem RV:GS X Z st (λ_=>.bad):=BV Q1 λD U H ⟨F,B,fs,ok,s⟩=>s.elim
def Yt:Rv->Option FO
 |.t t=>some (.val t)
 |.nw o=>some o
 |.x _=>none
def De:List Str->List FO->Str->FO->Option (List Str×List FO)
 | [],[],f,o=>some ([f],[o])
 |g::gs,x::os,f,o=>if g=f then(match x with|.val _=>some (g::gs,o::os)|_=>none)else(De gs os f o).map λp=>(g::p.1,x::p.2)
 |_,_,_,_=>none
def BO:List Str->List FO->Str->FO->List FO
 |g::gs,x::os,f,o=>if f==g then o::os else x::BO gs os f o
 |_,os,_,_=>os
variable{K:Fg}{F F':Wd}{H H':Hp}{U:St}{fs:FS}{i:Nat}{b:Bool}{π fH:List Nat}{r:Rv}{u v:V}{C a:Addr}{gs:List Str}{os:List FO}{f:Str}{o o':FO}{x:HO}
theorem Lb:∀{af:List (Str×V)}{os:List FO},AQ (af.map (·.1)) os f=some o->∃(k:Nat)(v:V),os[k]?=some o/\(af.map (·.2))[k]?=some v/\af.lookup f=some v/\∀x,BO (af.map (·.1)) os f x=os.set k x
 | [],os,e=>by cases os<;>simp[AQ]at e
 |(k,v)::af,[],e=>by simp[AQ]at e
 |(k,v)::af,o1::os,e=>by simp only[nQ,AQ,BO]at e ⊢;rw[oR];cases hb:f==k with|true=>rw[hb]at e;cases e;exact⟨0,v,rfl,rfl,rfl,λ_=>rfl⟩|false=>rw[hb]at e;exact let⟨n,w,h1,h2,h3,h4⟩:=Lb (by simpa using e);⟨n+1,w,h1,h2,h3,λx=>by simp[h4 x]⟩
theorem Lm:∀{af:List (Str×V)}{os bo:List FO}{cJ:List Str},De (af.map (·.1)) os f o=some (cJ,bo)->∃k:Nat,(Fj f y af).map (·.1)=cJ/\(af.length=os.length->(Fj f y af).length=bo.length) /\
  ∀(m:Nat)(o':FO)(v:V),bo[m]?=some o'->((Fj f y af).map (·.2))[m]?=some v->(m=k/\o'=o/\v=y)\/(os[m]?=some o'/\(af.map (·.2))[m]?=some v)
 | [],os,bo,cJ,e=>by cases os with|cons x os=>simp[De]at e|nil =>cases e;refine⟨0,rfl,λ_=>rfl,λm o' v e1 e2=>?_⟩;cases m with|zero=>cases e1;cases e2;exact .inl ⟨rfl,rfl,rfl⟩|succ m=>cases e1
 |(g,x)::af,os,bo,cJ,e=>by
  cases os with
  |nil=>simp[De]at e
  |cons o1 os =>
   simp only[nQ,De,Fj]at e ⊢;by_cases hg:g=f
   .rw[if_pos hg]at e ⊢;cases o1<;>cases e;refine⟨0,rfl,λh=>by simpa using h,λm o' v e1 e2=>?_⟩;cases m with|zero=>cases e1;cases e2;exact .inl ⟨rfl,rfl,rfl⟩|succ m=>exact .inr ⟨e1,e2⟩
   .rw[if_neg hg,nY]at e;rw[if_neg hg];obtain⟨p,ep,e⟩:=e;cases e;obtain⟨k,h1,h2,h3⟩:=Lm ep;refine⟨k+1,by rw[nQ,h1],λh=>by simpa using h2 (by simpa using h),λm o' v e1 e2=>?_⟩;cases m with|zero=>exact .inr ⟨e1,e2⟩|succ m=>exact(h3 m o' v e1 e2).imp (λh=>⟨by rw[h.1],h.2⟩) id
theorem A6.skip(f:F.o a=.q c j fH)(hn:∀ρ,¬(c=b/\j=i/\fH=ρ++π))(h:A6 K F H b i π o v):A6 K F (upd H a x) b i π o v :=
 h.mv (λa' ρ z=>⟨z,Al λe=>by rw[e,f]at z;cases z;exact hn ρ ⟨rfl,rfl,rfl⟩⟩) λa' z=>⟨z,Al λe=>by rw[e]at z;exact nomatch f.symm.trans z⟩
theorem RR.store(q:RR K B U F H fs r u)(e:Aq fs i=some (.ins C gs os))(er:Yt r=some o)(ep:De gs os f o=some p):∃a dx af F',U[i]?=some (some (.ref a))/\H a=some (.ins C dx af)/\af.map (·.1)=gs /\
  Le F H F' (upd H a (.ins C dx (Fj f u af)))/\Okk K F' B (upd H a (.ins C dx (Fj f u af))) (putAt fs i (.ins C p.1 p.2)) U:=by
 obtain⟨ok,q⟩:=q;obtain⟨v,sv,ro⟩:=ok.own e;obtain⟨a,_,rfl,fa,⟨dx,af,hd,rfl,rfl⟩,hl,rc⟩:=ro.inv rfl;obtain⟨k,h1,h2,h3⟩:=Lm ep;have f':(F.re false 0 λρ=>.q true i (ρ++[k])).o a=.q true i []:=by show reT _ _ _ (F.o a)=_;rw[fa];exact Li (by simp)
 have l:=(Le.re (H:=H)).trans (C4 (o:=.ins C dx (Fj f u af)) f');refine⟨a,dx,af,_,sv,hd,rfl,l,ok.re.upd e f' λw ew=>?_⟩;rw[sv]at ew;cases ew;refine .nd rfl f' (by rw[An];exact⟨dx,_,rfl,h1,rfl⟩) (by simpa using h2 (by simpa using hl)) λm o' v e1 e2=>?_
 rcases h3 m o' v e1 e2 with⟨rfl,rfl,rfl⟩|⟨e3,e4⟩
 .cases r with|t t=>cases er;exact .val (Ay.le l q)|nw o=>cases er;exact A6.skip f' (by simp) (A6.mvR q)|x j=>cases er
 .exact A6.skip f' (by simp) ((rc m o' v e3 e4).mv (λb ρ z=>⟨by show reT _ _ _ (F.o b)=_;rw[z];exact Li (by simp),rfl⟩) Le.re.f)
theorem Okk.fld(ok:Okk K F B H fs U)(e:Aq fs i=some (.ins C gs os))(ef:AQ gs os f=some o):∃a dx af v k,U[i]?=some (some (.ref a))/\H a=some (.ins C dx af)/\af.map (·.1)=gs/\af.lookup f=some v/\A6 K F H true i [k] o v /\
  ∀F' H' o',Lf F H F' H'->(∀b j ρ,F.o b=.q true j ρ->(∀τ,¬(j=i/\ρ=τ++[k]))->F'.o b=.q true j ρ/\H' b=H b)->(∀b,H' b=none->F'.o b=.no)->A6 K F' H' true i [k] o' v->Okk K F' B H' (putAt fs i (.ins C gs (BO gs os f o'))) U:=by
 obtain⟨v,sv,ro⟩:=ok.own e;obtain⟨a,_,rfl,fa,⟨dx,af,hd,rfl,rfl⟩,hl,rc⟩:=ro.inv rfl;obtain⟨k,v,h1,h2,h3,h4⟩:=Lb ef;refine⟨a,dx,af,v,k,sv,hd,rfl,h3,rc k o v h1 h2,λF' H' o' l hm td r=>ok.put e l (λb j ρ hj z=>hm b j ρ z λ_ q=>hj q.1) td λw ew=>?_⟩;rw[sv]at ew;cases ew;have q:=hm a i [] fa (by simp);refine .nd rfl q.1 (by rw[q.2];exact⟨dx,af,hd,rfl,rfl⟩) (by rw[h4,List.length_set];exact hl) λm o1 v1 e1 e2=>?_
 rw[h4,qj]at e1;by_cases hk:k=m
 .subst hk;rw[if_pos rfl]at e1;split at e1
  .cases e1;rw[h2]at e2;cases e2;exact r
  .cases e1
 .rw[if_neg hk]at e1;exact(rc m o1 v1 e1 e2).mv (λb ρ z=>hm b i _ z λτ q=>hk (by simpa using congrArg List.getLast? q.2.symm)) l
theorem Okk.Sg(ok:Okk K F B H fs U)(e:Aq fs i=some (.ins C gs os))(ef:AQ gs os f=some o)(ev:o.vw=some (sh,ts.map .val)):∃a dx af b vs,U[i]?=some (some (.ref a))/\H a=some (.ins C dx af)/\af.map (·.1)=gs/\af.lookup f=some (.ref b)/\Has b (H b) sh vs/\Ah K F H ts vs /\
  ∀o' iX bI bB x,o'.vw=some (iX,bI.map .val)->Has b (some x) iX bB->Ah K F H bI bB->Okk K F B (L2.upd H b x) (putAt fs i (.ins C gs (BO gs os f o'))) U/\Le F H F (L2.upd H b x):=by
 obtain⟨a,dx,af,v,k,h1,h2,h3,h4,r,bk⟩:=ok.fld e ef;obtain⟨b,vs,rfl,fb,hs,rt⟩:=r.vals ev;refine⟨a,dx,af,b,vs,h1,h2,h3,h4,hs,rt,λo' iX bI bB x e1 e2 e3=>⟨bk F _ o' (C4 fb).f (λc j ρ z q=>⟨z,Al λe=>?_⟩) (λc z=>ok.td c (Bp z).2) (.of e1 fb (by rwa[An]) (e3.le (C4 fb))),C4 fb⟩⟩;rw[e,fb]at z;cases z;exact q [] ⟨rfl,rfl⟩
def DS(C:Addr)(f:Str)(i:Nat)(fv:sT):FS->SO:=λfs=>SO.of (fv fs) λr fs=>match Yt r,Aq fs i with|some o,some (.ins C' gs os)=>if C'=C/\gs.length<900 then(match De gs os f o with|some p=>.nx (putAt fs i (.ins C p.1 p.2))|none=>.bad)else .bad|_,_=>.bad
meta theorem Ja3{x}(c:Cls X.K C)(n:AH X.K C f)(i:Nat)(he:FE X Z e fv)
  (h:∀{tv:TE},PE X e tv->PS X (.Assign [.Attribute (.Name x p1) f p2] e pos) (sFld X.K (Kb i) tv f)):GS X Z (.Assign [.Attribute (.Name x p1) f p2] e pos) (DS C f i fv):=by
 refine BV (h he) λD U H aj => ?_
 obtain⟨F,B,fs,ok,s⟩:= aj;refine⟨F,B,fs,ok,BS s λr ae F1 H1 u l q s1=>?_⟩;split at s1
 .rename_i o C' gs os e1 e2;split at s1
  .rename_i hC;obtain⟨rfl,hl⟩:=hC;split at s1
   next p ep=>obtain⟨a,dx,af,F',h1,h2,h3,l',bx⟩:=q.store e2 e1 ep;exact⟨_,h1,a,C',dx,af,rfl,h2,c,n,by rw[<- h3,nX]at hl;lia,s1 F' _ U l' bx⟩
   .exact s1.elim
  .exact s1.elim
 .exact s1.elim
def BF(C:Addr)(f:Str)(i j:Nat)(fv:sT):FS->SO:=λfs=>SO.of (fv fs) λr fs=>match r with|.t t=>(match Aq fs i with|some (.ins C' gs os)=>(match fs[j]? with|some (some (.val y))=>if C'=C then(match AQ gs os f with|some (.n ks ts)=>(match FH y with|some k=>if ks.length<big then .nx (putAt fs i (.ins C gs (BO gs os f (.n (GL ks ts k t).1 (GL ks ts k t).2))))else .bad|none=>.bad)|_=>.bad)else .bad|_=>.bad)|_=>.bad)|_=>.bad
meta theorem RX{X:Cx}{Z:Xp}{x y:Str}{e:Expr}{fv:sT}{p1 p2 p3 p4 pos:Pos}(c:Cls X.K C)(n:AH X.K C f)(i j:Nat)(he:FE X Z e fv)
  (h:∀{tv:TE},PE X e tv->PS X (.Assign [.Subscript (.Attribute (.Name x p1) f p2) (.Name y p3) p4] e pos) (Zk (tFld X.K (Kb i) f) (Kb j) tv)) :
  GS X Z (.Assign [.Subscript (.Attribute (.Name x p1) f p2) (.Name y p3) p4] e pos) (BF C f i j fv):=by
 refine BV (h he) λD U H aj => ?_
 obtain⟨F,B,fs,ok,s⟩:= aj;refine⟨F,B,fs,ok,BS s λr ae F1 H1 u l q s1=>?_⟩;split at s1
 .rename_i t;split at s1
  .rename_i C' gs os e2;split at s1
   .rename_i y' e3;split at s1
    .rename_i hC;subst hC;split at s1
     .rename_i ks ts e4;split at s1
      .rename_i k e5;split at s1
       next hl=>obtain⟨au,rt⟩:=q;obtain⟨a,dx,af,b,_,h1,h2,h3,h4,⟨bg,hb,rfl,rfl⟩,rd,bk⟩:=au.Sg e2 e4 rfl;obtain⟨uy,e6,ry⟩:=au.sl _ _ e3;cases CM e5 ry;obtain⟨g1,g2⟩:=Fi (j:=k) rt rd;obtain⟨bx,l'⟩:=bk (.n (GL (bg.map (·.1)) ts k t).1 (GL (bg.map (·.1)) ts k t).2) _ _ _ (.n (putK bg k u)) rfl ⟨_,rfl,g1,rfl⟩ g2;exact⟨_,h1,a,C',dx,af,.ref b,rfl,h2,c,n,h4,kV k,e6,b,_,rfl,Ng.k hb (by rw[nX]at hl;exact pE hl EV),s1 F1 _ U l' bx⟩
       .exact s1.elim
      .exact s1.elim
     .exact s1.elim
    .exact s1.elim
   .exact s1.elim
  .exact s1.elim
 .exact s1.elim
theorem JbC(hm:X.mg "len"=none)(ha:FA X Z (e::es) fa)(hg:Gl X "len":=by rfl)(he:Zsc X.env e es:=by rfl)(aC:Zbt X.env pos es:=by rfl):
  FE X Z (.Call (.Name "len" p) (e::es) [] pos) (Ad AK fa):=CS (B1.or Jb9 (B1.or XX XY)) (BK.orR JL (BK.orR JK M1)) hm PySem.boot_len ha hg (by decide) (by decide) he aC
theorem Xm(hm:X.mg "min"=none)(ha:FA X Z (e::es) fa)(hc:X.calm=true:=by rfl)(hg:Gl X "min":=by rfl)(he:Zsc X.env e es:=by rfl)(aC:Zbt X.env pos es:=by rfl):
  FE X Z (.Call (.Name "min" p) (e::es) [] pos) (Ad Js fa):=CS XS (PZ hc) hm boot_min ha hg (by decide) (by decide) he aC
theorem Jbq(hm:X.mg "sum"=none)(ha:FA X Z (e::es) fa)(hc:X.calm=true:=by rfl)(hg:Gl X "sum":=by rfl)(he:Zsc X.env e es:=by rfl)(aC:Zbt X.env pos es:=by rfl):
  FE X Z (.Call (.Name "sum" p) (e::es) [] pos) (Ad Qo fa):=CS Jb8 (SW hc) hm boot_sum ha hg (by decide) (by decide) he aC
theorem JbR(hm:X.mg "all"=none)(ha:FA X Z (e::es) fa)(hc:X.calm=true:=by rfl)(hg:Gl X "all":=by rfl)(he:Zsc X.env e es:=by rfl)(aC:Zbt X.env pos es:=by rfl):
  FE X Z (.Call (.Name "all" p) (e::es) [] pos) (Ad Yp fa):=CS Jcb (S0 hc) hm boot_all ha hg (by decide) (by decide) he aC
theorem Xr(hm:X.mg "list"=none)(ha:FA X Z (e::es) fa)(hc:X.calm=true:=by rfl)(hg:Gl X "list":=by rfl)(he:Zsc X.env e es:=by rfl)(aC:Zbt X.env pos es:=by rfl):
  FE X Z (.Call (.Name "list" p) (e::es) [] pos) (Ad C5 fa):=Ek (B1.or XU SS) (BK.orR JJ (Gv hc)) hm boot_list ha hg (by decide) (by decide) he aC
theorem Sj(hm:X.mg "tuple"=none)(ha:FA X Z (e::es) fa)(hg:Gl X "tuple":=by rfl)(he:Zsc X.env e es:=by rfl)(aC:Zbt X.env pos es:=by rfl):
  FE X Z (.Call (.Name "tuple" p) (e::es) [] pos) (Ad Bv fa):=Ek SQ Ir hm boot_tuple ha hg (by decide) (by decide) he aC
theorem Xs(hm:X.mg "int"=none)(ha:FA X Z (e::es) fa)(hg:Gl X "int":=by rfl)(he:Zsc X.env e es:=by rfl)(aC:Zbt X.env pos es:=by rfl):
  FE X Z (.Call (.Name "int" p) (e::es) [] pos) (Ad MQ fa):=Ek XZ P1 hm boot_int ha hg (by decide) (by decide) he aC
def Zr(f:sT):sT:=λfs=>(f fs).bnd λr fs=>match Bw fs r with|some ts=>.ok (.nw (.lst ts.reverse)) fs|none=>.bad
theorem MW{X:Cx}{Z:Xp}{a:Expr}{f:sT}{p1 p2 bY bb:Pos}(hc:X.calm=true)(dH:X.mg "list"=none)(cy:X.mg "reversed"=none)(ha:FE X Z a f)(dE:Gl X "list":=by rfl)(bT:Gl X "reversed":=by rfl)
  (he:starEach [(.Call (.Name "reversed" p2) [a] [] bb:Expr)] X.env=[(false,eval (.Call (.Name "reversed" p2) [a] [] bb) X.env)]:=by rfl) (dD:Zs1 X.env a:=by rfl) :
  FE X Z (.Call (.Name "list" p1) [.Call (.Name "reversed" p2) [a] [] bb] [] bY) (Zr f):=by
 refine Ax (Jd (x:="") (p:=p1) hc dH (ZQ cy ha bT dD) ⟨by decide,by decide⟩ dE he) λU H Q aj => ?_
 obtain⟨F,B,fs,ok,s⟩:= aj;refine⟨F,B,fs,ok,As s λr ae F1 H1 u l au rx s1=>?_⟩;split at s1
 next ts fL=>obtain⟨a,vs,rfl,hs,q⟩:=AN au rx fL;exact⟨a,vs,rfl,hs,X4,λd hd=>Zq hs hd (CN au hd s1 rfl rfl q.rev)⟩
 .exact s1.elim
def Yl(f:sT):sT:=λfs=>(f fs).bnd λr fs=>match r with|.t (.int i)=>okT (.int (-i)) fs|_=>.bad
theorem Jbw{a}{f}(ha:FE X Z a f):FE X Z (.UnaryOp .USub a pos) (Yl f):=by
 refine Ax (pe_un YU ha) λU H Q aj => ?_
 obtain⟨F,B,fs,ok,s⟩:= aj;refine⟨F,B,fs,ok,As s λr ae F1 H1 u l au rx s1=>?_⟩;split at s1
 .exact⟨_,rx,s1 F1 H1 _ Le.refl (RR.of au rfl)⟩
 .exact s1.elim
def RP(K:Fg)(B:sY)(U:St):Wd->Hp->FS->Option Int->Option Int->Prop:=λF H fs a b=>Okk K F B H fs U/\b=a
inductive tP(K:Fg)(Z:Xp)(f:FS->Out (Option Int))(U:St)(H:Hp)(Q:Option Int->Hp->Prop):Prop
 |mk (F:Wd) (B:sY) (fs:FS) (h0:Okk K F B H fs U) (h1:sat Z B (RP K B U) F H (f fs) Q)
def FP(X:Cx)(Z:Xp)(e:Option Expr)(f:FS->Out (Option Int)):Prop:=PO X e (tP X.K Z f)
theorem T4{e:Option Expr}(h:PO X e t)(i:∀U H Q,t' U H Q->t U H Q):PO X e t':=λaa s U H Q I q=>h aa s U H Q I (i _ _ _ q)
def noP:FS->Out (Option Int):=λfs=>.ok none fs
def Cy(f:sT):FS->Out (Option Int):=λfs=>(f fs).bnd λr fs=>match r with|.t (.int i)=>.ok (some i) fs|_=>.bad
def Qq(ts:List T)(lo hi:Option Int):List T:=(ts.drop (HT.sIx ts.length 0 lo)).take (HT.sIx ts.length ts.length hi-HT.sIx ts.length 0 lo)
theorem LZ(r:Ah K F H ts vs):Ah K F H (Qq ts lo hi) (XO vs lo hi):=by unfold Qq XO;rw[r.len];exact(r.drop _).take _
def GI:Rv->Option Int->Option Int->sT:=λx lo hi fs=>match Bw fs x with|some ts=>okT (.lst (Qq ts lo hi)) fs|none=>match x with|.t (.tup ts)=>okT (.tup (Qq ts lo hi)) fs|_=>.bad
def slF(f:sT)(l h:FS->Out (Option Int)):sT:=λfs=>(f fs).bnd λx fs=>(l fs).bind λlo fs=>(h fs).bind λhi fs=>GI x lo hi fs
variable{l h:FS->Out (Option Int)}
theorem Xf:FP X Z none noP:=T4 VO λU H Q ⟨F,B,fs,ok,s⟩=>s F H none Le.refl ⟨ok,rfl⟩
theorem Xe{f}(he:FE X Z e f):FP X Z (some e) (Cy f):=by
 refine T4 (VN he) λU H Q aj => ?_
 obtain⟨F,B,fs,ok,s⟩:= aj;refine⟨F,B,fs,ok,As s λr ae F1 H1 u l au rx s1=>?_⟩;split at s1
 .exact⟨_,rx,s1 F1 H1 _ Le.refl ⟨au,rfl⟩⟩
 .exact s1.elim
meta theorem fe_sl{f}(he:FE X Z e f)(hl:FP X Z lo l)(hu:FP X Z hi h):FE X Z (.Subscript e (.Slice lo hi none p2) pos) (slF f l h):=by
 refine Ax (Rb (SlR.or Vs (SlR.or Zg Zi)) he hl hu) λU H Q aj => ?_
 obtain⟨F,B,fs,ok,s⟩:= aj;refine⟨F,B,fs,ok,As s λx ae F1 H1 u l1 au rx s1=>⟨F1,B,ae,au,Ar s1 λlo aq F2 H2 jU l2 q2 s2=>?_⟩⟩;obtain⟨aJ,rfl⟩:=q2;refine⟨F2,B,aq,aJ,Ar s2 λhi cn F3 H3 b8 l3 q3 s3=>?_⟩;obtain⟨bG,rfl⟩:=q3;have iV:=(rx.le l2).le l3;unfold GI at s3;split at s3
 next ts e=>obtain⟨a,vs,rfl,hs,r⟩:=AN bG iV e;exact .inl ⟨a,vs,rfl,hs,λp hp=>G5 bG hp s3 (G6 bG hp (LZ r))⟩
 .split at s3
  .rename_i ts _;obtain⟨a,vs,rfl,hs,r⟩:=Bs iV rfl;by_cases hw:HT.sIx ts.length 0 jU=0/\HT.sIx ts.length ts.length b8=ts.length
   .refine .inr (.inr ⟨a,vs,rfl,hs,by rw[r.len];exact hw,s3 F3 H3 _ Le.refl (RR.of bG ?_)⟩);have e:Qq ts jU b8=ts:=by unfold Qq;rw[hw.1,hw.2];simp
    rw[e];exact iV
   .exact .inr (.inl ⟨a,vs,rfl,hs,by rw[r.len];exact hw,λp hp=>G5 bG hp s3 (DB bG hp (LZ r))⟩)
  .exact s3.elim
def Kk:T->Option (List T)
 |.lst ts=>some ts
 |.zX ts=>some ts
 |.tup ts=>some ts
 |_=>none
def pairs:List T->List T->List T
 |x::xs,y::ys=>.tup [x,y]::pairs xs ys
 |_,_=>[]
theorem pairs_at:∀{xs ys:List T}{i:Nat}{t:T},(pairs xs ys)[i]?=some t->∃x y,xs[i]?=some x/\ys[i]?=some y/\t=.tup [x,y]
 | [],_,i,t,h=>by simp[pairs]at h
 |_::_,[],i,t,h=>by simp[pairs]at h
 |x::xs,y::ys,0,t,h=>by simp only[pairs,qC,Option.some.injEq]at h;exact⟨x,y,rfl,rfl,h.symm⟩
 |x::xs,y::ys,i+1,t,h=>by simp only[pairs]at h;simpa using pairs_at h
theorem pairs_len:∀{xs ys:List T}{i:Nat},(pairs xs ys).length<=i->xs.length<=i\/ys.length<=i
 | [],_,i,h=>.inl (by simp)
 |_::_,[],i,h=>.inr (by simp)
 |x::xs,y::ys,0,h=>by simp[pairs]at h
 |x::xs,y::ys,i+1,h=>by simp only[pairs,n8,Nat.add_le_add_iff_right]at h;simpa using pairs_len h
theorem HA(r:Ay K F H t u)(e:Kk t=some ts):∃b a vs,u=.ref a/\Ah K F H ts vs/\∀(F':Wd)(H':Hp),(∀a,F a->F' a/\H' a=H a)->SqB b K H' a vs:=by
 unfold Kk at e;split at e
 .cases e;obtain⟨a,vs,rfl,f,hs,r⟩:=r;exact⟨false,a,vs,rfl,r,λF' H' l=>SqL.of ((l a f).2.trans hs)⟩
 .cases e;obtain⟨a,vs,rfl,hs,r⟩:=r;exact⟨false,a,vs,rfl,r,λF' H' l=>(StL.lf l hs).sq⟩
 .cases e;obtain⟨a,vs,rfl,hs,r⟩:=r;exact⟨true,a,vs,rfl,r,λF' H' l=>SqT.of ((l a hs.2.1).2.trans hs.2.2)⟩
 .cases e
def itZ(f g:sT):sX:=λfs=>(f fs).bnd λr fs=>(g fs).bnd λr' fs=>match r,r' with
 |.t x,.t y=>match Kk x,Kk y with|some xs,some ys=>.ok (pairs xs ys) fs|_,_=>.bad
 |_,_=>.bad
theorem OL(h1:∀(F':Wd)(H':Hp),(∀a,F a->F' a/\H' a=H a)->SqB b1 K H' a1 vs)(h2:∀(F':Wd)(H':Hp),(∀a,F a->F' a/\H' a=H a)->SqB b2 K H' a2 ws)
  (r1:Ah K F H xs vs) (r2:Ah K F H ys ws):JOk K F H (Itz K b1 a1 b2 a2) (pairs xs ys):=by
 intro F' H' l ⟨B,fs,U,ok⟩ i;refine⟨λt et=>?_,λhl=>⟨vs,ws,h1 F' H' l,h2 F' H' l,by rw[r1.len,r2.len];exact pairs_len hl⟩⟩;obtain⟨x,y,ex,ey,rfl⟩:=pairs_at et;obtain⟨v,ev,rv⟩:=(Ah.lf l r1).at ex;obtain⟨w,ew,bM⟩:=(Ah.lf l r2).at ey;refine⟨⟨vs,ws,v,w,h1 F' H' l,h2 F' H' l,ev,ew⟩,λz cG hy=>?_⟩;obtain⟨T,vx,vy,hn,rfl,rfl,g1,g2⟩:=hy;have e1:=g1 vs (h1 F' H' l);have e2:=g2 ws (h2 F' H' l);rw[ev]at e1;rw[ew]at e2;cases e1;cases e2;refine⟨F'.tag T .fz,⟨ok.DQ hn,λB fs U k=>k.alloc hn⟩,?_⟩;exact⟨T,[v,w],rfl,⟨rfl,A3,An⟩,by exact⟨v,[w],rfl,rv.le (ok.DQ hn),w,[],rfl,bM.le (ok.DQ hn),rfl⟩⟩
theorem ER:∀{xs ys:List T},(pairs xs ys).length=min xs.length ys.length
 | [],_=>by simp[pairs]
 |_::_,[]=>by simp[pairs]
 |x::xs,y::ys=>by
  simp only[pairs,n8,ER]
  lia
theorem JaJ(P:Nat->HO->Wd->Hp->Prop)(ok:Okk K F B H fs U)(hS:H S=none)(jk:JOk K F H J ts)(s:sat Z B (RR K B U) F H (.ok (.nw ob) fs) Q)(h0:P 0 o0 (F.tag S .cl) (upd H S o0))
  (hm:∀{i o F1 H1 F2 H2},Lf F1 H1 F2 H2->P i o F1 H1->P i o F2 H2) (hp:∀i t x F3 H3 o,ts[i]?=some t->Ay K F3 H3 t x->P i o F3 H3->H3 S=some o->put i x H3 λo'=>P (i+1) o' F3 H3)
  (he:∀o F' H',P ts.length o F' H'->H' S=some o->F'.o S=.q false 0 []->A6 K F' H' false 0 [] ob (.ref S)) (pm:∀{i x H q q'},(∀o,q o->q' o)->put i x H q->put i x H q'):ItW J S put (Q (.ref S)) (upd H S o0):=by
 refine⟨λi m H2=>m=ts.length-i/\i<=ts.length/\∃F2 o,Le F H F2 H2/\F2.p S/\Okk K F2 B H2 fs U/\H2 S=some o/\P i o F2 H2,⟨_,rfl,pf _,_,o0,ok.DQ hS,A3,ok.alloc hS,An,h0⟩,?_⟩
 rintro i m H2 ⟨rfl,hi,F2,o,l2,p2,aJ,e2,h2⟩
 have jI:=jk F2 H2 l2.f ⟨_,_,_,aJ⟩ i;have ne:∀{a x},F.o a=x->x≠.no->a≠S:=λz q e=>q (by rw[<- z,e,(ok.td S hS)])
 by_cases hit:i<ts.length
 .obtain⟨j1,j2⟩:=jI.1 _ (nO hit);refine .inr ⟨j1,λx H3 hy=>?_⟩;obtain⟨F3,⟨l3,nw⟩,rx⟩:=j2 x H3 hy;have p3:=(l3.p S p2).1;have dM:=l2.trans l3;exact pm (λo' h=>⟨_,by lia,rfl,hit,F3,o',⟨λa f=>⟨(dM.f a f).1,(Al (ne f nofun)).trans (dM.f a f).2⟩,λa f=>⟨(dM.p a f).1,(Al (ne f nofun)).trans (dM.p a f).2⟩⟩,p3,(nw _ _ _ aJ).upP p3,An,hm (SM p3) h⟩) (hp i _ x F3 H3 o (nO hit) rx (hm l3.f h2) ((l3.p S p2).2.trans e2))
 .have e:i=ts.length:=by lia
  subst e;have n2:∀{a x},F2.o a=x->x≠.cl->a≠S:=λz q e=>q (by rwa[<- z,e])
  have l3:Lf F2 H2 (F2.tag S (.q false 0 [])) H2:=λa f=>⟨(Bo (n2 f nofun)).trans f,rfl⟩
  refine .inl ⟨jI.2 (n9 _),s _ _ _ ⟨λa f=>⟨(Bo (ne f nofun)).trans (l2.f a f).1,(l2.f a f).2⟩,λa f=>⟨(Bo (ne f nofun)).trans (l2.p a f).1,(l2.p a f).2⟩⟩ ⟨aJ.to l3 (λa j ρ z=>⟨(Bo (n2 z nofun)).trans z,rfl⟩) λa z=>(Bo λe=>by rw[e,e2]at z;cases z).trans (aJ.td a z),he o _ _ (hm l3 h2) e2 A3⟩⟩
theorem WC(ok:Okk K F B H fs U)(hS:H S=none)(jk:JOk K F H J ts)(s:sat Z B (RR K B U) F H (.ok (.nw (.lst ts)) fs) Q):ItW J S (putL S) (Q (.ref S)) (upd H S (.lst [])):=by
 refine JaJ (λi o F H=>∃vs,o=.lst vs/\Ah K F H (ts.take i) vs) ok hS jk s ⟨[],rfl,rfl⟩ (λl ⟨vs,e,r⟩=>⟨vs,e,r.lf l⟩) (λi t x F3 H3 o et rx ⟨vs,e,r⟩ eo=>⟨vs,e▸eo,?_,_,rfl,?_⟩) (λo F' H' ⟨vs,e,r⟩ eo f=>.of rfl f (e▸eo) (by rwa[pQ]at r)) λh ⟨ys,e,l,q⟩=>⟨ys,e,l,h _ q⟩
 .have:=r.len;rw[oX]at this;lia
 .rw[qz,et];exact r.app (Ah.one rx)
def FIt(X:Cx)(Z:Xp)(av:Expr)(ty:String)(g:sX):Prop:=∃wi:TI,(∀tg,PIt X tg av ty wi)/\∀U H Q,tI X.K Z g U H (λJ H1=>Bnd X J->Q J H1)->wi U H Q
def lstI(g:sX):sT:=λfs=>(g fs).bind λts fs=>.ok (.nw (.lst ts)) fs
def Yv(f g:sT):sT:=lstI (itZ f g)
theorem Jbo(h:FIt X Z av ty g):FI X Z tg av g:=let⟨_,h,k⟩:=h;G8 (h tg).pi λ_ _ _ ⟨F,B,fs,ok,s⟩=>k _ _ _ ⟨F,B,fs,ok,s.imp λ_ _ q _=>q⟩
theorem Pn(hc:X.calm=true)(dH:X.mg "list"=none)(h:FIt X Z av ty g)(hn:ty≠"list"/\ty≠"tuple":=by decide)(dE:Gl X "list":=by rfl)(he:Zs1 X.env av:=by rfl):
  FE X Z (.Call (.Name "list" p1) [av] [] bY) (lstI g):=let⟨_,h,k⟩:=h;Ax (Jd hc dH (h (.Name "" p1)) hn dE he) λ_ _ _ ⟨F,B,fs,ok,s⟩=>k _ _ _ ⟨F,B,fs,ok,Ar s λ_ _ _ _ _ _ ⟨au,jk⟩ s1 bd=>⟨bd,λ_ hS=>WC au hS jk s1⟩⟩
theorem Uq{a}{b}(hm:X.mg "zip"=none)(ha:FE X Z a fa)(hb:FE X Z b fb)(hg:Gl X "zip":=by rfl)
  (hs:Zs2 X.env a b:=by rfl) (aR:Zs1 X.env b:=by rfl):FIt X Z (.Call (.Name "zip" p2) [a,b] [] bb) "zip" (itZ fa fb):=by
 refine⟨_,λtg=>T7 hg hm (B5 ha (B5 hb FV aR) (hs.trans (congrArg (_::·) aR.symm))) hs aR,λU H Q aj=>?_⟩;obtain⟨F,B,fs,ok,s⟩:= aj;refine⟨F,B,fs,ok,As s λr ae F1 H1 u l1 au rx s1=>⟨F1,B,ae,au,As s1 λr' aq F2 H2 u' l2 aJ ry s2=>?_⟩⟩;split at s2
 .rename_i x y;split at s2
  next xs ys e1 e2=>obtain⟨b1,a1,vs,rfl,q1,h1⟩:=HA (Ay.le l2 rx) e1;obtain⟨b2,a2,ws,rfl,q2,h2⟩:=HA ry e2;exact⟨b1,a1,b2,a2,rfl,⟨vs,h1 F2 H2 λ_ f=>⟨f,rfl⟩⟩,⟨ws,h2 F2 H2 λ_ f=>⟨f,rfl⟩⟩,s2 F2 H2 _ Le.refl ⟨aJ,OL h1 h2 q1 q2⟩ P4⟩
  .exact s2.elim
 .exact s2.elim
def tyT:T->Option String
 |.l=>some "NoneType"
 |.v _=>some "bool"
 |.int _=>some "int"
 |.str _=>some "str"
 |.tup _=>some "tuple"
 |.lst _=>some "list"
 |.dT _ _=>some "dict"
 |_=>none
def Hv:List String:=["NoneType","bool","int","str","tuple","list","dict"]
def Vm(t T:String):Bool:=t==T||(t == "bool"&&T == "int")
def Kit(K:Fg)(T:String):Prop:=∀t,t∈Hv->kitOne K (.type t) (.type T)=some (Vm t T)
theorem YV{t:T}{n:String}(r:Ay K F H t u)(e:tyT t=some n):Md K H u (.type n)/\n∈Hv:=by
 cases t<;>cases e<;>try simp only[Ay]at r
 .subst r;exact⟨.l,by decide⟩
 .subst r;exact⟨.v _,by decide⟩
 .subst r;exact⟨.int _,by decide⟩
 .subst r;exact⟨.str _,by decide⟩
 .obtain⟨a,vs,rfl,hs,_⟩:=r;exact⟨.tup hs.2.2,by decide⟩
 .obtain⟨a,vs,rfl,f,hs,_⟩:=r;exact⟨.lst hs,by decide⟩
 .obtain⟨a,af,rfl,f,hs,_⟩:=r;exact⟨.dT hs,by decide⟩
def isF(T:String)(f:sT):sT:=λfs=>(f fs).bnd λr fs=>match r with
 |.t t=>match tyT t with|some n=>.ok (.t (.v (Vm n T))) fs|none=>.bad
 |_=>.bad
theorem Jv{a}{f}{x}{T:String}(k:Kit X.K T)(hb:bootBuiltins x=some (.type T))(hm:X.mg "isinstance"=none)(cy:X.mg x=none)(ha:FE X Z a f)(hg:Gl X "isinstance":=by rfl)(bT:Gl X x:=by rfl)
  (hn:x≠"__name__":=by decide) (aQ:Zdb x:=by decide)
  (hs:starEach [a,.Name x p2] X.env=(false,eval a X.env)::starEach [.Name x p2] X.env:=by rfl) (aR:starEach [.Name x p2] X.env=[(false,eval (.Name x p2) X.env)]:=by rfl) (aC:(backTo pos (starEach [.Name x p2] X.env)).any (·.1)=false:=by rfl) :
  FE X Z (.Call (.Name "isinstance" p) [a,.Name x p2] [] pos) (isF T f):=by
 refine Ax (Fl (KQ T) hg hm boot_isinstance (B5 ha (B5 (N8 (v:=.ty T) bT cy hb rfl hn aQ) FV aR) hs) (by decide) (by decide) hs aC) λU H Q aj=>?_
 obtain⟨F,B,fs,ok,s⟩:= aj;refine⟨F,B,fs,ok,As s λr ae F1 H1 u l1 au rx s1=>?_⟩;split at s1
 .rename_i t;split at s1
  next n e=>obtain⟨ty,mem⟩:=YV rx e;exact⟨u,_,_,rfl,ty,k n mem,s1 F1 H1 _ Le.refl (RR.of au rfl)⟩
  .exact s1.elim
 .exact s1.elim
theorem WI:Kit K "str":=λt h=>by simp only[Hv,oh,ph,or_false]at h;rcases h with rfl|rfl|rfl|rfl|rfl|rfl|rfl<;>rfl
theorem kit_tuple:Kit K "tuple":=λt h=>by simp only[Hv,oh,ph,or_false]at h;rcases h with rfl|rfl|rfl|rfl|rfl|rfl|rfl<;>rfl
def orM(g g':Rv->List Rv->sT):Rv->List Rv->sT:=λx rs fs=>match g x rs fs with|.bad=>g' x rs fs|o=>o
theorem MtF.or{r}(h:MtF K Z r g)(h':MtF K Z r' g'):MtF K Z (orMt r r') (orM g g'):=by intro F B H U fs x rs u vs Q ok rx q s;unfold orM at s;cases e:g x rs fs with|ok a t=>rw[e]at s;exact .inl (h F B H U fs x rs u vs Q ok rx q (by rw[e];exact s))|exc c t=>rw[e]at s;exact .inl (h F B H U fs x rs u vs Q ok rx q (by rw[e];exact s))|bad=>rw[e]at s;exact .inr (h' F B H U fs x rs u vs Q ok rx q s)
def Pa:Rv->List Rv->sT
 |.x i,[.t (.tup us)],fs=>match Aq fs i with|some (.lst ts)=>if ts.length+us.length<=big then .ok (.t .l) (putAt fs i (.lst (ts++us)))else .bad|_=>.bad
 |_,_,_=>.bad
theorem Wx:MtF K Z (QW K) Pa:=by
 intro F B H U fs x rs u vs Q ok rx q s;unfold Pa at s;split at s
 .rename_i i ws;obtain⟨v,rfl,qq⟩:=AO q;split at s
  .rename_i ts e;split at s
   next hl=>obtain⟨a,us,rfl,hs,r,k⟩:=ok.list rx e;obtain⟨b,zs,rfl,hb,rz⟩:=qq;obtain⟨bx,l⟩:=k _ _ (r.app rz);exact⟨a,b,us,zs,rfl,rfl,hs,hb.sq,by rw[r.len,rz.len];exact oB hl Dx,s F _ _ l (RR.of bx rfl)⟩
   .exact s.elim
  .exact s.elim
 .exact s.elim
def MS:=orM gExt Pa
theorem Ww:MtF K Z (orMt HB (QW K)) MS:=MtF.or Jar Wx
theorem Wt:MtR X "list.extend" (orMt HB (QW X.K)):=MtR.orR Oo Wu
def FF:T->Option (List T)
 |.tup ts=>some ts
 |_=>none
theorem QC(e:FF t=some ts):t=.tup ts:=by cases t<;>first|(cases e;rfl)|cases e
def IG(f:T->T->Option Bool):List T->List T->Option Bool
 |x::xs,y::ys=>(f x y).bind λb=>(IG f xs ys).map (b&&·)
 |_,_=>some true
def eqT:Nat->T->T->Option Bool
 |0,x,y=>(plV x).bind λu=>(plV y).map (eqV u)
 |n+1,x,y=>match FF x with
  |some xs=>match FF y with|some ys=>(IG (eqT n) xs ys).map (·&&xs.length==ys.length)|none=>(plV y).map λ_=>false
  |none=>match FF y with
   |some _=>(plV x).map λ_=>false
   |none=>(plV x).bind λu=>(plV y).map (eqV u)
def eAt(f:T->T->Option Bool)(xs ys:List T)(j:Nat):Bool:=(f (xs.getD j .l) (ys.getD j .l)).getD false
theorem CZ{f}:∀{xs ys:List T}{b:Bool},IG f xs ys=some b->b=(List.range (min xs.length ys.length)).all (eAt f xs ys)
 | [],_,_,e=>by cases e;simp
 |_::_,[],_,e=>by cases e;simp
 |x::xs,y::ys,b,e=>by
  simp only[IG,ot,nY]at e;obtain⟨c,e1,d,e2,rfl⟩:=e;rw[n8,n8,Nat.succ_min_succ,List.range_succ_eq_map,qD,List.all_map,(CZ e2)];have h0:eAt f (x::xs) (y::ys) 0=c:=by simp[eAt,e1]
  rw[h0];congr 1
theorem KH{f}:∀{xs ys:List T}{b:Bool},IG f xs ys=some b->∀(j:Nat)(x y:T),xs[j]?=some x->ys[j]?=some y->f x y=some (eAt f xs ys j)
 | [],_,_,e=>by intro j x y h;simp at h
 |_::_,[],_,e=>by intro j x y _ h;simp at h
 |x::xs,y::ys,b,e=>by simp only[IG,ot,nY]at e;obtain⟨c,e1,d,e2,rfl⟩:=e;intro j x' y' h1 h2;cases j with|zero =>simp only[qC,Option.some.injEq]at h1 h2;subst h1 h2;simp[eAt,e1]|succ j =>have:=KH e2 _ _ _ h1 h2;rw[this];simp[eAt]
theorem SA(h:E1 v=true):eqV v v=true:=by cases v<;>first|rfl|exact beq_self_eq_true _|cases h
theorem T6{x}(rx:Ay K F H x v)(ry:Ay K F H y v)(e:((plV x).bind λu=>(plV y).map (eqV u))=some b):b=true:=by simp only[ot,nY]at e;obtain⟨u,e1,w,e2,rfl⟩:=e;have h1:=BI e1 rx;have h2:=BI e2 ry;subst h1 h2;exact SA (Ce e1)
theorem Jb{x}(e:plV x=some u)(r:Ay K F H x v):v≠.ref a:=by have h1:=BI e r;subst h1;have:=Ce e;intro h;subst h;cases this
theorem Cw(e:FF t=some ts)(r:Ay K F H t v):∃a vs,v=.ref a/\StT K F H a vs/\Ah K F H ts vs:=by cases QC e;simpa only[Ay]using r
theorem LV:∀{n:Nat}{x y:T}{v:V}{b:Bool},eqT n x y=some b->Ay K F H x v->Ay K F H y v->b=true
 |0,x,y,v,b,e,rx,ry=>T6 rx ry e
 |n+1,x,y,v,b,e,rx,ry=>by
  unfold eqT at e;cases e1:FF x with
  |none =>rw[e1]at e;cases e2:FF y with|none=>rw[e2]at e;exact T6 rx ry e|some ys =>rw[e2]at e;obtain⟨a,vs,rfl,_⟩:=Cw e2 ry;obtain⟨u,e3,_⟩:=nY.mp e;exact absurd rfl (Jb e3 rx)
  |some xs =>
   rw[e1]at e;obtain⟨a,vs,rfl,sx,gz⟩:=Cw e1 rx;cases e2:FF y with
   |none =>rw[e2]at e;obtain⟨u,e3,_⟩:=nY.mp e;exact absurd rfl (Jb e3 ry)
   |some ys =>
    rw[e2]at e;obtain⟨a',bB,ea,sy,gA⟩:=Cw e2 ry;cases ea;have hv:vs=bB:=by have:=sx.2.2.symm.trans sy.2.2;injection this with this;injection this
    subst hv;obtain⟨c,e3,rfl⟩:=nY.mp e;have hl:xs.length=ys.length:=by rw[<- gz.len,<- gA.len]
    rw[oy];refine⟨?_,by simp[hl]⟩;rw[CZ e3,pj];intro j hj;rw[pw]at hj;have h1:j<xs.length:=by lia
    have h2:j<ys.length:=by lia
    have g1:=nO h1;have g2:=nO h2;obtain⟨v1,q1,r1⟩:=gz.at g1;obtain⟨v2,q2,r2⟩:=gA.at g2;have:=by rw[q1]at q2;injection q2
    subst this;exact LV (KH e3 _ _ _ g1 g2) r1 r2
variable{X:Cx}{aa:Zao}{s:Shared}
theorem LR{l}{u}(hl:s.heap.IsTuple l items)(hu:A.units<cLine)(ry:RelV y u)(fy:E1 y=true):
  SeqAt.EqAt A s (.ref l) u false/\SeqAt.EqAt A s u (.ref l) false/\SeqAt.RcAt A s (.ref l) u false/\SeqAt.RcAt A s u (.ref l) false:=by
 cases y with|l=>cases ry;exact⟨.tuple_none hl hu,.none_tuple hl hu,.tuple_none hl hu,.none_tuple hl hu⟩|v b=>cases ry;exact⟨.tuple_bool _ hl hu,.bool_tuple _ hl hu,.tuple_bool _ hl hu,.bool_tuple _ hl hu⟩|int b=>obtain⟨t,rfl⟩:=ry;exact⟨.tuple_int _ _ hl hu,.int_tuple _ _ hl hu,.tuple_int _ _ hl hu,.int_tuple _ _ hl hu⟩|str b=>obtain⟨t,rfl⟩:=ry;exact⟨.tuple_str _ _ hl hu,.str_tuple _ _ hl hu,.tuple_str _ _ hl hu,.str_tuple _ _ hl hu⟩|_=>cases fy
theorem Lp{u}{x}(rx:Ay X.K F H x v)(ry:Ay X.K F H y w)(qx:RelV v u)(qy:RelV w u')(e:((plV x).bind λu=>(plV y).map (eqV u))=some b):SeqAt.EqAt A s u u' b:=by simp only[ot,nY]at e;obtain⟨p,e1,q,e2,rfl⟩:=e;have h1:=BI e1 rx;have h2:=BI e2 ry;subst h1 h2;exact UL qx qy (Ce e1) (Ce e2)
theorem items_eqAt{f}(e:IG f xs ys=some b)(rx:Ah X.K F H xs vs)(ry:Ah X.K F H ys ws)(qx:Vals vs us)(qy:Vals ws us')
  (ih:∀{x y:T}{v w:V}{u u':Value}{b:Bool},f x y=some b->Ay X.K F H x v->Ay X.K F H y w->RelV v u->RelV w u'->SeqAt.EqAt A s u u' b) :
  ∀j (h1:j<us.toArray.size) (h2:j<us'.toArray.size),SeqAt.EqAt A s us.toArray[j] us'.toArray[j] (eAt f xs ys j):=by
 intro j h1 h2;have l1:=rx.len;have l2:=ry.len;have l3:=qx.length;have l4:=qy.length;rw[nV]at h1 h2;have g1:xs[j]?=some (xs[j]'(by lia)):=nO (by lia);have g2:ys[j]?=some (ys[j]'(by lia)):=nO (by lia);obtain⟨v,q1,r1⟩:=rx.at g1;obtain⟨w,q2,r2⟩:=ry.at g2;obtain⟨u,p1,o1⟩:=qx.get q1;obtain⟨u',p2,o2⟩:=qy.get q2;rw[nO h1]at p1;rw[nO h2]at p2;injection p1 with p1;injection p2 with p2;rw[show us.toArray[j]=us[j] by simp,show us'.toArray[j]=us'[j] by simp,p1,p2];exact ih (KH e _ _ _ g1 g2) r1 r2 o1 o2
theorem Hk(I:Inv X aa U H s):∀{n:Nat}{A:Around}{x y:T}{v w:V}{u u':Value}{b:Bool},A.units+n<cLine->eqT n x y=some b->Ay X.K F H x v->Ay X.K F H y w->RelV v u->RelV w u'->SeqAt.EqAt A s u u' b
 |0,A,x,y,v,w,u,u',b,hu,e,rx,ry,qx,qy=>Lp rx ry qx qy e
 |n+1,A,x,y,v,w,u,u',b,hu,e,rx,ry,qx,qy=>by
  have e0:=e;unfold eqT at e;cases e1:FF x with
  |none =>rw[e1]at e;cases e2:FF y with|none=>rw[e2]at e;exact Lp rx ry qx qy e|some ys =>rw[e2]at e;obtain⟨a,vs,rfl,st,_⟩:=Cw e2 ry;obtain⟨p,e3,rfl⟩:=nY.mp e;have h1:=BI e3 rx;subst h1;cases qy;obtain⟨its,_,ht,_⟩:=I.tuple st.sq;exact(LR ht (by lia) qx (Ce e3)).2.1
  |some xs =>
   rw[e1]at e;obtain⟨a,vs,rfl,sx,gz⟩:=Cw e1 rx;cases qx;obtain⟨its,vx,ht,_⟩:=I.tuple sx.sq;cases e2:FF y with
   |none =>rw[e2]at e;obtain⟨p,e3,rfl⟩:=nY.mp e;have h1:=BI e3 ry;subst h1;exact(LR ht (by lia) qy (Ce e3)).1
   |some ys =>
    rw[e2]at e;obtain⟨a',bB,rfl,sy,gA⟩:=Cw e2 ry;cases qy;obtain⟨aH,dh,cY,_⟩:=I.tuple sy.sq;by_cases fk:a=a'
    .subst fk;rw[LV e0 rx ry];exact SeqAt.EqAt.same _
    .obtain⟨c,e3,rfl⟩:=nY.mp e;have l1:its.length=xs.length:=by rw[<- vx.length,gz.len]
     have l2:aH.length=ys.length:=by rw[<- dh.length,gA.len]
     have:=SeqAt.RcAt.tuples ht cY (by lia) (items_eqAt e3 gz gA vx dh (λh r1 r2 o1 o2=>Hk I (A:=A.in1) (by show A.units+1+n<_;lia) h r1 r2 o1 o2));rw[nV,nV,l1,l2,<- CZ e3]at this;exact SeqAt.EqAt.of_refs fk this
def eqB(neg:Bool)(xs ys:List T)(fs:FS):Out Rv:=match IG (eqT 60) xs ys with|some b=>okT (.v (if neg then !(b&&xs.length==ys.length)else(b&&xs.length==ys.length))) fs|none=>.bad
def IF(neg:Bool):sS:=λx y fs=>match Ki x with
 |some xs=>match Ki y with|some ys=>eqB neg xs ys fs|none=>.bad
 |none=>match Bw fs x with
  |some xs=>match Bw fs y with|some ys=>eqB neg xs ys fs|none=>.bad
  |none=>.bad
def EqS(X:Cx)(neg:Bool)(H:Hp)(x y:V)(b:Bool):Prop:=∀(aa:Zao)(U:St)(s:Shared)(u w:Value),Inv X aa U H s->RelV x u->RelV y w ->
 if neg then SeqAt.RcNeAt X.A s u w (!b)else SeqAt.RcAt X.A s u w b
inductive rEqS(X:Cx)(neg:Bool)(x:V)(y:V)(H:Hp)(Q:VK):Prop
 |mk (b:_) (h0:EqS X neg H x y b) (h1:Q (.v (if neg then !b else b)) H)
theorem Oa:OpR X (compareOp .Eq) (rEqS X false):=by intro aa s U H x y v u Q I rx ry h;obtain⟨b,e,q⟩:=h;exact(e aa U s v u I rx ry) X.prog X.w X.xe _ ⟨.v b,H,I,rfl,q⟩
theorem Z8:OpR X (compareOp .NotEq) (rEqS X true):=by intro aa s U H x y v u Q I rx ry h;obtain⟨b,e,q⟩:=h;exact(e aa U s v u I rx ry) X.prog X.w X.xe _ ⟨.v (!b),H,I,rfl,q⟩
theorem XD(hu:X.A.units+61<cLine)(e:IG (eqT 60) xs ys=some b)(sx:SqT X.K H a vs)(sy:SqT X.K H a' ws)(rx:Ah X.K F H xs vs)(ry:Ah X.K F H ys ws):
  EqS X neg H (.ref a) (.ref a') (b&&xs.length==ys.length):=by
 intro aa U s u w I qx qy;cases qx;cases qy;obtain⟨its,vx,ht,_⟩:=I.tuple sx;obtain⟨aH,dh,cY,_⟩:=I.tuple sy;have l1:its.length=xs.length:=by rw[<- vx.length,rx.len]
 have l2:aH.length=ys.length:=by rw[<- dh.length,ry.len]
 have he:=items_eqAt e rx ry vx dh (λh r1 r2 o1 o2=>Hk I (A:=X.A.in1) (by show X.A.units+1+60<_;lia) h r1 r2 o1 o2);cases neg with|false =>have:=SeqAt.RcAt.tuples ht cY (by lia) he;rwa[nV,nV,l1,l2,<- CZ e]at this|true =>have:=SeqAt.RcNeAt.tuples ht cY (by lia) he;rwa[nV,nV,l1,l2,<- CZ e]at this
theorem XF(hu:X.A.units+61<cLine)(e:IG (eqT 60) xs ys=some b)(sx:SqL X.K H a vs)(sy:SqL X.K H a' ws)(rx:Ah X.K F H xs vs)(ry:Ah X.K F H ys ws):
  EqS X neg H (.ref a) (.ref a') (b&&xs.length==ys.length):=by
 intro aa U s u w I qx qy;cases qx;cases qy;obtain⟨its,vx,ht,_⟩:=I.list sx;obtain⟨aH,dh,cY,_⟩:=I.list sy;have l1:its.length=xs.length:=by rw[<- vx.length,rx.len]
 have l2:aH.length=ys.length:=by rw[<- dh.length,ry.len]
 have he:=items_eqAt e rx ry vx dh (λh r1 r2 o1 o2=>Hk I (A:=X.A.in1) (by show X.A.units+1+60<_;lia) h r1 r2 o1 o2);by_cases hl:xs.length=ys.length
 .have hs:its.toArray.size=aH.toArray.size:=by rw[nV,nV];lia
  have hb:(b&&xs.length==ys.length)=(List.range its.toArray.size).all (eAt (eqT 60) xs ys):=by rw[CZ e,hl,Nat.min_self,nV,l1,hl];simp
  rw[hb];cases neg with|false=>exact SeqAt.RcAt.lists ht.isList cY.isList hs (by lia) he|true=>exact SeqAt.RcNeAt.lists ht.isList cY.isList hs (by lia) he
 .have hs:(its.toArray.size !=aH.toArray.size)=true:=by rw[nV,nV,bne_iff_ne];lia
  have hb:(b&&xs.length==ys.length)=false:=by simp[hl]
  rw[hb];cases neg with|false=>exact SeqAt.RcAt.lists_lengths ht.isList cY.isList hs (by lia)|true=>exact SeqAt.RcNeAt.lists_lengths ht.isList cY.isList hs (by lia)
theorem Od(neg:Bool)(hu:X.A.units+61<cLine):OpF X.K Z (rEqS X neg) (IF neg):=by
 intro F B H U fs x y u w Q ok rx ry s;unfold IF at s;cases e1:Ki x with
 |some xs =>rw[e1]at s;cases e2:Ki y with|none=>rw[e2]at s;exact s.elim|some ys =>rw[e2]at s;obtain⟨a,vs,rfl,sx,r1⟩:=Bs rx e1;obtain⟨a',ws,rfl,sy,r2⟩:=Bs ry e2;simp only[eqB]at s;cases e3:IG (eqT 60) xs ys with|none=>rw[e3]at s;exact s.elim|some b =>rw[e3]at s;exact⟨_,XD hu e3 sx sy r1 r2,s F H _ Le.refl (RR.of ok rfl)⟩
 |none =>rw[e1]at s;cases e2:Bw fs x with|none=>rw[e2]at s;exact s.elim|some xs =>rw[e2]at s;cases e3:Bw fs y with|none=>rw[e3]at s;exact s.elim|some ys =>rw[e3]at s;obtain⟨a,vs,rfl,sx,r1⟩:=AN ok rx e2;obtain⟨a',ws,rfl,sy,r2⟩:=AN ok ry e3;simp only[eqB]at s;cases e4:IG (eqT 60) xs ys with|none=>rw[e4]at s;exact s.elim|some b =>rw[e4]at s;exact⟨_,XF hu e4 sx sy r1 r2,s F H _ Le.refl (RR.of ok rfl)⟩
def Jp(fs:FS):Rv->Option Bool
 |.t t=>some (match t with|.l=>true|_=>false)
 |.x i=>match Aq fs i with|some (.n _ _)=>some false|some (.lst _)=>some false|_=>none
 |.nw _=>none
def LO(neg:Bool):sS:=λx y fs=>match y with
 |.t .l=>match Jp fs x with|some b=>okT (.v (if neg then !b else b)) fs|none=>.bad
 |_=>.bad
theorem LG{x:Rv}(ok:Okk K F B H fs U)(rx:Cv K F H U x u)(e:Jp fs x=some b):decide (u=V.l)=b:=by
 cases x with
 |t t =>have rx:Ay K F H t u:=rx;cases t with|l=>cases e;cases rx;rfl|v=>cases e;cases rx;rfl|int=>cases e;cases rx;rfl|str=>cases e;cases rx;rfl|ins=>cases e;simp only[Ay]at rx;obtain⟨a,dx,vs,rfl,_⟩:=rx;rfl|_=>cases e;simp only[Ay]at rx;obtain⟨a,vs,rfl,_⟩:=rx;rfl
 |nw o=>cases e
 |x i =>
  simp only[Jp]at e;split at e
  next eo=>cases e;obtain⟨a,_,rfl,_⟩:=(ok.at rx eo).vals rfl;rfl
  next eo=>cases e;obtain⟨a,_,rfl,_⟩:=(ok.at rx eo).vals rfl;rfl
  .cases e
meta theorem Ug:OpF K Z (λx y H Q=>y=.l/\Q (.v (decide (x=.l))) H) (LO false):=by
 intro F B H U fs x y u w Q ok rx ry s;unfold LO at s;split at s
 .split at s
  next b e=>refine⟨ry,?_⟩;rw[(LG ok rx e)];exact s F H _ Le.refl (RR.of ok rfl)
  .exact s.elim
 .exact s.elim
theorem JbF{a}{b}(ha:FE X Z a fa)(hb:FE X Z b fb):FE X Z (.Compare a [.Is] [b] pos) (Ag (LO false) fa fb):=Jw Ug Ud ha hb (Cz _)
theorem Jbh{a}{b}(ha:FE X Z a fa)(hb:FE X Z b fb):FT X Z (.Compare a [.Is] [b] pos) (asB (Ag (LO false) fa fb)):=C6 Ug Ud ha hb (Cz _)
def itD(f:sT):sX:=λfs=>(f fs).bnd λr fs=>match r with
 |.x i=>match fs[i]? with|some (some (.own (.n ks ts)))=>.ok (ks.map J0) (fs.set i (some (.val (.n ks ts))))|_=>.bad
 |.t (.dF ks ts)=>.ok (ks.map J0) fs
 |_=>.bad
theorem Okk.frzD{ks:List Key}{ts:List T}(h:Okk K F B H fs U)(e:U[i]?=some (some u))(es:fs[i]?=some (some (.own (.n ks ts)))):
  ∃a af F',u=.ref a/\H a=some (.n af)/\af.map (·.1)=ks/\F' a/\∀o,Le F H F' (L2.upd H a (.frz o (.n af)))/\Ah K F' (L2.upd H a (.frz o (.n af))) ts (af.map (·.2))/\∀t,Ay K F' (L2.upd H a (.frz o (.n af))) t (.ref a)->Okk K F' B (L2.upd H a (.frz o (.n af))) (fs.set i (some (.val t))) U:=by
 obtain⟨v,e1,r⟩:=h.sl _ _ es;rw[e]at e1;cases (e1);obtain⟨a,_,rfl,f,⟨af,hd,hk,rfl⟩,q⟩:=A6.vals r rfl;refine⟨a,af,F.tag a .fz,rfl,hd,hk,A3,λob=>?_⟩;have ne:∀{b x},F.o b=x->x≠.q true i []->(F.tag a .fz).o b=x/\L2.upd H a (.frz ob (.n af)) b=H b:=λ{b x} z n=>have q:b≠a:=λe=>n (by rw[<- z,e,f]);⟨(Bo q).trans z,Al q⟩
 have l:Le F H (F.tag a .fz) (L2.upd H a (.frz ob (.n af))):=⟨λb z=>ne z nofun,λb z=>ne z nofun⟩
 refine⟨l,q.le l,λt rt=>?_⟩;have:=h.set (i:=i) (x:=some (.val t)) (y:=some (.ref a)) l.f (λb j ρ hj z=>ne z λq=>hj (by cases (q);rfl)) (λb z=>(Bo (Bp z).1).trans (h.td b (Bp z).2)) λs e=>by cases (e);exact⟨_,rfl,rt⟩
 rwa[Hy e]at this
theorem LD{o}(f:F a)(e:H a=some (.frz o (.n af))):JOk K F H (Itd a o af) ((af.map (·.1)).map J0):=by
 intro F' H' l _ i;have e':=(l a f).2.trans e;refine⟨λt et=>?_,λhl=>⟨e',by simpa using hl⟩⟩;have hi:=by have:=(n6.mp et).1;simpa using this
 refine⟨⟨e',hi⟩,λx cG hy=>stays hy.1 ?_⟩;obtain⟨k,ek,rfl⟩:=hy.2;rw[ou,ek]at et;cases et;cases k<;>rfl
meta theorem Xi{f}{l}(hl:FE X Z l f):FI X Z tg l (itD f):=by
 refine G8 (Q8 hl) λU H Q aj => ?_
 obtain⟨F,B,fs,ok,s⟩:= aj;refine⟨F,B,fs,ok,As s λr ae F1 H1 u l au rx s1=>?_⟩;split at s1
 .split at s1
  next ks ts es=>obtain⟨a,af,F',rfl,hd,rfl,ff,k⟩:=au.frzD rx es;refine⟨a,af,rfl,.inl ⟨hd,λo=>?_⟩⟩;obtain⟨l2,r2,aJ⟩:=k o;exact s1 _ _ (Itd a o af) l2 ⟨aJ _ (by simp only[Ay];exact⟨a,af,rfl,ff,.inr ⟨o,An⟩,rfl,r2⟩),LD ff An⟩
  .exact s1.elim
 .simp only[Cv,Ay]at rx;obtain⟨a,af,rfl,f,⟨o,hd⟩,rfl,r⟩:=rx;exact⟨a,af,rfl,.inr ⟨o,hd,s1 _ _ (Itd a o af) Le.refl ⟨au,LD f hd⟩⟩⟩
 .exact s1.elim
def GP(fs:FS):Rv->Option (List Key×List T)
 |.t (.n ks ts)=>some (ks,ts)
 |.t (.dF ks ts)=>some (ks,ts)
 |.x i=>match Aq fs i with|some (.n ks ts)=>some (ks,ts)|_=>none
 |_=>none
meta theorem Fq{x:Rv}(h:Okk K F B H fs U)(rx:Cv K F H U x u)(e:GP fs x=some (ks,ts)):
  ∃a af,u=.ref a/\Rd H a (.n af)/\af.map (·.1)=ks/\Ah K F H ts (af.map (·.2)):=by
 unfold GP at e;split at e
 .cases e;simp only[Cv,Ay]at rx;obtain⟨a,af,rfl,f,hd,rfl,r⟩:=rx;exact⟨a,af,rfl,hd,rfl,r⟩
 .cases e;simp only[Cv,Ay]at rx;obtain⟨a,af,rfl,f,⟨ob,hd⟩,rfl,r⟩:=rx;exact⟨a,af,rfl,.inr ⟨ob,hd⟩,rfl,r⟩
 .rename_i i;split at e
  next eo=>cases e;obtain⟨a,_,rfl,_,⟨af,hd,rfl,rfl⟩,r⟩:=(h.at rx eo).vals rfl;exact⟨a,af,rfl,.inl hd,rfl,r⟩
  .cases e
 .cases e
def eqD(eC:List Key)(bI:List T):List Key->List T->Option Bool
 |k::ks,t::ts=>match By eC bI k with|none=>some false|some t'=>(eqT 60 t t').bind λb=>(eqD eC bI ks ts).map (b&&·)
 |_,_=>some true
def Jbb(neg:Bool):sS:=λx y fs=>match GP fs x with
 |some (ks,ts)=>match GP fs y with
  |some (eC,bI)=>match eqD eC bI ks ts with|some r=>okT (.v (if neg then !(ks.length==eC.length&&r)else(ks.length==eC.length&&r))) fs|none=>.bad
  |none=>.bad
 |none=>.bad
theorem WR{A:Around}(I:Inv X aa U H s)(hu:A.units+60<cLine){cD:List (Key×V)}{bB:List (Key×Value)}{bI:List T}(dN:KV cD bB)(fF:Ah X.K F H bI (cD.map (·.2))):
  ∀{af:List (Key×V)}{vs:List (Key×Value)}{ts:List T}{r:Bool},KV af vs->Ah X.K F H ts (af.map (·.2))->eqD (cD.map (·.1)) bI (af.map (·.1)) ts=some r->PySem.W.KeqHits A s bB vs r:=by
 intro af vs ts r aB
 induction aB generalizing ts r with
 |nil=>intro rt e;have:=rt.len;cases ts with|nil=>cases e;exact .nil|cons=>cases this
 |@cons kv kv' af vs h tl ih =>
  obtain⟨k,v⟩:=kv;obtain⟨k',u⟩:=kv';obtain⟨h1,h2⟩:=h;have h1:k=k':=h1;have h2:RelV v u:=h2;subst h1;intro rt e;cases ts with
  |nil=>have:=rt.len;cases this
  |cons t ts =>
   simp only[nQ,Ah]at rt;obtain⟨v0,r0,e0,mF,mG⟩:=rt;cases e0;simp only[nQ,eqD]at e;have q:=dN.val k;rcases E6 (j:=k) fF with⟨g1,g2⟩|⟨t',v',g1,g2,g3⟩
   .rw[g1]at e;cases e;rw[g2]at q;refine .miss ?_;cases hx:valueAt bB k with|none=>rfl|some x=>rw[hx]at q;exact q.elim
   .rw[g1]at e;simp only[ot,nY]at e;obtain⟨b,e1,r',e2,rfl⟩:=e;rw[g2]at q;cases hx:valueAt bB k with|none=>rw[hx]at q;exact q.elim|some y =>rw[hx]at q;exact .hit hx (Hk I hu e1 mF g3 h2 q) (ih mG e2)
def EqO(X:Cx)(neg:Bool)(H:Hp)(x y:V)(b:Bool):Prop:=∀(aa:Zao)(U:St)(s:Shared)(u w:Value)(Q:Zcv)(E:Zcv),Inv X aa U H s->RelV x u->RelV y w->Q (.bool b) s ->
 wpAny (model X.prog X.w) X.A (compareOp (if neg then .NotEq else .Eq) u w) Q E s
inductive rEqO(X:Cx)(neg:Bool)(x:V)(y:V)(H:Hp)(Q:VK):Prop
 |mk (b:_) (h0:EqO X neg H x y b) (h1:Q (.v b) H)
theorem Jaa:OpR X (compareOp .Eq) (rEqO X false):=by intro aa s U H x y v u Q I rx ry h;obtain⟨b,e,q⟩:=h;exact e aa U s v u _ _ I rx ry ⟨.v b,H,I,rfl,q⟩
theorem Jah(neg:Bool)(hu:X.A.units+61<cLine):OpF X.K Z (rEqO X neg) (Jbb neg):=by intro F B H U fs x y u w Q ok rx ry s;unfold Jbb at s;cases e1:GP fs x with|none=>rw[e1]at s;exact s.elim|some p =>obtain⟨ks,ts⟩:=p;rw[e1]at s;cases e2:GP fs y with|none=>rw[e2]at s;exact s.elim|some p =>obtain⟨eC,bI⟩:=p;rw[e2]at s;dsimp only at s;cases e3:eqD eC bI ks ts with|none=>rw[e3]at s;exact s.elim|some r =>rw[e3]at s;obtain⟨a,af,rfl,hd,rfl,rt⟩:=Fq ok rx e1;obtain⟨a',cD,rfl,ba,rfl,fF⟩:=Fq ok ry e2;refine⟨_,?_,s F H _ Le.refl (RR.of ok rfl)⟩;intro aa ax sh u w Q' E' I qx qy q;cases qx;cases qy;obtain⟨z,hS,vs,aB,dd⟩:=E2 I.z9 hd;obtain⟨z',jv,bB,dN,dw⟩:=E2 I.z9 ba;rw[nX,nX,(Paired.length aB),(Paired.length dN)]at q;have hits:=WR (A:=X.A.in1) I (by show X.A.units+1+60<_;lia) dN fF aB rt e3;cases neg with|false=>exact PySem.W.keq_eq hS jv dd dw (by lia) (λ_=>hits) q|true=>exact PySem.W.keq_ne hS jv dd dw (by lia) (λ_=>hits) q
def Jba(neg:Bool):=orG (gEq neg) (orG (IF neg) (Jbb neg))
theorem JbM{a}{b}(hu:X.A.units+61<cLine)(ha:FE X Z a fa)(hb:FE X Z b fb):FE X Z (.Compare a [.Eq] [b] pos) (Ag (Jba false) fa fb):=Jw (OpF.or of_eq (OpF.or (Od false hu) (Jah false hu))) (OpR.orR V9 (OpR.orR Oa Jaa)) ha hb (Cz _)
theorem JaX(hr:C8 k A):A.units+61<cLine:=by have:=hr.units;lia
def Hi:List Rv->sT
 | [x],fs=>match GP fs x with|some p=>.ok (.nw (.n p.1 p.2)) fs|none=>.bad
 |_,_=>.bad
meta theorem SU:B1 K Z (λxs H Q=>∃a af,xs=[.ref a]/\Rd H a (.n af)/\∀l,H l=none->Q (.ref l) (upd H l (.n af))) Hi:=by
 intro F B H U fs rs vs Q ok q s;unfold Hi at s;split at s
 .obtain⟨v,rfl,qq⟩:=AO q;split at s
  next p e=>obtain⟨a,af,rfl,hd,ek,r⟩:=Fq ok qq e;exact⟨a,af,rfl,hd,λl hl=>CN ok hl s rfl ⟨af,rfl,ek,rfl⟩ r⟩
  .exact s.elim
 .exact s.elim
theorem Su{a}(hm:X.mg "dict"=none)(ha:FA X Z [a] fa)(hg:Gl X "dict":=by rfl)(he:Zs1 X.env a:=by rfl):FE X Z (.Call (.Name "dict" p) [a] [] pos) (Ad Hi fa) :=
 Ek SU M3 hm boot_dict ha (hg:=hg) (he:=he)
def fzD(f:sT):sT:=λfs=>(f fs).bnd λr fs=>match r with
 |.x i=>match fs[i]? with|some (some (.own (.n ks ts)))=>.ok (.t (.dF ks ts)) (fs.set i (some (.val (.dF ks ts))))|_=>.bad
 |_=>.bad
meta theorem JbJ{f}(h:FE X Z e f):FE X Z e (fzD f):=by
 refine Ax (Z1 h) λU H Q aj => ?_
 obtain⟨F,B,fs,ok,s⟩:= aj;refine⟨F,B,fs,ok,As s λr ae F1 H1 u l au rx s1=>?_⟩;split at s1
 .rename_i i;split at s1
  .rename_i ks ts es;obtain⟨a,af,F',rfl,hd,rfl,ff,k⟩:=au.frzD rx es;refine⟨a,af,rfl,hd,λo=>?_⟩;obtain⟨l2,r2,aJ⟩:=k o;have r3:Ay X.K F' (upd H1 a (.frz o (.n af))) (.dF (af.map (·.1)) ts) (.ref a):=by simp only[Ay];exact⟨a,af,rfl,ff,⟨o,An⟩,rfl,r2⟩
   exact s1 _ _ (.ref a) l2 ⟨aJ _ r3,r3⟩
  .exact s1.elim
 .exact s1.elim
def Lks(X:Cx)(Z:Xp):Prop:=Lk X (EZ X.K Z)
theorem Lks.no:Lks X Xp.no:=λ_ _ _ _ _ _ _ ⟨_,_,_,_,_,_,_,_,_,_,_,⟨_,_,_,_,_,_,_,_,z⟩⟩=>z.elim
structure LkD(X:Cx)(Z:Xp):Prop where
 d:Ql X
 k:∀e s,XW X (EZ X.K Z) e s->X.xe e s
 own:PassesOwn (model X.prog X.w) X.A X.env X.xe
theorem LkD.lk(l:LkD X Z):Lks X Z:=Lk.of l.d.ex l.k
def Zd(K:Fg)(E:XK):Xp:=⟨λF B H c fs=>∀C,Cs K c=some C->∀F' H' ax,Le F H F' H'->Okk K F' B H' fs ax->E (.ref C) none H',λh l C hC F' H' ax l' k=>h C hC F' H' ax (l.trans l') k⟩
def GS0(X:Cx)(Z:Xp)(st:Stmt)(g:FS->SO):Prop:=PS0 X st (tSt X.K Z g)
def GSs0(X:Cx)(Z:Xp)(i7:List Stmt)(g:FS->SO):Prop:=Tf X i7 (tSt X.K Z g)
variable{Z:Xp}{st:Stmt}{rest:List Stmt}{g h:FS->SO}
theorem GS.zero(q:GS X Z st g):GS0 X Z st g:=PS.zero q
theorem GSs.zero(q:GSs X Z rest g):GSs0 X Z rest g:=PSs.zero q
theorem Gh(h1:GS0 X Z st g)(h2:GSs0 X Z rest h):GSs0 X Z (st::rest) (Aj g h):=by
 intro s0 U H D I q;refine NU h1 h2 s0 U H D I ?_;obtain⟨F,B,fs,ok,s⟩:=q;refine⟨F,B,fs,ok,?_⟩;unfold Aj at s;cases e:g fs with
 |nx ae =>rw[e]at s;exact λF1 H1 cF l k=>⟨F1,B,ae,k,Fe.le s l⟩
 |ret r ae=>rwa[e]at s
 |brk ae=>rwa[e]at s
 |cnt ae=>rwa[e]at s
 |exc c ae=>rwa[e]at s
 |bad=>rwa[e]at s
meta theorem UB{f}{x}(Fu:Fun K x qual st f fd)(S:IE N ps (Bk st))(p n:Nat)(hp:ps.length=p)(hn:N.length=p+n)
  (hb:∀cdv (A:Around) outer (s:Shared) H E E' (Z:Xp),C8 k (A.deeper (envOfC qual (Bk st) s.heap.objs.size f cdv))->LkD ((M0 (CX1 P w) P w K mg base N qual (Bk st) f cdv A outer s H E).Fz E') Z ->
   GSs0 ((M0 (CX1 P w) P w K mg base N qual (Bk st) f cdv A outer s H E).Fz E') Z (D7 st) g):EY P w K mg base (CX1 P w) (k+1) f fd ps (spX K p (AX n g)):=by
 refine Fu.ok0 S (λvs H Q E h=>by rw[h.1,hp]) (λcdv A outer s H vs Q E hr h=>⟨_,hb cdv A outer s H E _ (Zd K E) hr ⟨⟨rfl,rfl,rfl,rfl⟩,λe s q=>?_,XW.own Jb3⟩,?_⟩)
 .refine XW.imp (XW.Fz q) λc U H z=>?_
  obtain⟨F,B,fs,c,C,hC,rfl,ok,z⟩:=z;exact z C hC F H U Le.refl ok
 obtain⟨hl,F,cM,ok,h⟩:=h;have es:L2.start N vs=vs.map some++List.replicate n none:=by unfold L2.start;rw[hl,hn,Nat.add_sub_cancel_left]
 rw[es];refine⟨F,Bof (vs.map some),cM++List.replicate n none,ok.more n,?_⟩;unfold AX at h;cases e:g (cM++List.replicate n none)with
 |nx τ =>rw[e]at h;intro F' H' ax l k;exact h F' H' .l (ax.take cM.length) l (RR.take (RR.of (r:=.t .l) k rfl) _ nofun)
 |ret r τ =>
  rw[e]at h;intro F' H' ax u l k;cases r with
  |t t=>exact h F' H' u (ax.take cM.length) l (RR.take k _ nofun)
  |nw o=>exact h F' H' u (ax.take cM.length) l (RR.take k _ nofun)
  |x i =>
   dsimp only at h;split at h
   .rename_i r' gZ e2;split at e2
    next o eo=>cases e2;exact h _ H' u (ax.take cM.length) (l.trans Le.re) (RR.take (RR.mv k eo) _ nofun)
    .cases e2
   .rename_i c gZ e2;split at e2
    .cases e2
    .cases e2
   .exact h.elim
 |brk τ=>rw[e]at h;exact h.elim
 |cnt τ=>rw[e]at h;exact h.elim
 |exc c τ =>rw[e]at h;intro C hC F' H' ax l k;exact h C hC F' H' (ax.take cM.length) l (RR.take (RR.of (r:=.t .l) k rfl) _ nofun).ok
 |bad=>rwa[e]at h
variable{k p:Nat}
theorem JbK{x}(G:FnAt X.prog X.w X.K X.mg X.base (CX1 X.prog X.w) x k ps (spX X.K p Fn))(hr:C8 k X.A)(lk:Lks X Z)(ha:FAn X Z (e::es) fa)(hg:Gl X x:=by rfl)(aQ:Zdb x:=by decide)
  (he:Zsc X.env e es:=by rfl) (aC:Zbt X.env pos es:=by rfl):FE X Z (.Call (.Name x pp) (e::es) [] pos) (Ad (Ae p Fn) fa):=by
 refine Ax (Z2 G hr lk ha hg aQ he aC) λU H Q aj => ?_
 obtain⟨F,B,fs,ok,s⟩:= aj;refine⟨F,B,fs,ok,Ar s λrs ae F1 H1 us l q s1=>?_⟩;unfold Ae at s1;split at s1
 next hp=>rw[<- hp];exact Gw q s1
 .exact s1.elim
structure ExT1(K:Fg)(mg:Zsv)(x:Str):Prop where
 ex:∃C,nsIn K mainGlobals x=some (some (.ref C))/\Cs K x=some C/\excIn K C Ys "ValueError.__new__"=true
def B4(c:Str)(fa:sU):FS->SO:=λfs=>SO.of (fa fs) λrs fs=>if rs.length<=1000 then .exc c fs else .bad
theorem RU{x}(c:ExT1 X.K X.mg x)(l:LkD X Z)(hc:X.calm=true)(ha:FA X Z (e::es) fa)(hg:Gl X x:=by rfl)(aQ:Zdb x:=by decide)
  (he:Zsc X.env e es:=by rfl) (aC:Zbt X.env ay es:=by rfl) :
  GS X Z (.Raise (some (.Call (.Name x np) (e::es) [] ay)) none pos) (B4 x fa):=by
 obtain⟨C,h1,h2,h3⟩:=c.ex;refine BV (Q0 ⟨h1,h3⟩ l.d.ex hc l.k ha hg aQ he aC) λD U H aj => ?_
 obtain⟨F,B,fs,ok,s⟩:= aj;refine⟨F,B,fs,ok,BS s λrs ae F1 H1 us l q s1=>?_⟩;split at s1
 next hl=>exact⟨by rw[q.2.len];exact hl,F1,B,ae,x,C,h2,rfl,q.1,s1⟩
 .exact s1.elim
def YW(i:Nat)(dr:Str->Bool)(h:FS->SO)(c:Str)(fs:FS):SO:=if dr c=true then(match GH i (.t (.ze c)) fs with|some fs=>(match h fs with|.nx fs=>(match fs[i]? with|some (some (.val _))=>.nx (fs.set i none)|_=>.bad)|.ret (.t t) fs=>.ret (.t t) fs|_=>.bad)|none=>.bad)else .bad
def TH(i:Nat)(dr:Str->Bool)(g h:FS->SO):FS->SO:=λfs=>match g fs with|.exc c fs=>YW i dr h c fs|o=>o
theorem Okk.forget(h:Okk K F B H fs U):Okk K F B H (fs.set i none) (U.set i none):=h.set Le.refl.f (λ_ _ _ _ z=>⟨z,rfl⟩) h.td nofun
def Ztry(K:Fg)(Z:Xp)(i:Nat)(dr:Str->Bool)(h:FS->SO)(D:Ends):Xp:=⟨λF B H c fs=>Fe K Z B F H (YW i dr h c fs) D,λq l=>Fe.le q l⟩
meta theorem W3{x}{i:Nat}(dr:Str->Bool)(i:Nat)(l:LkD X Z)(hC:X.mg x=some (.ref C))(hN:X.N.Nodup)(hk:∀c C',dr c=true->Cs X.K c=some C'->exmOne X.K (.ref C') (.ref C)=some true)
  (hb:∀E' Z',LkD (X.Fz E') Z'->GSs (X.Fz E') Z' body g) (hs:∀a,GSs (X.hand a) Xp.no (ck::bA) h) (hi:X.N[i]?=some n:=by rfl) (hl:X.env.scope.names.lookup n=some .local:=by rfl) (hg:Gl X x:=by rfl) (aQ:Zdb x:=by decide) :
  GS0 X Z (.Try body [.ExceptHandler (some (.Name x np)) (some n) (ck::bA) cz] [] [] pos) (TH i dr g h):=by
 have key:=VJ (np:=np) (pos:=pos) (cz:=cz) (body:=body) (th:=tSt X.K Xp.no h) (tb:=λD=>tSt X.K (Ztry X.K Z i dr h D) g) l.d hC hN (λD=>?_) hs hi hl hg aQ
 .intro s0 U H D I q;refine key s0 U H D I ?_;obtain⟨F,B,fs,ok,s⟩:=q;refine⟨F,B,fs,ok,?_⟩;unfold TH at s;cases e:g fs with|nx ae=>rw[e]at s;exact s|ret r ae=>rw[e]at s;exact s|brk ae=>rw[e]at s;exact s|cnt ae=>rw[e]at s;exact s|exc c ae=>rw[e]at s;exact s|bad=>rw[e]at s;exact s
 .refine hb _ _ ⟨⟨l.d.pn,l.d.ex,l.d.st,l.d.fr⟩,λe s q=>XW.imp (XW.Fz q) λcv U H z=>?_,XW.own l.d⟩;obtain⟨F,B,fs,c,C',jt,rfl,ok,z⟩:=z;have z:Fe X.K Z B F H (YW i dr h c fs) D:=z;unfold YW at z;split at z
  .rename_i gL;refine⟨hk c C' gL jt,λa ha=>?_⟩;split at z
   .rename_i aq e2;obtain⟨F2,l2,aJ⟩:=Kh (RR.of (ok.alloc ha) (by exact⟨a,C',rfl,A3,An,jt⟩)) e2;have eE:=(ok.DQ ha).trans l2;refine⟨F2,B,aq,aJ,?_⟩;cases eh:h aq with
    |nx cn =>
     rw[eh]at z;dsimp only at z;split at z
     next t et=>exact λF' H' ax l k=>z F' H' _ (eE.trans l) k.forget
     .exact z.elim
    |ret r cn =>rw[eh]at z;cases r with|t t =>intro F' H' ax u l k;exact z F' H' ax u (eE.trans l) k|nw o=>exact z.elim|x j=>exact z.elim
    |brk cn=>rw[eh]at z;exact z.elim
    |cnt cn=>rw[eh]at z;exact z.elim
    |exc c cn=>rwa[eh]at z
    |bad=>rwa[eh]at z
   .exact z.elim
  .exact z.elim
def Xy(K:Fg)(ds:List Str)(tab:Str->Str->Bool)(c:Str):Bool:=match Cs K c with
 |some C=>excIn K C Ys "ValueError.__new__"&&(findIn K (.ref C) "__getattribute__"==some (some (.builtin "BaseException.__getattribute__")))&&(findIn K (.ref C) "__getattr__"==some none) &&
  (findIn K (.ref C) "__class__"==some (some (.builtin "object.__class__")))&&(specialIn K (.builtin "object.__class__") "__get__"==some (some (.builtin "getset_descriptor.__get__")))&&(takesIn K (.builtin "object.__class__")==some true) &&
  (mroIn K C (.type "object")==some true)&&(mroIn K C (.type "BaseException")==some true)&&(clsIn K C).isSome&&(kitOne K (.ref C) (.type "ValueError")==some true) &&
  ds.all λd=>match Cs K d with|some D=>(kitOne K (.ref C) (.ref D)==some (tab c d))&&(!tab c d||exmOne K (.ref C) (.ref D)==some true)|none=>false
 |none=>false
def JbX(K:Fg)(rs ds:List Str)(tab:Str->Str->Bool):Bool:=rs.all (Xy K ds tab)&&ds.all λd=>(Cs K d).isSome
structure JZ(K:Fg)(mg:Zsv)(rs ds:List Str)(tab:Str->Str->Bool):Prop where
 k:∀c∈rs,∀C,Cs K c=some C->PySem.W.ExK K C/\(clsIn K C).isSome=true
 own:∀c∈rs,∀d∈ds,∀C D,Cs K c=some C->Cs K d=some D->kitOne K (.ref C) (.ref D)=some (tab c d)/\(tab c d=true->exmOne K (.ref C) (.ref D)=some true)
 ve:∀c∈rs,∀C,Cs K c=some C->kitOne K (.ref C) (.type "ValueError")=some true
 at_:∀c∈rs,∃C,nsIn K mainGlobals c=some (some (.ref C))/\Cs K c=some C/\excIn K C Ys "ValueError.__new__"=true
 yq:∀d∈ds,∃D,mg d=some (.ref D)/\Cs K d=some D
theorem UP{c:Str}(e:Cs K c=some C):nsIn K mainGlobals c=some (some (.ref C)):=by
 unfold Cs at e;split at e
 next D q=>cases e;exact q
 .cases e
meta theorem Jb5{h:Heap}{mg:Zsv}{c:Str}(X:K.In h)(G:h.Ns mainGlobals mg)(e:Cs K c=some C):mg c=some (.ref C):=mg_of X G (UP e)
theorem JZ.of{h:Heap}{mg:Zsv}{rs ds:List Str}{tab:Str->Str->Bool}(X:K.In h)(G:h.Ns mainGlobals mg)(e:JbX K rs ds tab=true):JZ K mg rs ds tab:=by
 unfold JbX at e;rw[oy]at e;obtain⟨e1,e2⟩:=e;have one:∀c∈rs,∀C,Cs K c=some C->excIn K C Ys "ValueError.__new__"=true/\PySem.W.ExK K C/\(clsIn K C).isSome=true/\kitOne K (.ref C) (.type "ValueError")=some true /\
   ∀d∈ds,∀D,Cs K d=some D->kitOne K (.ref C) (.ref D)=some (tab c d)/\(tab c d=true->exmOne K (.ref C) (.ref D)=some true):=λc hc C hC=>by
  have q:=pj.mp e1 c hc;unfold Xy at q;rw[hC]at q;simp only[oy,beq_iff_eq]at q;obtain⟨⟨⟨⟨⟨⟨⟨⟨⟨⟨q1,q2⟩,q3⟩,q4⟩,q5⟩,q6⟩,q7⟩,q8⟩,q9⟩,mC⟩,mD⟩:=q;refine⟨q1,⟨q2,q3,q4,q5,q6,q7,q8⟩,q9,mC,λd hd D hD=>?_⟩;have z:=pj.mp mD d hd;rw[hD]at z;simp only[oy,beq_iff_eq]at z;refine⟨z.1,λht=>?_⟩;have z2:=z.2;rw[ht]at z2;simpa using z2
 refine⟨λc hc C hC=>⟨(one c hc C hC).2.1,(one c hc C hC).2.2.1⟩,λc hc d hd C D hC hD=>(one c hc C hC).2.2.2.2 d hd D hD,λc hc C hC=>(one c hc C hC).2.2.2.1,λc hc=>?_,λd hd=>?_⟩
 .have q:=pj.mp e1 c hc;unfold Xy at q;cases hC:Cs K c with|none=>rw[hC]at q;cases q|some C=>exact⟨C,UP hC,rfl,(one c hc C hC).1⟩
 .obtain⟨D,hD⟩:=pK.mp (pj.mp e2 d hd);exact⟨D,Jb5 X G hD,hD⟩
theorem JZ.t1(t:JZ K mg rs ds tab)(h:c∈rs):ExT1 K mg c:=⟨t.at_ c h⟩
def isX(cs:List Str)(tab:Str->Str->Bool)(d:Str)(f:sT):sT:=λfs=>(f fs).bnd λr fs=>match r with|.t (.ze c)=>if cs.contains c=true then okT (.v (tab c d)) fs else .bad|_=>.bad
meta theorem JbD{a}{p}{x}{f}(t:JZ X.K X.mg cs ds tab)(hm:X.mg "isinstance"=none)(hx:x∈ds)(ha:FE X Z a f)(hg:Gl X "isinstance":=by rfl)(bT:Gl X x:=by rfl)(aQ:Zdb x:=by decide)
  (hs:starEach [a,.Name x p2] X.env=(false,eval a X.env)::starEach [.Name x p2] X.env:=by rfl) (aR:starEach [.Name x p2] X.env=[(false,eval (.Name x p2) X.env)]:=by rfl) (aC:(backTo pos (starEach [.Name x p2] X.env)).any (·.1)=false:=by rfl) :
  FE X Z (.Call (.Name "isinstance" p) [a,.Name x p2] [] pos) (isX cs tab x f):=by
 obtain⟨D,h1,h2⟩:=t.yq x hx;refine Ax (Fl Ho hg hm boot_isinstance (B5 ha (B5 (λaa s U H Q I h=>EA I bT h1 ⟨.ref D,H,I,rfl,h⟩ aQ) FV aR) hs) (by decide) (by decide) hs aC) λU H Q aj=>?_
 obtain⟨F,B,fs,ok,s⟩:= aj;refine⟨F,B,fs,ok,As s λr ae F1 H1 u l1 au rx s1=>?_⟩;split at s1
 .rename_i c;split at s1
  .rename_i hc;have hc:=by simpa using hc
   obtain⟨b,C,rfl,fb,hb,hC⟩:=rx;exact⟨b,C,.ref D,.ref D,_,rfl,(λu z=>z),hb,(t.k c hc C hC).1,(t.k c hc C hC).2,(t.own c hc x hx C D hC h2).1,s1 F1 H1 _ Le.refl (RR.of au rfl)⟩
  .exact s1.elim
 .exact s1.elim
def isV(cs:List Str)(f:sT):sT:=λfs=>(f fs).bnd λr fs=>match r with|.t (.ze c)=>if cs.contains c=true then okT (.v true) fs else .bad|_=>.bad
meta theorem JbE{a}{f}{p}(t:JZ X.K X.mg cs ds tab)(hm:X.mg "isinstance"=none)(cy:X.mg "ValueError"=none)(ha:FE X Z a f)(hg:Gl X "isinstance":=by rfl)(bT:Gl X "ValueError":=by rfl)
  (hs:starEach [a,.Name "ValueError" p2] X.env=(false,eval a X.env)::starEach [.Name "ValueError" p2] X.env:=by rfl) (aR:starEach [.Name "ValueError" p2] X.env=[(false,eval (.Name "ValueError" p2) X.env)]:=by rfl) (aC:(backTo pos (starEach [.Name "ValueError" p2] X.env)).any (·.1)=false:=by rfl) :
  FE X Z (.Call (.Name "isinstance" p) [a,.Name "ValueError" p2] [] pos) (isV cs f):=by
 refine Ax (Fl Ho hg hm boot_isinstance (B5 ha (B5 (N8 (v:=.ty "ValueError") bT cy PyProof.Rows.Boot.«ValueError» rfl) FV aR) hs) (by decide) (by decide) hs aC) λU H Q aj=>?_
 obtain⟨F,B,fs,ok,s⟩:= aj;refine⟨F,B,fs,ok,As s λr ae F1 H1 u l1 au rx s1=>?_⟩;split at s1
 .rename_i c;split at s1
  .rename_i hc;have hc:=by simpa using hc
   obtain⟨b,C,rfl,fb,hb,hC⟩:=rx;exact⟨b,C,.ty "ValueError",.type "ValueError",_,rfl,(λu z=>z),hb,(t.k c hc C hC).1,(t.k c hc C hC).2,t.ve c hc C hC,s1 F1 H1 _ Le.refl (RR.of au rfl)⟩
  .exact s1.elim
 .exact s1.elim
theorem RZ{x}(t:JZ X.K X.mg rs ds tab)(hx:x∈ds)(i:Nat)(l:LkD X Z)(hN:X.N.Nodup)
  (hb:∀E' Z',LkD (X.Fz E') Z'->GSs (X.Fz E') Z' body g) (hs:∀a,GSs (X.hand a) Xp.no (ck::bA) h) (hi:X.N[i]?=some n:=by rfl) (hl:X.env.scope.names.lookup n=some .local:=by rfl) (hg:Gl X x:=by rfl) (aQ:Zdb x:=by decide) :
  GS0 X Z (.Try body [.ExceptHandler (some (.Name x np)) (some n) (ck::bA) cz] [] [] pos) (TH i (λc=>rs.contains c&&tab c x) g h):=by
 obtain⟨C,h1,h2⟩:=t.yq x hx;refine W3 (i:=i) _ i l h1 hN (λc C' ho hc=>?_) hb hs hi hl hg aQ;rw[oy]at ho;exact(t.own c (by simpa using ho.1) x hx C' C hc h2).2 ho.2
def gCnt:Rv->List Rv->sT
 |x,[.t (.v true)],fs=>match(Bw fs x).bind IA with|some bs=>okT (.int ((bs.countP id:Nat):Int)) fs|none=>.bad
 |_,_,_=>.bad
def gIdx:Rv->List Rv->sT
 |x,[.t (.v true)],fs=>match(Bw fs x).bind IA with
  |some bs=>match bs.findIdx? id with|some j=>okT (.int ((j:Nat):Int)) fs|none=>.bad
  |none=>.bad
 |_,_,_=>.bad
theorem Rp:MtF K Z (λx vs H Q=>∃(l:Addr)(bs:List Bool),x=.ref l/\vs=[.v true]/\SqL K H l (bs.map V.v)/\Q (.int ((bs.countP id:Nat):Int)) H) gCnt:=by
 intro F B H U fs x rs u vs Q ok rx q s;unfold gCnt at s;split at s
 .obtain⟨v,rfl,qq⟩:=AO q;subst(by simpa only[Cv,Ay]using qq);split at s
  next bs e=>rw[ot]at e;obtain⟨ts,e1,e2⟩:=e;obtain⟨a,us,rfl,hs,r⟩:=AN ok rx e1;rw[Er e2]at r;rw[Ah.bls r]at hs;exact⟨a,bs,rfl,rfl,hs,s F H _ Le.refl (RR.of ok rfl)⟩
  .exact s.elim
 .exact s.elim
meta theorem Rn:MtF K Z (λx vs H Q=>∃(l:Addr)(bs:List Bool)(j:Nat),x=.ref l/\vs=[.v true]/\SqL K H l (bs.map V.v)/\bs[j]?=some true/\(∀m,m<j->bs[m]?=some false)/\Q (.int ((j:Nat):Int)) H) gIdx:=by
 intro F B H U fs x rs u vs Q ok rx q s;unfold gIdx at s;split at s
 .obtain⟨v,rfl,qq⟩:=AO q;subst(by simpa only[Cv,Ay]using qq);split at s
  .rename_i bs e;rw[ot]at e;obtain⟨ts,e1,e2⟩:=e;obtain⟨a,us,rfl,hs,r⟩:=AN ok rx e1;rw[Er e2]at r;rw[Ah.bls r]at hs;split at s
   next j ej=>obtain⟨hj,h1,h2⟩:=qg.mp ej;refine⟨a,bs,j,rfl,rfl,hs,by rw[nO hj];exact congrArg some h1,λm hm=>?_,s F H _ Le.refl (RR.of ok rfl)⟩;have:=h2 m hm;rw[nO (pE hm hj)];simpa using this
   .exact s.elim
  .exact s.elim
 .exact s.elim
variable{j:Nat}
def Bd(C:Addr)(m:Str)(p:Nat)(Fn:sT)(fo:sT)(fa:sU):sT:=λfs=>(fo fs).bnd λx fs=>if DR C m fs x=true then(fa fs).bind λrs fs=>Ae p Fn (x::rs) fs else .bad
theorem Jby{o}(G:Yf X.prog X.w X.K X.mg X.base (CX1 X.prog X.w) C m k ps (spX X.K p Fn))(hr:C8 k X.A)(lk:Lks X Z)(ho:FE X Z o fo)(ha:FAn X Z (e::es) fa)
  (dJ:Zsc X.env e es:=by rfl) (aC:Zbt X.env pos es:=by rfl)
  (ht:eval (.Call (.Attribute o m aA) (e::es) [] pos) X.env=(do
   let ov <- eval o X.env
   standAt aA.atName
   let(f,first) <- holding [ov] (getMethod ov m pl)
   callWith pos f first (backTo pos (starEach (e::es) X.env)) (backToKw pos (keywordEach [] X.env))):=by rfl) :
  FE X Z (.Call (.Attribute o m aA) (e::es) [] pos) (Bd C m p Fn fo fa):=by
 refine Ax (T9 G hr lk ho ha dJ aC ht) λU H Q aj => ?_
 obtain⟨F,B,fs,ok,s⟩:= aj;refine⟨F,B,fs,ok,As s λr ae F1 H1 u l au rx s1=>?_⟩;split at s1
 .rename_i hi;obtain⟨a,dx,af,rfl,hd,hn⟩:=LH au rx hi;refine⟨a,dx,af,rfl,hd,hn,F1,B,ae,au,Ar s1 λrs aq F2 H2 us l2 q s2=>?_⟩;unfold Ae at s2;split at s2
  next hp=>rw[<- hp];exact have z:=q.push (rx.le l2);Gw z.1 (sat.le s2 z.2)
  .exact s2.elim
 .exact s1.elim
theorem Xl{o}(G:Yf X.prog X.w X.K X.mg X.base (CX1 X.prog X.w) C m k ps (spX X.K p Fn))(hr:C8 k X.A)(ho:FE X Z o fo)
  (h:∀{ta:TE},PE X o ta->PE X (.Call (.Attribute o m aA) [] [] pos) (Vh C m (spX X.K p Fn) [] E0 ta Y4)):FE X Z (.Call (.Attribute o m aA) [] [] pos) (Eg C m p Fn fo Af):=by
 refine Ax (h ho) λU H Q aj => ?_
 obtain⟨F,B,fs,ok,s⟩:= aj;refine⟨F,B,fs,ok,As s λr ae F1 H1 u l au rx s1=>?_⟩;split at s1
 .rename_i hi;obtain⟨a,dx,af,rfl,hd,hn⟩:=LH au rx hi;refine⟨a,dx,af,rfl,hd,hn,?_⟩;have s2:sat Z B (RR X.K B U) F1 H1 (P2 p Fn [r] ae) Q:=s1;unfold P2 at s2;split at s2
  next hp=>rw[<- hp];exact have z:=RAn.push (vs:=[]) ⟨au,rfl,nofun⟩ rx;S1 z.1 (sat.le s2 z.2)
  .exact s2.elim
 .exact s1.elim
theorem JbA{x}(G:MkAt X.prog X.w X.K X.mg X.base (CX1 X.prog X.w) x C k ps (spX X.K p Fn))(hr:C8 (k+1) X.A)(ha:FAn X Z (e::es) fa)(hg:Gl X x:=by rfl)(aQ:Zdb x:=by decide)
  (he:Zsc X.env e es:=by rfl) (aC:Zbt X.env pos es:=by rfl):FE X Z (.Call (.Name x pp) (e::es) [] pos) (Ad (BW C p Fn) fa):=by
 refine Ax (pe_mk G hr Z4 ha hg aQ he aC) λU H Q aj => ?_
 obtain⟨F,B,fs,ok,s⟩:= aj;refine⟨F,B,fs,ok,Ar s λrs ae F1 H1 us l q s1=>?_⟩;intro a dx h1 h2 h3;rw[oN];exact Ry q s1 h1 h2 h3
theorem Jbg{a b:Expr}{fa fb:sT}(hu:X.A.units+61<cLine)(ha:FE X Z a fa)(hb:FE X Z b fb):FT X Z (.Compare a [.NotEq] [b] pos) (asB (Ag (IF true) fa fb)):=C6 (Od true hu) Z8 ha hb (Cz _)
def Yo:List Rv->sT
 | [x],fs=>match(Bw fs x).bind IA with|some ns=>okT (.v (ns.any id)) fs|none=>.bad
 |_,_=>.bad
meta theorem Jca:B1 K Z (λxs H Q=>∃(l:Addr)(bs:List Bool),xs=[.ref l]/\SqL K H l (bs.map V.v)/\Q (.v (bs.any id)) H) Yo:=by
 intro F B H U fs rs vs Q ok q s;unfold Yo at s;split at s
 .obtain⟨v,rfl,qq⟩:=AO q;split at s
  next ns e=>rw[ot]at e;obtain⟨ts,e1,e2⟩:=e;obtain⟨a,us,rfl,hs,r⟩:=AN ok qq e1;rw[Er e2]at r;rw[Ah.bls r]at hs;exact⟨a,ns,rfl,hs,s F H _ Le.refl (RR.of ok rfl)⟩
  .exact s.elim
 .exact s.elim
theorem JbP{p}(hm:X.mg "any"=none)(ha:FA X Z (e::es) fa)(hc:X.calm=true:=by rfl)(hg:Gl X "any":=by rfl)(he:Zsc X.env e es:=by rfl)(aC:Zbt X.env pos es:=by rfl):
  FE X Z (.Call (.Name "any" p) (e::es) [] pos) (Ad Yo fa):=CS Jca (SY hc) hm boot_any ha hg (by decide) (by decide) he aC
theorem Jbi{a}{b}(hu:X.A.units+61<cLine)(ha:FE X Z a fa)(hb:FE X Z b fb):FT X Z (.Compare a [.Eq] [b] pos) (asB (Ag (IF false) fa fb)):=C6 (Od false hu) Oa ha hb (Cz _)
def Jcg:T->Bool
 |.l=>true
 |.v _=>true
 |.int _=>true
 |.str _=>true
 |_=>false
theorem Ay.atom(e:Jcg t=true)(h:Ay K F H t v):Ay K F' H' t v/\∀b,v≠.ref b:=by cases t<;>cases e<;>cases h<;>exact⟨rfl,λ_=>nofun⟩
def Ib:List Rv->sT:=int2 λi j=>if j>i then j else i
theorem XT:B1 K Z (λxs H Q=>∃i j,xs=[.int i,.int j]/\Q (.int (if j>i then j else i)) H) Ib:=PX
theorem Xo(hm:X.mg "max"=none)(ha:FA X Z (e::es) fa)(hc:X.calm=true:=by rfl)(hg:Gl X "max":=by rfl)(he:Zsc X.env e es:=by rfl)(aC:Zbt X.env pos es:=by rfl):
  FE X Z (.Call (.Name "max" pp) (e::es) [] pos) (Ad Ib fa):=CS XT (P0 hc) hm boot_max ha hg (by decide) (by decide) he aC
def MO:sS:=LO true
theorem Wb:OpF K Z (λx y H Q=>y=.l/\Q (.v (!decide (x=.l))) H) MO:=by
 intro F B H U fs x y u w Q ok rx ry s;unfold MO LO at s;split at s
 .split at s
  next b e=>exact⟨ry,LG ok rx e▸s F H _ Le.refl (RR.of ok rfl)⟩
  .exact s.elim
 .exact s.elim
theorem Pg{a}{b}(ha:FE X Z a fa)(hb:FE X Z b fb):FT X Z (.Compare a [.IsNot] [b] pos) (asB (Ag MO fa fb)):=C6 Wb V4 ha hb (Cz _)
def HD(C:Addr)(f:Str)(i:Nat):sT:=λfs=>match Aq fs i with|some (.ins C' gs os)=>if C'=C then(match AQ gs os f with|some (.la p ts)=>(match ts.getLast? with|some t=>.ok (.t t) (putAt fs i (.ins C gs (BO gs os f (.la p ts.dropLast))))|none=>.bad)|_=>.bad)else .bad|_=>.bad
theorem Sn{x}(c:Cls X.K C)(n:AH X.K C f)(i:Nat)(hx:PE X (.Name x p1) (Kb i))(cO:Zab X.env (.Name x p1) f:=by rfl)
  (aE:attributeBase (.Attribute (.Name x p1) f p2) "pop" X.env (eval (.Attribute (.Name x p1) f p2) X.env)=eval (.Attribute (.Name x p1) f p2) X.env:=by rfl) (aG:(aA.endLine==ay.line)=true:=by rfl) :
  FE X Z (.Call (.Attribute (.Attribute (.Name x p1) f p2) "pop" aA) [] [] ay) (HD C f i):=by
 refine Ax (Ub plainAttrs_list slot_list_pop type_list_pop Ol (EO hx cO) aE aG) λU H Q aj=>?_
 obtain⟨F,B,fs,ok,s⟩:= aj;unfold HD at s;split at s
 .rename_i C' gs os eo;split at s
  .rename_i hC;subst hC;split at s
   .rename_i p ts ef;split at s
    next t et=>obtain⟨a,dx,af,_,vs,a1,hd,rfl,e1,⟨rfl,hp⟩,rt,bk⟩:=ok.Sg eo ef rfl;obtain⟨z,ez,rz,rd⟩:=Ah.last rt et;obtain⟨bx,l'⟩:=bk (.la _ ts.dropLast) _ _ _ (.lst vs.dropLast) rfl ⟨rfl,rfl⟩ rd;exact⟨_,a1,a,C',dx,af,.ref _,rfl,hd,c,n,e1,.inl ⟨rfl,vs,SqL.of hp⟩,_,_,z,rfl,rfl,by rw[<- ez];exact hp,s F _ z l' (RR.of bx (rz.le l'))⟩
    .exact s.elim
   .exact s.elim
  .exact s.elim
 .exact s.elim
def C1(C:Addr)(f:Str)(i:Nat)(fe:sT):sT:=λfs=>match Aq fs i with
 |some (.ins C' gs os)=>if C'=C then(match AQ gs os f with
  |some (.la p _)=>(fe fs).bnd λr ae=>(match r,Aq ae i with|.t t,some (.ins C2 fM gR)=>if C2=C then(match AQ fM gR f with|some (.la p2 b6)=>if p2=p/\b6.length<big then .ok (.t .l) (putAt ae i (.ins C fM (BO fM gR f (.la p (b6++[t])))))else .bad|_=>.bad)else .bad|_,_=>.bad)
  |_=>.bad)else .bad
 |_=>.bad
theorem Sv{x}(c:Cls X.K C)(n:AH X.K C f)(i:Nat)(hx:PE X (.Name x p1) (Kb i))(he:FE X Z e fe)(cO:Zab X.env (.Name x p1) f:=by rfl)
  (aE:attributeBase (.Attribute (.Name x p1) f p2) "append" X.env (eval (.Attribute (.Name x p1) f p2) X.env)=eval (.Attribute (.Name x p1) f p2) X.env:=by rfl)
  (bR:((backTo ay (starEach [e] X.env)).all (λx=>!x.1)&&(backToKw ay (keywordEach [] X.env)).all (λx=>x.1.isSome)
  &&decide (([e]:List Expr).length+([]:List Keyword).length+(if([]:List Keyword).isEmpty then 0 else 1)<30))=true:=by rfl)
  (aG:(aA.endLine==ay.line)=true:=by rfl) (hs:starEach [e] X.env=(false,eval e X.env)::starEach [] X.env:=by rfl) :
  FE X Z (.Call (.Attribute (.Attribute (.Name x p1) f p2) "append" aA) [e] [] ay) (C1 C f i fe):=by
 refine Ax (V0 plainAttrs_list PySem.F.slot_list_append PySem.F.type_list_append FY (EO hx cO) (B5 he FV hs) aE bR aG hs) λU H Q aj=>?_
 obtain⟨F,B,fs,ok,s⟩:= aj;unfold C1 at s;split at s
 .rename_i C' gs os eo;split at s
  .rename_i hC;subst hC;split at s
   .rename_i p ts ef;obtain⟨a,dx,af,_,vs,a1,hd,rfl,e1,⟨rfl,hp⟩,rt,_⟩:=ok.Sg eo ef rfl;refine⟨_,a1,a,C',dx,af,.ref _,rfl,hd,c,n,e1,.inl ⟨rfl,vs,SqL.of hp⟩,F,B,fs,ok,As s λr ae F1 H1 u l au rx s1=>?_⟩;split at s1
    .rename_i t C2 fM gR kE;split at s1
     .rename_i kO;subst kO;split at s1
      .rename_i p2 b6 kC;split at s1
       next aC=>obtain⟨rfl,hl⟩:=aC;obtain⟨a',fJ,cD,_,bB,mX,ba,rfl,jf,⟨rfl,fY⟩,fF,bk⟩:=au.Sg kE kC rfl;obtain⟨bx,l'⟩:=bk (.la _ (b6++[t])) _ _ _ (.lst (bB++[u])) rfl ⟨rfl,rfl⟩ (fF.app (Ah.one rx));exact⟨_,bB,u,rfl,rfl,fY,by rw[fF.len];exact pE hl EV,s1 F1 _ .l l' (RR.of bx rfl)⟩
       .exact s1.elim
      .exact s1.elim
     .exact s1.elim
    .exact s1.elim
   .exact s.elim
  .exact s.elim
 .exact s.elim
def Mu(C:Addr)(f:Str)(i:Nat):sV:=λfs=>match Aq fs i with|some (.ins C' gs os)=>if C'=C then(match AQ gs os f with|some (.la _ ts)=>.ok (!ts.isEmpty) fs|_=>.bad)else .bad|_=>.bad
theorem Sb{x}(c:Cls X.K C)(n:AH X.K C f)(i:Nat)(hx:PE X (.Name x p1) (Kb i))(cO:Zab X.env (.Name x p1) f:=by rfl)
  (he:∀aO,isTrue (.Attribute (.Name x p1) f p2) X.env aO=(do let v <- aO;standAt (Expr.Attribute (.Name x p1) f p2).pos;holding [v] (truthy v))):FT X Z (.Attribute (.Name x p1) f p2) (Mu C f i):=by
 refine I0 (Ln (EO hx cO) he) λU H Q aj=>?_
 obtain⟨F,B,fs,ok,s⟩:= aj;unfold Mu at s;split at s
 .rename_i C' gs os eo;split at s
  .rename_i hC;subst hC;split at s
   next p ts ef=>obtain⟨a,dx,af,_,vs,a1,hd,rfl,e1,⟨rfl,hp⟩,rt,_⟩:=ok.Sg eo ef rfl;exact⟨_,a1,a,C',dx,af,.ref _,rfl,hd,c,n,e1,_,.inl ⟨vs,SqL.of hp,(B7 rt.len).symm⟩,s F H _ Le.refl ⟨ok,rfl⟩⟩
   .exact s.elim
  .exact s.elim
 .exact s.elim
def OP(C:Addr)(f:Str)(i:Nat):sT:=λfs=>match Aq fs i with|some (.ins C' gs os)=>if C'=C then(match AQ gs os f with|some (.la _ (t::_))=>okT t fs|_=>.bad)else .bad|_=>.bad
theorem Sr{x}(c:Cls X.K C)(n:AH X.K C f)(i:Nat)(hx:PE X (.Name x p1) (Kb i))(hs:ID (.Constant (.int 0) j ay))(cO:Zab X.env (.Name x p1) f:=by rfl):
  FE X Z (.Subscript (.Attribute (.Name x p1) f p2) (.Constant (.int 0) j ay) pos) (OP C f i):=by
 refine Ax (Z0 ON (EO hx cO) Lq hs) λU H Q aj=>?_
 obtain⟨F,B,fs,ok,s⟩:= aj;unfold OP at s;split at s
 .rename_i C' gs os eo;split at s
  .rename_i hC;subst hC;split at s
   next p t ts ef=>obtain⟨a,dx,af,_,vs,a1,hd,rfl,e1,⟨rfl,hp⟩,rt,_⟩:=ok.Sg eo ef rfl;obtain⟨w,r,rfl,bM,_⟩:=rt;exact⟨_,a1,a,C',dx,af,.ref _,rfl,hd,c,n,e1,_,w::r,0,w,rfl,rfl,SqL.of hp,AZ rfl,s F H w Le.refl (RR.of ok bM)⟩
   .exact s.elim
  .exact s.elim
 .exact s.elim
def NA(C:Addr)(f:Str)(i:Nat)(k:Int):FS->SO:=λfs=>match Aq fs i with|some (.ins C' gs os)=>if C'=C/\gs.length<900 then(match AQ gs os f with|some (.val (.int n))=>(match De gs os f (.val (.int (n-k)))with|some p=>.nx (putAt fs i (.ins C p.1 p.2))|none=>.bad)|_=>.bad)else .bad|_=>.bad
theorem RQ{x}(c:Cls X.K C)(n:AH X.K C f)(i:Nat)(hx:PE X (.Name x p1) (Kb i)):
  GS X Z (.AugAssign (.Attribute (.Name x p1) f p2) .Sub (.Constant (.int k) j ay) pos) (NA C f i k):=by
 refine BV (NV hx Lq JaN) λD U H aj=>?_
 obtain⟨F,B,fs,ok,s⟩:= aj;unfold NA at s;split at s
 .rename_i C' gs os eo;split at s
  .rename_i hC;obtain⟨rfl,hl⟩:=hC;split at s
   .rename_i m ef;split at s
    next p ep=>obtain⟨a,dx,af,v0,k0,b1,bd,rfl,be,br,_⟩:=ok.fld eo ef;cases br.t;obtain⟨a',fJ,cD,F',c1,c2,c3,l',bx⟩:=RR.store (r:=.t (.int (m-k))) ⟨ok,rfl⟩ eo rfl ep;rw[b1]at c1;cases c1;rw[bd]at c2;cases c2;exact⟨_,b1,a,C',dx,af,.int m,rfl,bd,c,n,be,m,k,rfl,rfl,dx,af,bd,by rw[nX]at hl;lia,s F' _ U l' bx⟩
    .exact s.elim
   .exact s.elim
  .exact s.elim
 .exact s.elim
def Jch:FO->Option (List Key×List FO)
 |.n [] []=>some ([],[])
 |.dO ks os=>some (ks,os)
 |_=>none
theorem Yb{p}(e:Jch o=some p):o.vw=some (.n p.1,p.2):=by unfold Jch at e;split at e<;>cases e<;>rfl
theorem HC{k:Key}(h:k∉af.map (·.1)):putK af k v=af++[(k,v)]:=by unfold putK;rw[if_neg];intro z;obtain⟨q,hq,e⟩:=qI.mp z;exact h (oo.mpr ⟨q,hq,oj e⟩)
def D5(C:Addr)(f:Str)(i jy:Nat):FS->SO:=λfs=>match Aq fs i,fs[jy]? with|some (.ins C' gs os),some (some (.val y))=>if C'=C then(match AQ gs os f,FH y with|some o,some k=>(match Jch o with|some (ks,ds)=>if ks.length<big/\(ks.any λq=>decide (q=k))=false then .nx (putAt fs i (.ins C gs (BO gs os f (.dO (ks++[k]) (ds++[.n [] []])))))else .bad|none=>.bad)|_,_=>.bad)else .bad|_,_=>.bad
meta theorem RW{x}(hu:X.A.units+1<cLine)(c:Cls X.K C)(n:AH X.K C f)(i jy:Nat)(hx:PE X (.Name x p1) (Kb i))(hy:PE X (.Name y p3) (Kb jy))(cO:Zab X.env (.Name x p1) f:=by rfl)
  (hs:swapsWith (.Dict [] [] p5) (some (.Subscript (.Attribute (.Name x p1) f p2) (.Name y p3) p4)) pos.line X.env=pure false:=by rfl) :
  GS X Z (.Assign [.Subscript (.Attribute (.Name x p1) f p2) (.Name y p3) p4] (.Dict [] [] p5) pos) (D5 C f i jy):=by
 refine BV (Ko hu (EO hx cO) hy Lr hs) λD U H aj=>?_
 obtain⟨F,B,fs,ok,s⟩:= aj;unfold D5 at s;split at s
 .rename_i C' gs os y' eo ey;split at s
  .rename_i hC;subst hC;split at s
   .rename_i o k ef ek;split at s
    .rename_i ks ds ed;split at s
     .rename_i hk;intro p hp;obtain⟨a,dx,af,v,m,a1,hd,rfl,e1,r1,bk⟩:=ok.fld eo ef;obtain⟨b,_,rfl,fb,⟨bg,hb,rfl,rfl⟩,hl,rc⟩:=r1.inv (Yb ed);have ne:∀{z τ},F.o z=τ->τ≠.no->τ≠.q true i [m]->(F.tag p (.q true i [ds.length,m])).o z=τ/\upd (upd H p (.n [])) b (.n (bg++[(k,.ref p)])) z=H z:=λ{z τ} h h1 h2=>by have q1:=ok.fresh hp (by rwa[h]);exact⟨(Bo q1).trans h,by rw[Al (λq=>h2 (by rw[<- h,q,fb])),Al q1]⟩
      have pb:p≠b:=(ok.fresh hp (by rw[fb];nofun)).symm;have l:Le F H (F.tag p (.q true i [ds.length,m])) (upd (upd H p (.n [])) b (.n (bg++[(k,.ref p)]))):=⟨λz h=>ne h nofun nofun,λz h=>ne h nofun nofun⟩
      obtain⟨uy,e6,ry⟩:=ok.sl _ _ ey;cases CM ek ry;refine⟨_,a1,a,C',dx,af,.ref b,rfl,by rw[Al λq=>by rw[q,hp]at hd;cases hd];exact hd,c,n,e1,kV k,e6,b,_,rfl,Ng.k (by rw[Al pb.symm];exact hb) (by have:=hk.1;rw[nX]at this;exact pE this EV),?_⟩;rw[HC (λm=>by have:=qA.mp hk.2 k m;simp at this)];exact s _ _ U l (bk _ _ (.dO (bg.map (·.1)++[k]) (ds++[.n [] []])) l.f (λz j ρ h h2=>ne h nofun λq=>by cases q;exact h2 [] ⟨rfl,rfl⟩) (λz h=>(Bo (Bp (Bp h).2).1).trans (ok.td z (Bp (Bp h).2).2)) (.nd rfl ((Bo pb.symm).trans fb) (by rw[An];exact⟨_,rfl,by simp,rfl⟩) (by simpa using hl) λj o v g1 g2=>by
       rw[nU,List.getElem?_append]at g2;rw[List.getElem?_append]at g1;rw[hl]at g2;split at g1
       next hj=>rw[if_pos hj]at g2;exact(rc j o v g1 g2).mv (λz ρ h=>ne h nofun λq=>by simpa using congrArg List.length (Tg.q.inj q).2.2) l.f
       .rename_i hj;rw[if_neg hj]at g2;have ej:j-ds.length=0:=by cases q:j-ds.length<;>simp_all
        rw[ej]at g1 g2;cases g1;cases g2;have:j=ds.length:=by lia
        subst this;exact .of rfl A3 (by rw[Al pb,An];exact⟨[],rfl,rfl,rfl⟩) rfl))
     .exact s.elim
    .exact s.elim
   .exact s.elim
  .exact s.elim
 .exact s.elim
def itI(f:sT):sX:=λfs=>(f fs).bnd λr fs=>match r with|.t (.dF ks ts)=>.ok (pairs (ks.map J0) ts) fs|_=>.bad
def itVT(f:sT):sX:=λfs=>(f fs).bnd λr fs=>match r with|.t (.tup ts)=>.ok ts.reverse fs|_=>.bad
def fzW(f:sT):sT:=λfs=>(f fs).bnd λr fs=>match r with|.x i=>(match fs[i]? with|some (some (.own (.n ks ts)))=>.ok (.t (.dF ks ts)) (fs.set i (some (.val (.dF ks ts))))|_=>.bad)|.t t=>.ok (.t t) fs|.nw _=>.bad
def D6(fa:sU):sT:=λfs=>(fa fs).bind λrs fs=>match rs with| [.t x,.t y]=>(match Kk x,Kk y with|some xs,some ys=>(match Ee xs with|some ks=>if ks.Nodup/\ks.length=ys.length then .ok (.nw (.n ks ys)) fs else .bad|none=>.bad)|_,_=>.bad)|_=>.bad
def maxD(d:Int)(fa:sU):sT:=λfs=>(fa fs).bind λrs fs=>match rs with| [x]=>(match(Bw fs x).bind EX with|some ns=>okT (.int (mxD d ns)) fs|none=>.bad)|_=>.bad
def Ut(x:T):List T->Option Bool
 | []=>some false
 |y::ys=>(eqT 9 y x).bind λb=>(Ut x ys).map (b||·)
def MP:sS:=λx y fs=>match x with|.t x=>(match(Bw fs y).bind (Ut x)with|some b=>okT (.v !b) fs|none=>.bad)|_=>.bad
def MT:sS:=λx y fs=>match Ki x,Ki y with|some xs,some ys=>(match IG (eqT 180) xs ys with|some b=>okT (.v (b&&xs.length==ys.length)) fs|none=>.bad)|_,_=>.bad
def Ck(fs:FS):FS:=fs.map λs=>match s with|some (.val t)=>some (.val t)|_=>none
def DY(j:Nat)(f:sT):sT:=λfs=>match Aq fs j with|some o=>(match f ((Ck fs).set j (some (.val (toT o))))with|.ok (.t t) _=>if Jcg t=true then .ok (.t t) fs else .bad|.exc c τ=>.exc c τ|_=>.bad)|none=>.bad
def Hu:List Key->List FO->Key->Option FO
 |k::ks,o::os,j=>if k=j then some o else Hu ks os j
 |_,_,_=>none
def IU:List Key->List FO->Key->FO->List FO
 |k::ks,o::os,j,x=>if k=j then x::os else o::IU ks os j x
 |_,os,_,_=>os
def dput2(C:Addr)(f:Str)(i jy jz:Nat)(fv:sT):FS->SO:=λfs=>SO.of (fv fs) λr fs=>match r with|.t t=>(match Aq fs i with|some (.ins C' gs os)=>(match fs[jy]? with|some (some (.val y))=>(match fs[jz]? with|some (some (.val z))=>if C'=C then(match AQ gs os f with|some (.dO ks ds)=>(match FH y with|some k=>(match FH z with|some k2=>(match Hu ks ds k with|some (.n cK b6)=>if cK.length<big then .nx (putAt fs i (.ins C gs (BO gs os f (.dO ks (IU ks ds k (.n (GL cK b6 k2 t).1 (GL cK b6 k2 t).2))))))else .bad|_=>.bad)|none=>.bad)|none=>.bad)|_=>.bad)else .bad|_=>.bad)|_=>.bad)|_=>.bad)|_=>.bad
def Nc(A:Nat->Addr):Nat->List FO->List FO
 |_,[]=>[]
 |i,.lst ts::os=>.la (A i) ts::Nc A (i+1) os
 |i,o::os=>o::Nc A (i+1) os
open Classical in
def newMeth(C:Addr)(m:Str)(p:Nat)(Fn:sT)(fo:sT)(fa:sU):sT:=λfs=>(fo fs).bind λr fs=>match r with
 |.nw (.ins C' gs os)=>if C'=C/\gs.any (·==m)=false then(fa fs).bind λrs fs =>if ∀A,Ae p Fn (.nw (.ins C gs (Nc A 0 os))::rs) fs=Ae p Fn (.nw (.ins C gs (Nc (λi=>i) 0 os))::rs) fs then Ae p Fn (.nw (.ins C gs (Nc (λi=>i) 0 os))::rs) fs else .bad
  else .bad
 |_=>.bad
end Lake.FL
namespace Lake.L2
open PySem PySem.Spec
def tFrzW(td:TE):TE:=λU H Q=>td U H λx H1=>Q x H1\/∃a af,x=.ref a/\H1 a=some (.n af)/\∀o,Q (.ref a) (upd H1 a (.frz o (.n af)))
theorem VW(h:PE X e td):PE X e (tFrzW td):=by
 intro aa s U H Q I q;refine thn (h aa s U H _ I q) λv s1 aj=>?_
 obtain⟨x,H1,I1,r1,q⟩:= aj;rcases q with q|⟨a,af,ex,hq,q⟩
 .exact⟨x,H1,I1,r1,q⟩
 .subst ex;cases r1;obtain⟨o,I2⟩:=I1.freeze hq;exact⟨.ref a,_,I2,rfl,q o⟩
end Lake.L2
namespace Lake.FL
open PySem PySem.Spec L2
variable{k0 j:Nat}{d:Int}
theorem Si(ho:FE X Z o f)(aE:Zab X.env o "items":=by rfl)(aG:(aA.endLine==ay.line)=true:=by rfl):
  FI X Z (.Tuple elts k0 tpos) (.Call (.Attribute o "items" aA) [] [] ay) (itI f):=by
 refine G8 (Q7 ho aE aG) λU H Q aj => ?_
 obtain⟨F,B,fs,ok,s⟩:= aj;refine⟨F,B,fs,ok,As s λr ae F1 H1 u l au rx s1=>?_⟩;split at s1
 .rename_i ks ts;obtain⟨a,af,rfl,ff,⟨ob,hd⟩,rfl,r⟩:=rx;refine⟨a,ob,af,rfl,hd,s1 F1 H1 _ Le.refl ⟨au,λF' H' l ⟨B2,aq,eJ,aJ⟩ i=>?_⟩⟩;have ba:=(l a ff).2.trans hd;have hl:=r.len;rw[nX]at hl;refine⟨λt et=>?_,λbu=>⟨ba,?_⟩⟩
  .obtain⟨x,y,ex,ey,rfl⟩:=pairs_at et;rw[ou,nY]at ex;obtain⟨k,ek,rfl⟩:=ex;obtain⟨v,ev,rv⟩:=(Ah.lf l r).at ey;rw[ou,nY]at ek ev;obtain⟨q,eq,rfl⟩:=ek;obtain⟨q2,eq2,rfl⟩:=ev;rw[eq]at eq2;cases eq2;refine⟨⟨ba,(n6.mp eq).1⟩,λx cG hy=>?_⟩;obtain⟨T,k',v',hn,rfl,rfl,e3⟩:=hy;rw[eq]at e3;cases e3;refine⟨F'.tag T .fz,⟨aJ.DQ hn,λB fs U k=>k.alloc hn⟩,?_⟩;refine⟨T,_,rfl,⟨rfl,A3,An⟩,_,_,rfl,?_,_,_,rfl,rv.le (aJ.DQ hn),rfl⟩;cases k'<;>rfl
  .rcases pairs_len bu with h|h
   .simpa using h
   .lia
 .exact s1.elim
theorem WN(cy:X.mg "reversed"=none)(hl:FE X Z l f)(bT:Gl X "reversed":=by rfl)(dD:Zs1 X.env l:=by rfl):
  FIt X Z (.Call (.Name "reversed" p2) [l] [] bb) "reversed" (itVT f):=by
 refine⟨_,λtg=>VR cy hl bT dD,λU H Q ⟨F,B,fs,ok,s⟩=>⟨F,B,fs,ok,As s λr ae F1 H1 u l au rx s1=>?_⟩⟩;split at s1
 .rename_i ts;simp only[Cv,Ay]at rx;obtain⟨a,vs,rfl,hs,r⟩:=rx;refine⟨a,vs,rfl,hs.sq,s1 F1 H1 _ Le.refl ⟨au,λF' H' l _ i=>?_⟩ λ_ _ _ _ i I ⟨h,xs,_,q,e,_⟩=>by obtain⟨_,_,_,z⟩:=I.tuple q;lia⟩;have r':=Ah.lf l r;have bK:SqT X.K H' a vs:=SqT.of ((l a hs.2.1).2.trans hs.2.2);have hl:=r.len;refine⟨λt et=>?_,λbu=>⟨by rw[hl,<- List.length_reverse];exact bu,vs,bK,rfl⟩⟩;have hi:i<ts.length:=by have:=(n6.mp et).1;simpa using this
  rw[List.getElem?_reverse hi]at et;obtain⟨v,ev,rv⟩:=r'.at et;rw[<- hl]at ev;refine⟨⟨by lia,vs,v,bK,rfl,ev⟩,λx cG hy=>stays hy.1 ?_⟩;have:=hy.2 vs bK;rw[ev]at this;cases this;exact rv
 .exact s1.elim
theorem JbI(h:FE X Z e f):FE X Z e (fzW f):=by
 refine Ax (VW h) λU H Q aj => ?_
 obtain⟨F,B,fs,ok,s⟩:= aj;refine⟨F,B,fs,ok,As s λr ae F1 H1 u l au rx s1=>?_⟩;split at s1
 .rename_i i;split at s1
  .rename_i ks ts es;obtain⟨a,af,F',rfl,hd,rfl,ff,k⟩:=au.frzD rx es;refine .inr ⟨a,af,rfl,hd,λo=>?_⟩;obtain⟨l2,r2,aJ⟩:=k o;have r3:Ay X.K F' (upd H1 a (.frz o (.n af))) (.dF (af.map (·.1)) ts) (.ref a):=by simp only[Ay];exact⟨a,af,rfl,ff,⟨o,An⟩,rfl,r2⟩
   exact s1 _ _ (.ref a) l2 ⟨aJ _ r3,r3⟩
  .exact s1.elim
 .exact .inl (s1 F1 H1 u Le.refl (RR.of au rx))
 .exact s1.elim
theorem K7:∀{xs:List T}{ks:List Key},Ee xs=some ks->ks.length=xs.length/\∀(i:Nat)(x:T),xs[i]?=some x->∃k,ks[i]?=some k/\FH x=some k
 | [],_,e=>by cases e;simp
 |t::ts,_,e=>by simp only[Ee,ot,nY]at e;obtain⟨k,e1,ks,e2,rfl⟩:=e;obtain⟨l,h⟩:=K7 e2;refine⟨by simp[l],λi x e=>?_⟩;cases i with|zero=>cases e;exact⟨k,rfl,e1⟩|succ i=>exact h i x e
def DP(K:Fg)(ks:List Key)(ys:List T)(i:Nat)(o:HO)(F:Wd)(H:Hp):Prop:=∃af,o=.n af/\af.map (·.1)=ks.take i/\Ah K F H (ys.take i) (af.map (·.2))
theorem XI(ek:Ee xs=some ks)(nd:ks.Nodup)(hl:ks.length=ys.length)(ok:Okk K F B H fs U)(hS:H S=none)(jk:JOk K F H J (pairs xs ys))
  (s:sat Z B (RR K B U) F H (.ok (.nw (.n ks ys)) fs) Q):ItW J S (putD S) (Q (.ref S)) (upd H S (.n [])):=by
 obtain⟨l,ha⟩:=K7 ek;refine JaJ (DP K ks ys) ok hS jk s ⟨[],rfl,rfl,rfl⟩ (λl ⟨vs,e,k,r⟩=>⟨vs,e,k,r.lf l⟩) (λi t x F3 H3 o et rx ⟨af,e,ke,r⟩ eo=>?_) (λo F' H' ⟨af,e,ke,r⟩ eo f=>?_) λh ⟨a,k,v,af,e1,e2,e3,l,q⟩=>⟨a,k,v,af,e1,e2,e3,l,h _ q⟩
 .obtain⟨x,y,ex,ey,rfl⟩:=pairs_at et;obtain⟨k,e1,e2⟩:=ha i x ex;obtain⟨a,_,rfl,st,v,_,rfl,r1,w,_,rfl,r2,rfl⟩:=rx;have nk:k∉af.map (·.1):=by
   rw[ke];intro m;obtain⟨j,hj⟩:=List.mem_iff_getElem?.mp m;rw[pG]at hj;split at hj
   .have:=(List.getElem?_inj (n6.mp hj).1 nd).mp (hj.trans e1.symm)
    lia
   .cases hj
  refine⟨a,k,w,af,rfl,CM e2 r1▸st.2.2,e▸eo,(by have:=congrArg List.length ke;simp at this;lia),_,rfl,?_,?_⟩
  .rw[HC nk,qz,e1];simp[ke]
  .rw[HC nk,qz,ey];simpa using r.app (Ah.one r2)
 .have hp:(pairs xs ys).length=ks.length:=by rw[ER];lia
  rw[hp]at ke r;rw[pQ]at ke;rw[hl,pQ]at r;exact .of rfl f ⟨af,e▸eo,ke,rfl⟩ r
meta theorem MX(hc:X.calm=true)(dH:X.mg "dict"=none)(cy:X.mg "zip"=none)(ha:FA X Z [a,b] g)(dE:Gl X "dict":=by rfl)(bT:Gl X "zip":=by rfl)
  (he:starEach [(.Call (.Name "zip" p2) [a,b] [] bb:Expr)] X.env=[(false,eval (.Call (.Name "zip" p2) [a,b] [] bb) X.env)]:=by rfl) (hs:Zs2 X.env a b:=by rfl) (aR:Zs1 X.env b:=by rfl) :
  FE X Z (.Call (.Name "dict" p1) [.Call (.Name "zip" p2) [a,b] [] bb] [] bY) (D6 g):=by
 refine Ax (N6 (x:="") (p:=p1) hc dH (T7 bT cy ha hs aR) MB (by decide) dE he) λU H Q aj => ?_
 obtain⟨F,B,fs,ok,s⟩:= aj;refine⟨F,B,fs,ok,Ar s λrs ae F1 H1 us l q s1=>?_⟩;split at s1
 .rename_i x y;split at s1
  .rename_i xs ys e1 e2;split at s1
   .rename_i ks ek;split at s1
    next hk=>obtain⟨au,u,w,rfl,rx,u2,w2,rfl,ry,rfl⟩:=q;obtain⟨b1,a1,vs,rfl,q1,h1⟩:=HA rx e1;obtain⟨b2,a2,ws,rfl,q2,h2⟩:=HA ry e2;exact⟨b1,a1,b2,a2,rfl,⟨vs,h1 F1 H1 λ_ f=>⟨f,rfl⟩⟩,⟨ws,h2 F1 H1 λ_ f=>⟨f,rfl⟩⟩,P4,λS hS=>XI ek hk.1 hk.2 au hS (OL h1 h2 q1 q2) s1⟩
    .exact s1.elim
   .exact s1.elim
  .exact s1.elim
 .exact s1.elim
theorem Xn(hc:X.calm=true)(hm:X.mg "max"=none)(ha:FA X Z [a] g)(hg:Gl X "max":=by rfl)(he:Zs1 X.env a:=by rfl):
  FE X Z (.Call (.Name "max" p1) [a] [⟨some "default",.Constant (.int d) j cp,kp⟩] pos) (maxD d g):=by
 refine Ax (VU hc hm ha hg he) λU H Q aj => ?_
 obtain⟨F,B,fs,ok,s⟩:= aj;refine⟨F,B,fs,ok,Ar s λrs ae F1 H1 us l q s1=>?_⟩;split at s1
 .rename_i x;split at s1
  next ns en=>obtain⟨au,u,w,rfl,rx,rfl⟩:=q;rw[ot]at en;obtain⟨ts,e1,e2⟩:=en;obtain⟨l,vs,rfl,hq,r⟩:=AN au rx e1;have:=GC e2;subst this;have:=Ah.ints r;subst this;exact⟨l,ns,rfl,hq,s1 F1 H1 _ Le.refl (RR.of au rfl)⟩
  .exact s1.elim
 .exact s1.elim
variable{j1 j2:Nat}
def NinS(X:Cx)(H:Hp)(x y:V)(b:Bool):Prop:=∀(aa:Zao)(U:St)(s:Shared)(u w:Value),Inv X aa U H s->RelV x u->RelV y w->∀(Q:Zcv),Q (.bool !b) s->wpAny (model X.prog X.w) X.A (compareOp .NotIn u w) Q X.xe s
theorem V5:OpR X (compareOp .NotIn) (λx y H Q=>∃b,NinS X H x y b/\Q (.v !b) H):=by intro aa s U H x y v u Q I rx ry ⟨b,h,q⟩;exact h aa U s v u I rx ry _ ⟨.v !b,H,I,rfl,q⟩
theorem OV:∀{ys:List T}{b:Bool},Ut x ys=some b->(∀(i:Nat)(y:T),ys[i]?=some y->∃c,eqT 9 y x=some c)/\(b=true↔∃(i:Nat)(y:T),ys[i]?=some y/\eqT 9 y x=some true)
 | [],b,e=>by cases e;exact⟨λi y h=>by simp at h,by simp⟩
 |y::ys,b,e=>by
  simp only[Ut,ot,nY]at e;obtain⟨c,e1,d,e2,rfl⟩:=e;obtain⟨h1,h2⟩:=OV e2;refine⟨λi z h=>?_,?_⟩
  .cases i with|zero=>simp at h;subst h;exact⟨c,e1⟩|succ i=>exact h1 i z (by simpa using h)
  .rw[pM,h2];constructor
   .rintro(h|⟨i,z,h,h'⟩)
    .exact⟨0,y,rfl,by rw[e1,h]⟩
    .exact⟨i+1,z,by simpa using h,h'⟩
   .rintro⟨i,z,h,h'⟩
    cases i with|zero=>simp at h;subst h;rw[e1]at h';cases h';exact .inl rfl|succ i=>exact .inr ⟨i,z,by simpa using h,h'⟩
open Classical in
theorem Rj{b:Bool}(hu:X.A.units+61<cLine)(e:Ut x ys=some b)(rx:Ay X.K F H x v)(sy:SqL X.K H p vs)(ry:Ah X.K F H ys vs):NinS X H v (.ref p) b:=by
 intro aa U s u w I qx qy Q q;cases qy;obtain⟨its,vy,pl,hz⟩:=I.list sy;obtain⟨h1,h2⟩:=OV e;have key:∀(i:Nat)(z:T),ys[i]?=some z->∃w',its[i]?=some w'/\∀c,eqT 9 z x=some c->SeqAt.EqAt X.A.in1 s w' u c:=λi z iM=>by obtain⟨v1,e1,r1⟩:=ry.at iM;obtain⟨w1,e2,r2⟩:=vy.get e1;exact⟨w1,e2,λc hc=>Hk I (by show X.A.units+1+9<_;lia) hc r1 rx r2 qx⟩
 have ln:its.length=ys.length:=by rw[<- vy.length,ry.len]
 let ee:Value->Bool:=λw'=>decide (∃(i:Nat)(z:T),ys[i]?=some z/\its[i]?=some w'/\eqT 9 z x=some true)
 refine SeqAt.notIn_listAt ee pl.isList (λw' hw=>?_) ?_
 .have lQ:=by simpa using hw
  obtain⟨i,hi,ei⟩:=pZ lQ;have jg:its[i]?=some w':=by rw[nO hi,ei]
  by_cases h:∃(i:Nat)(z:T),ys[i]?=some z/\its[i]?=some w'/\eqT 9 z x=some true
  .obtain⟨i,z,g1,g2,g3⟩:=id h;obtain⟨w1,f1,f2⟩:=key i z g1;rw[g2]at f1;cases f1;rw[show ee w'=true from oO h];exact f2 true g3
  .have gy:ys[i]?=some (ys[i]'(by lia)):=nO (by lia);obtain⟨c,ec⟩:=h1 i _ gy;obtain⟨w1,f1,f2⟩:=key i _ gy;rw[jg]at f1;cases f1;rw[show ee w'=false from oF h];cases c with|true=>exact(h ⟨i,_,gy,jg,ec⟩).elim|false=>exact f2 false ec
 .have:its.toArray.any ee=b:=by
   rw[pC,h2];simp only[List.any_toArray,qI];constructor
   .rintro⟨w',_,h⟩
    obtain⟨i,z,g1,_,g3⟩:=oj h;exact⟨i,z,g1,g3⟩
   .rintro⟨i,z,g1,g3⟩
    obtain⟨w1,f1,_⟩:=key i z g1;exact⟨w1,pJ f1,oO ⟨i,z,g1,f1,g3⟩⟩
  rwa[this]
meta theorem Wc(hu:X.A.units+61<cLine):OpF X.K Z (λx y H Q=>∃b,NinS X H x y b/\Q (.v !b) H) MP:=by
 intro F B H U fs x y u w Q ok rx ry s;unfold MP at s;split at s
 .rename_i t;split at s
  next b e=>rw[ot]at e;obtain⟨ys,e1,e2⟩:=e;obtain⟨p,vs,rfl,hq,r⟩:=AN ok ry e1;exact⟨b,Rj hu e2 rx hq r,s F H _ Le.refl (RR.of ok rfl)⟩
  .exact s.elim
 .exact s.elim
theorem Xb(hu:X.A.units+61<cLine)(ha:FE X Z a fa)(hb:FE X Z b fb)(hm:behindInMarks .NotIn b=false:=by rfl):FT X Z (.Compare a [.NotIn] [b] pos) (asB (Ag MP fa fb)):=C6 (Wc hu) V5 ha hb hm
theorem Wh(hu:X.A.units+191<cLine):OpF X.K Z (rEqS X false) MT:=by
 intro F B H U fs x y u w Q ok rx ry s;unfold MT at s;split at s
 .rename_i xs ys e1 e2;split at s
  .rename_i b e3;obtain⟨a,vs,rfl,sx,r1⟩:=Bs rx e1;obtain⟨a',ws,rfl,sy,r2⟩:=Bs ry e2;refine⟨_,λaa U s u w I qx qy=>?_,s F H _ Le.refl (RR.of ok rfl)⟩;cases qx;cases qy;obtain⟨its,vx,ht,_⟩:=I.tuple sx;obtain⟨aH,dh,cY,_⟩:=I.tuple sy;have l1:its.length=xs.length:=by rw[<- vx.length,r1.len]
   have l2:aH.length=ys.length:=by rw[<- dh.length,r2.len]
   have:=SeqAt.RcAt.tuples ht cY (by lia) (items_eqAt e3 r1 r2 vx dh (λh r1 r2 o1 o2=>Hk I (A:=X.A.in1) (by show X.A.units+1+180<_;lia) h r1 r2 o1 o2));rwa[nV,nV,l1,l2,<- CZ e3]at this
  .exact s.elim
 .exact s.elim
theorem Xt(hu:X.A.units+191<cLine)(ha:FE X Z a fa)(hb:FE X Z b fb):FE X Z (.Compare a [.Eq] [b] pos) (Ag MT fa fb):=Jw (Wh hu) Oa ha hb (Cz _)
theorem hu191(hr:C8 k A):A.units+191<cLine:=by have:=hr.un;lia
end Lake.FL
namespace Lake.FL
open PySem PySem.Spec L2
def JaY:Tg->Tg
 |.q _ _ _=>.cl
 |t=>t
open Classical in
def Wd.look(F:Wd)(S:Addr->Prop):Wd:=⟨λb=>if S b then .fz else JaY (F.o b)⟩
def Wd.BH(F F2:Wd):Wd:=⟨λb=>match F.o b with|.q c i ρ=>.q c i ρ|.cl=>.cl|_=>F2.o b⟩
variable{K:Fg}{F F2:Wd}{H H' H2 H3:Hp}{B:sY}{fs:FS}{U:St}{j:Nat}{t:T}{S:Addr->Prop}{b:Addr}
theorem Jk(h:S b):(F.look S).o b=.fz:=by simp[Wd.look,h]
theorem Hb(h:¬S b):(F.look S).o b=JaY (F.o b):=by simp[Wd.look,h]
theorem Mj(e:F.o b=.q c i ρ):(F.BH F2).o b=.q c i ρ:=by simp only[Wd.BH,e]
theorem HS(hS:∀b,S b->∃ρ,F.o b=.q true j ρ)(hH:∀b,¬S b->H' b=H b):Le F H (F.look S) H' :=
  ⟨λb f=>have n:=λs=>let⟨_,e⟩:=hS b s;nomatch e.symm.trans f;⟨by show(F.look S).o b=_;rw[Hb n,show F.o b=_ from f];rfl,hH b n⟩,
   λb f=>have n:=λs=>let⟨_,e⟩:=hS b s;nomatch e.symm.trans f;⟨by show(F.look S).o b=_;rw[Hb n,show F.o b=_ from f];rfl,hH b n⟩⟩
theorem Okk.look(ok:Okk K F B H fs U)(hS:∀b,S b->∃ρ,F.o b=.q true j ρ)(hH:∀b,¬S b->H' b=H b)(hN:∀b,S b->H' b≠none)(e:U[j]?=some (some v))(rt:Ay K (F.look S) H' t v):Okk K (F.look S) B H' ((Ck fs).set j (some (.val t))) U:=by
 refine⟨by simp[Ck,ok.ln],λi s es=>?_,λb z=>?_⟩
 .rw[qj]at es;split at es
  .rename_i fA;subst fA;split at es
   .cases es;exact⟨v,e,rt⟩
   .cases es
  .rw[Ck,ou,nY]at es;obtain⟨x,ex,es⟩:=es;split at es
   .cases es;exact let⟨w,e1,r⟩:=ok.sl _ _ ex;⟨w,e1,Ay.le (HS hS hH) r⟩
   .cases es
 .have n:=λs=>hN b s z
  rw[Hb n,ok.td b (hH b n▸z)];rfl
theorem Okk.BH(ok:Okk K F B H fs U)(hS:∀b,S b->∃ρ,F.o b=.q true j ρ)(hH:∀b,¬S b->H' b=H b)(l:Le (F.look S) H' F2 H2)(td:∀b,H2 b=none->F2.o b=.no)(h3:∀b,¬S b->H3 b=H2 b)(hs:∀b,S b->H3 b=H b):Okk K (F.BH F2) B H3 fs U/\Le F H (F.BH F2) H3:=by
 have l0:=(HS hS hH).trans l;have own:∀{b c i ρ},F.o b=.q c i ρ->H3 b=H b:=λ{b c i ρ} e=>by
  by_cases s:S b
  .exact hs b s
  .rw[h3 b s,(l.p b (by show(F.look S).o b=_;rw[Hb s,e];rfl)).2,hH b s]
 have nS:∀{b x},F.o b=x->(∀c i ρ,x≠.q c i ρ)->¬S b:=λe n s=>let⟨_,z⟩:=hS _ s;n _ _ _ (e.symm.trans z)
 have le:Le F H (F.BH F2) H3:=⟨λb f=>have n:=nS f (λ_ _ _=>nofun);⟨by show(F.BH F2).o b=_;simp only[Wd.BH,show F.o b=_ from f];exact(l0.f b f).1,by rw[h3 b n];exact(l0.f b f).2⟩,
  λb f=>have n:=nS f (λ_ _ _=>nofun);⟨by show(F.BH F2).o b=_;simp only[Wd.BH,show F.o b=_ from f],by rw[h3 b n];exact(l0.p b f).2⟩⟩
 refine⟨ok.to le.f (λb i ρ z=>⟨Mj z,own z⟩) λb z=>?_,le⟩;cases e:F.o b with|q c i ρ=>exact nomatch e.symm.trans (ok.td b (own e▸z))|cl=>exact nomatch e.symm.trans (ok.td b ((le.p b e).2▸z))|fz=>exact nomatch e.symm.trans (ok.td b ((le.f b e).2▸z))|no=>simp only[Wd.BH,e];exact td b ((h3 b (nS e (λ_ _ _=>nofun)))▸z)
meta theorem Xj(j:Nat)(he:FE X Z e f):FE X Z e (DY j f):=by
 refine Ax he λU H Q aj=>?_
 obtain⟨F,B,fs,ok,s⟩:= aj;unfold DY at s;split at s
 .rename_i o eo;obtain⟨u,e1,q⟩:=ok.own eo;have hS:∀b,(∃ρ,F.o b=.q true j ρ)->∃ρ,F.o b=.q true j ρ:=λ_ h=>h
  have l:=HS (H':=H) hS λ_ _=>rfl
  refine⟨_,B,_,ok.look hS (λ_ _=>rfl) (λb h z=>by obtain⟨ρ,h⟩:=h;exact nomatch h.symm.trans (ok.td b z)) e1 (q.frz (λa ρ z=>⟨Jk ⟨_,z⟩,rfl⟩) l.f),?_⟩;cases ef:f ((Ck fs).set j (some (.val (toT o))))with
  |exc c τ=>rw[ef]at s;exact Z.mono s l
  |bad=>rwa[ef]at s
  |ok r τ =>
   rw[ef]at s;cases r with
   |nw t=>exact s.elim
   |x t=>exact s.elim
   |t t =>
    dsimp only at s;split at s
    .rename_i ha;intro F2 H2 w l2 q2;obtain⟨bG,l3⟩:=ok.BH hS (λ_ _=>rfl) l2 q2.1.td (λ_ _=>rfl) λb h=>(l2.f b (Jk h)).2
     exact s _ H2 w l3 ⟨bG,(Ay.atom ha q2.2).1⟩
    .exact s.elim
 .exact s.elim
theorem Lc:∀{af:List (Key×V)}{os:List FO},Hu (af.map (·.1)) os k=some o->∃(n:Nat)(v:V),os[n]?=some o/\(af.map (·.2))[n]?=some v/\J6 af k=some v/\∀x,IU (af.map (·.1)) os k x=os.set n x
 | [],os,e=>by cases os<;>simp[Hu]at e
 |(g,v)::af,[],e=>by simp[Hu]at e
 |(g,v)::af,o1::os,e=>by
  simp only[nQ,Hu,IU]at e ⊢;by_cases hb:g=k
  .rw[if_pos hb]at e;cases e;exact⟨0,v,rfl,rfl,Eb hb,λ_=>by rw[if_pos hb];rfl⟩
  .rw[if_neg hb]at e;exact let⟨n,w,h1,h2,h3,h4⟩:=Lc e;⟨n+1,w,h1,h2,by rw[Ec hb];exact h3,λx=>by rw[if_neg hb,h4 x];rfl⟩
meta theorem RY(hu:X.A.units+1<cLine)(c:Cls X.K C)(n:AH X.K C f)(i jy jz:Nat)(hx:PE X (.Name x p1) (Kb i))(hy:PE X (.Name y p3) (Kb jy))(hz:PE X (.Name z p5) (Kb jz))(hv:FE X Z v fv)(cO:Zab X.env (.Name x p1) f:=by rfl)
  (hs:swapsWith v (some (.Subscript (.Subscript (.Attribute (.Name x p1) f p2) (.Name y p3) p4) (.Name z p5) p6)) pos.line X.env=pure false:=by rfl) (hn:NoSl (.Name y p3):=by exact λ_ _=>rfl) :
  GS X Z (.Assign [.Subscript (.Subscript (.Attribute (.Name x p1) f p2) (.Name y p3) p4) (.Name z p5) p6] v pos) (dput2 C f i jy jz fv):=by
 refine BV (Ko hu (VX hu (EO (f:=f) hx cO) hy hn) hz hv hs) λD U H aj => ?_
 obtain⟨F,B,fs,ok,s⟩:= aj;refine⟨F,B,fs,ok,BS s λr ae F1 H1 u l q s1=>?_⟩;split at s1
 .rename_i t;split at s1
  .rename_i C' gs os eo;split at s1
   .rename_i yt ey;split at s1
    .rename_i zt ez;split at s1
     .rename_i hC;subst hC;split at s1
      .rename_i ks ds ef;split at s1
       .rename_i k ek;split at s1
        .rename_i k2 kD;split at s1
         .rename_i cK b6 ed;split at s1
          .rename_i bu;obtain⟨au,rt⟩:=q;obtain⟨a,dx,af,w,m,a1,hd,rfl,e1,r1,bk⟩:=au.fld eo ef;obtain⟨b,_,rfl,fb,⟨bg,aQ,rfl,rfl⟩,hl,rc⟩:=r1.inv rfl;obtain⟨n2,v2,g1,g2,g3,g4⟩:=Lc ed;obtain⟨c2,_,rfl,fc,⟨eZ,bN,rfl,rfl⟩,iU⟩:=(rc n2 _ v2 g1 g2).vals rfl;have slot:∀{j:Nat}{t':T}{kk:Key},ae[j]?=some (some (.val t'))->FH t'=some kk->U[j]?=some (some (kV kk)):=λ{j t' kk} ej et=>by obtain⟨uy,e6,ry⟩:=au.sl _ _ ej;cases CM et ry;exact e6
           have ne:∀{z j ρ},F1.o z=.q true j ρ->¬(j=i/\ρ=[n2,m])->z≠c2:=λh n e=>n (by rw[e,fc]at h;cases h;exact⟨rfl,rfl⟩)
           obtain⟨mj,mm⟩:=Fi (j:=k2) rt iU;have bx:=bk F1 (upd H1 c2 (.n (putK eZ k2 u))) (.dO (bg.map (·.1)) (IU (bg.map (·.1)) ds k (.n (GL (eZ.map (·.1)) b6 k2 t).1 (GL (eZ.map (·.1)) b6 k2 t).2))) (C4 fc).f (λz j ρ h h2=>⟨h,Al (ne h λq=>h2 [n2] q)⟩) (λz h=>au.td z (Bp h).2)
            (.nd rfl fb (by rw[Al (ne fb (by simp))];exact⟨bg,aQ,rfl,rfl⟩) (by rw[g4,List.length_set];exact hl) λj o v h1 h2=>by
             rw[g4,qj]at h1;by_cases hj:n2=j
             .subst hj;rw[if_pos rfl]at h1;split at h1
              .cases h1;rw[g2]at h2;cases h2;exact .of rfl fc (by rw[An];exact⟨_,rfl,mj,rfl⟩) (mm.le (C4 fc))
              .cases h1
             .rw[if_neg hj]at h1;exact(rc j o v h1 h2).skip fc λρ q=>hj (by have:=congrArg List.reverse q.2.2;simp at this;exact this.1))
           exact⟨_,a1,a,C',dx,af,.ref b,rfl,hd,c,n,e1,kV k,slot ey ek,b,.ref c2,rfl,by rw[<- g3];exact J1.k aQ,kV k2,slot ez kD,c2,_,rfl,Ng.k bN (by rw[nX]at bu;exact pE bu EV),s1 F1 _ U (C4 fc) bx⟩
          .exact s1.elim
         .exact s1.elim
        .exact s1.elim
       .exact s1.elim
      .exact s1.elim
     .exact s1.elim
    .exact s1.elim
   .exact s1.elim
  .exact s1.elim
 .exact s1.elim
end Lake.FL
namespace Lake.FL
open PySem PySem.Spec L2
theorem LB:∀{os:List FO}{j:Nat},(Nc A j os).length=os.length
 | [],_=>rfl
 |o::os,j=>by cases o<;>simp[Nc,LB]
theorem OG:∀{os:List FO}{j k:Nat}{o':FO},(Nc A j os)[k]?=some o'->∃o,os[k]?=some o/\((∃ts,o=.lst ts/\o'=.la (A (j+k)) ts)\/o'=o)
 | [],_,_,_,e=>by simp[Nc]at e
 |o::os,j,0,o',e=>by cases o<;>(simp only[Nc]at e;cases e;exact⟨_,rfl,by simp⟩)
 |o::os,j,k+1,o',e=>by
  have e:=by cases o<;>simpa[Nc]using e
  rw[show j+(k+1)=j+1+k by lia];exact OG e
theorem WH{os:List FO}(h:A6 K F H b i π (.ins C gs os) v):∃A,A6 K F H b i π (.ins C gs (Nc A 0 os)) v:=by
 obtain⟨a,vs,rfl,f,hs,l,rc⟩:=h.inv rfl;refine⟨λn=>match vs[n]? with|some (.ref a)=>a|_=>0,.nd rfl f hs (by rw[LB];exact l) λk o' v e1 e2=>?_⟩;obtain⟨o,e3,h|rfl⟩:=OG e1
 .obtain⟨ts,rfl,rfl⟩:=h;obtain⟨a',us,rfl,f',bK,r⟩:=(rc k _ v e3 e2).vals rfl;exact .of rfl f' ⟨by simp[e2],bK⟩ r
 .exact rc k _ v e3 e2
variable{k p:Nat}
theorem MV{pl:Sem Bool}(G:Yf X.prog X.w X.K X.mg X.base (CX1 X.prog X.w) C m k ps (spX X.K p Fn))(hr:C8 k X.A)(lk:Lks X Z)(ho:FE X Z o fo)(ha:FAn X Z (e::es) fa)
  (dJ:Zsc X.env e es:=by rfl) (aC:Zbt X.env pos es:=by rfl)
  (ht:eval (.Call (.Attribute o m aA) (e::es) [] pos) X.env=(do
   let ov <- eval o X.env
   standAt aA.atName
   let(f,first) <- holding [ov] (getMethod ov m pl)
   callWith pos f first (backTo pos (starEach (e::es) X.env)) (backToKw pos (keywordEach [] X.env))):=by rfl) :
  FE X Z (.Call (.Attribute o m aA) (e::es) [] pos) (newMeth C m p Fn fo fa):=by
 refine Ax (T9 G hr lk ho ha dJ aC ht) λU H Q aj => ?_
 obtain⟨F,B,fs,ok,s⟩:= aj;refine⟨F,B,fs,ok,Ar s λr ae F1 H1 u l q s1=>?_⟩;split at s1
 .rename_i C' gs os;split at s1
  .rename_i hC;obtain⟨rfl,hm⟩:=hC;obtain⟨a,_,rfl,_,⟨dx,af,hd,rfl,rfl⟩,_⟩:=A6.inv (show A6 _ _ _ false 0 [] (.ins C' gs os) u from q.2) rfl;refine⟨a,dx,af,rfl,hd,F8 hm,LJ q s1 λrs aq F2 H2 us _ ra s2=>?_⟩;split at s2
   .rename_i cN;obtain⟨A,rA⟩:=WH (ra.2.2 0 _ _ rfl rfl);rw[<- cN A]at s2;unfold Ae at s2;split at s2
    next hp=>rw[<- hp];exact Gw ⟨ra.1,by simpa using ra.2.1,λk r v e1 e2=>by cases k with|zero=>cases e1;cases e2;exact rA|succ k=>exact ra.2.2 (k+1) r v e1 e2⟩ s2
    .exact s2.elim
   .exact s2.elim
  .exact s1.elim
 .exact s1.elim
theorem Ve(ok:Okk K F B H fs U)(e:U[j]?=some (some (.ref a)))(f:F.o a=.q true j [])(ha:H a=some x)(rt:∀l:Le F H (F.look (·=a)) (upd H a y),Ay K (F.look (·=a)) (upd H a y) t (.ref a)):
  Okk K (F.look (·=a)) B (upd H a y) ((Ck fs).set j (some (.val t))) U/\∀F2 H2,Le (F.look (·=a)) (upd H a y) F2 H2->(∀b,H2 b=none->F2.o b=.no)->H2 a=some y/\Okk K (F.BH F2) B (upd H2 a x) fs U/\Le F H (F.BH F2) (upd H2 a x)/\∀b,b≠a->F2.o b≠.cl->(F.BH F2).o b=F2.o b:=by
 have hS:∀b,b=a->∃ρ,F.o b=.q true j ρ:=λb h=>⟨[],h▸f⟩
 have hH:∀b,¬b=a->upd H a y b=H b:=λb h=>Al h
 refine⟨ok.look hS hH (λb h=>by rw[h,An];nofun) e (rt (HS hS hH)),λF2 H2 l td=>?_⟩;obtain⟨bG,l3⟩:=ok.BH hS hH l td (λb h=>Al h) λb h=>by rw[h,An,ha]
 refine⟨(l.f a (Jk rfl)).2.trans An,bG,l3,λb hb hc=>?_⟩;have q:=l.p b;cases e:F.o b with|q c i ρ=>exact(hc (q (by show(F.look _).o b=_;rw[Hb (S:=(·=a)) hb,e];rfl)).1).elim|cl=>exact(hc (q (by show(F.look _).o b=_;rw[Hb (S:=(·=a)) hb,e];rfl)).1).elim|fz=>simp only[Wd.BH,e]|no=>simp only[Wd.BH,e]
mutual
def noS:T->Bool
 |.tup ts=>DO ts
 |.lst ts=>DO ts
 |.zX _=>false
 |.n _ ts=>DO ts
 |.dT _ ts=>DO ts
 |.ins _ _ ts=>DO ts
 |.dF _ ts=>DO ts
 |_=>true
def DO:List T->Bool
 | []=>true
 |t::ts=>noS t&&DO ts
end
mutual
def Qn:FO->Bool
 |.val t=>noS t
 |.lst ts=>DO ts
 |.n _ ts=>DO ts
 |.dT _ ts=>DO ts
 |.ins _ _ os=>FX os
 |.yu os=>FX os
 |.yr os=>FX os
 |.dO _ os=>FX os
 |.la _ ts=>DO ts
def FX:List FO->Bool
 | []=>true
 |o::os=>Qn o&&FX os
end
def DN(j:Nat)(f:sT):sT:=λfs=>match fs[j]? with|some (some (.own (.lst ts)))=>(match f ((Ck fs).set j (some (.val (.zX ts))))with|.ok (.nw o) _=>if Qn o=true then .ok (.nw o) fs else .bad|_=>.bad)|_=>.bad
mutual
theorem Ay.noS(hF:∀b u,F b->H b=some u->(∀x,u≠.frz x (.lst xs))->F' b/\H' b=some u):∀{t:T}{v:V},noS t=true->Ay K F H t v->Ay K F' H' t v
 |.l,_,_,h|.v _,_,_,h|.int _,_,_,h|.str _,_,_,h=>h
 |.tup ts,_,e,h=>by simp only[Ay]at h ⊢;exact let⟨a,vs,e1,s,r⟩:=h;⟨a,vs,e1,⟨rfl,hF a _ s.2.1 s.2.2 (λ_=>nofun)⟩,Ah.noS hF e r⟩
 |.lst ts,_,e,h=>by simp only[Ay]at h ⊢;exact let⟨a,vs,e1,f,s,r⟩:=h;have q:=hF a _ f s (λ_=>nofun);⟨a,vs,e1,q.1,q.2,Ah.noS hF e r⟩
 |.zX _,_,e,_=>by cases e
 |.n ks ts,_,e,h=>by
  simp only[Ay]at h ⊢;obtain⟨a,af,e1,f,s,k,r⟩:=h;rcases s with s|⟨o,s⟩
  .exact have q:=hF a _ f s (λ_=>nofun);⟨a,af,e1,q.1,.inl q.2,k,Ah.noS hF e r⟩
  .exact have q:=hF a _ f s (λ_=>nofun);⟨a,af,e1,q.1,.inr ⟨o,q.2⟩,k,Ah.noS hF e r⟩
 |.dT ks ts,_,e,h=>by simp only[Ay]at h ⊢;exact let⟨a,af,e1,f,s,k,r⟩:=h;have q:=hF a _ f s (λ_=>nofun);⟨a,af,e1,q.1,q.2,k,Ah.noS hF e r⟩
 |.ins C fs ts,_,e,h=>by simp only[Ay]at h ⊢;exact let⟨a,dx,af,e1,f,s,k,r⟩:=h;have q:=hF a _ f s (λ_=>nofun);⟨a,dx,af,e1,q.1,q.2,k,Ah.noS hF e r⟩
 |.dF ks ts,_,e,h=>by simp only[Ay]at h ⊢;exact let⟨a,af,e1,f,⟨o,s⟩,k,r⟩:=h;have q:=hF a _ f s (λ_=>nofun);⟨a,af,e1,q.1,⟨o,q.2⟩,k,Ah.noS hF e r⟩
 |.ze c,_,e,h=>by simp only[Ay]at h ⊢;exact let⟨a,C,e1,f,s,k⟩:=h;have q:=hF a _ f s (λ_=>by unfold exO;nofun);⟨a,C,e1,q.1,q.2,k⟩
theorem Ah.noS(hF:∀b u,F b->H b=some u->(∀x,u≠.frz x (.lst xs))->F' b/\H' b=some u):∀{ts:List T}{vs:List V},DO ts=true->Ah K F H ts vs->Ah K F' H' ts vs
 | [],_,_,h=>h
 |t::ts,_,e,h=>by simp only[DO,oy]at e;exact let⟨v,r,e1,h1,h2⟩:=h;⟨v,r,e1,Ay.noS hF e.1 h1,Ah.noS hF e.2 h2⟩
end
theorem Lx:∀{os:List FO}{k:Nat}{o:FO},FX os=true->os[k]?=some o->Qn o=true
 | [],_,_,_,e=>by simp at e
 |o::os,k,o',h,e=>by simp only[FX,oy]at h;cases k with|zero=>cases e;exact h.1|succ k=>exact Lx h.2 e
theorem Lw:∀ts:List T,FX (ts.map .val)=DO ts
 | []=>by simp[FX,DO]
 |t::ts=>by simp[FX,DO,Qn,Lw ts]
theorem Wm{os:List FO}(e:o.vw=some (sh,os))(h:Qn o=true):FX os=true:=by cases o<;>cases e<;>simpa only[Qn,Lw]using h
theorem A6.noS(hF:∀b u,F b->H b=some u->(∀x,u≠.frz x (.lst xs))->F' b/\H' b=some u)(hm:∀a ρ,F.o a=.q b i ρ->F'.o a=.q b i ρ/\H' a=H a)(e:Qn o=true)(h:A6 K F H b i π o v):A6 K F' H' b i π o v:=by induction h with|val r=>simp only[Qn]at e;exact .val (r.noS hF e)|nd ev f hs n c ih=>exact have q:=hm _ _ f;.nd ev q.1 (q.2▸hs) n λk o v e1 e2=>ih k o v e1 e2 (Lx (Wm ev e) e1)
theorem Sk(j:Nat)(he:FE X Z e f):FE X Z e (DN j f):=by
 refine Ax (Ra he) λU H Q aj=>?_
 obtain⟨F,B,fs,ok,s⟩:= aj;unfold DN at s;split at s
 .rename_i ts es;obtain⟨u,e1,q⟩:=ok.sl _ _ es;obtain⟨a,xs,rfl,fa,ha,iU⟩:=A6.vals q rfl;refine⟨a,xs,ha,λo=>?_⟩;obtain⟨au,bk⟩:=Ve (t:=.zX ts) ok e1 fa ha λl=>by exact⟨a,xs,rfl,.inl ⟨Jk rfl,.inr ⟨o,An⟩⟩,iU.le l⟩
  refine⟨_,B,_,au,?_⟩;cases ef:f ((Ck fs).set j (some (.val (.zX ts))))with
  |exc c τ=>rw[ef]at s;exact s.elim
  |bad=>rwa[ef]at s
  |ok r τ =>
   rw[ef]at s;cases r with
   |x t=>exact s.elim
   |t t=>exact s.elim
   |nw t =>
    dsimp only at s;split at s
    .rename_i hn;intro F2 H2 w l2 q2;obtain⟨jq,bG,l3,k3⟩:=bk F2 H2 l2 q2.1.td;refine⟨jq,s _ _ w l3 ⟨bG,A6.noS (xs:=xs) (λb u fb z nx=>?_) (λb ρ z=>?_) hn q2.2⟩⟩
     .have hb:b≠a:=λy=>by rw[y,jq]at z;cases z;exact nx o rfl
      exact⟨(k3 b hb (by rw[show F2.o b=_ from fb];nofun)).trans fb,(Al hb).trans z⟩
     .have hb:b≠a:=λy=>by rw[y,((l2.f a (Jk rfl)).1)]at z;cases z
      exact⟨(k3 b hb (by rw[z];nofun)).trans z,Al hb⟩
    .exact s.elim
 .exact s.elim
end Lake.FL
namespace Lake.FL
open PySem PySem.Spec PyProof.Rows L2
def tgs:Expr->List Str
 |.Name y _=>[y]
 |.Tuple es _ _=>es.filterMap λe=>match e with|.Name y _=>some y|_=>none
 |_=>[]
def nOf(M:List Str):List Str->List (Option Nat)->List Str
 |_,[]=>[]
 |t,some i::r=>M.getD i ""::nOf M t r
 |t::u,none::r=>t::nOf M u r
 | [],none::r=>nOf M [] r
def ndB:List Str->Bool
 | []=>true
 |x::r=>!r.contains x&&ndB r
theorem Jan:∀{l:List Str},ndB l=true->l.Nodup
 | [],_=>oS
 |x::r,h=>by simp only[ndB,oy,Bool.not_eq_true',List.contains_eq_mem,decide_eq_false_iff_not]at h;exact oK.mpr ⟨h.1,Jan h.2⟩
theorem Xv{new:Bool}{src:sZ}(aI:X.calm=true)(hi:FI X Z tg av fi)(hg:∀cl C s H fp,GT (Bn X (nOf X.N (tgs tg) src) sc cl C s H fp) tg gt)(ht:∀cl C s H fp,FIf (Bn X (nOf X.N (tgs tg) src) sc cl C s H fp) bj ft)
  (he:∀cl C s H fp,FE (Bn X (nOf X.N (tgs tg) src) sc cl C s H fp) Xp.no elt fe) (hS:EU X.env.scope sc=true:=by rfl) (aT:Ea X.N sc (nOf X.N (tgs tg) src) src=true:=by rfl)
  (hs:Zfs X.env av:=by intro _;rfl):FE X Z (.ListComp elt [⟨tg,av,bj,0⟩] sc pos) (AL new src fi gt ft fe):=Xu new _ src aI hi hg ht he hS aT hs
theorem W0{new:Bool}{i:Nat}{src:sZ}{y:Str}{aP b4:Pos}(aI:X.calm=true)(hN:X.N.Nodup)(hy:Loc X.env.scope y)(hi:FI X Z tg av fi)(hg:∀cl C s H fp,GT (Bn X (nOf X.N (tgs tg) src) sc cl C s H fp) tg gt)(ht:∀cl C s H fp,FIf (Bn X (nOf X.N (tgs tg) src) sc cl C s H fp) bj ft)
  (he:∀cl C s H fp,FE (Bn X (nOf X.N (tgs tg) src) sc cl C s H fp) Xp.no elt fe) (fS:X.N[i]?=some y:=by rfl) (hS:EU X.env.scope sc=true:=by rfl) (aT:Ea X.N sc (nOf X.N (tgs tg) src) src=true:=by rfl)
  (hs:Zfs X.env av:=by intro _;rfl) (gf:swapsWith (.ListComp elt [⟨tg,av,bj,0⟩] sc pos) (some (.Name y aP)) b4.line X.env=pure true:=by rfl)
  (hf:X.fn y=true\/X.env.scope.names.lookup y=some .local:=by first|exact .inl rfl|exact .inr rfl|assumption) :
  GS X Z (.Assign [.Name y aP] (.ListComp elt [⟨tg,av,bj,0⟩] sc pos) b4) (Av i (AL new src fi gt ft fe)):=MN new i _ src aI hN hy hi hg ht he fS hS aT hs gf hf
end Lake.FL
namespace Lake.FL
open PySem PySem.Spec L2
def Vr(ss:Option (List Str))(fs:FS):Out Rv:=match ss with|some ss=>if ss.length<64 then .ok (.nw (.lst ((So.srt ss).map T.str))) fs else .bad|none=>.bad
def Jr:List Rv->sT
 | [x],fs=>Vr ((GP fs x).bind λp=>CG (p.1.map J0)) fs
 |_,_=>.bad
theorem K8{K:Fg}{F:Wd}{H:Hp}:∀ss:List Str,Ah K F H (ss.map T.str) (ss.map V.str)
 | []=>by simp[Ah]
 |s::ss=>by simp only[nQ,Ah];exact⟨_,_,rfl,by simp[Ay],K8 ss⟩
theorem Jm:∀{ks:List Key}{ss:List Str},CG (ks.map J0)=some ss->ks.map kV=ss.map V.str
 | [],_,e=>by cases e;rfl
 |.inl i::r,_,e=>by simp[CG,J0]at e
 |.inr x::r,_,e=>by simp only[nQ,J0,CG,nY]at e;obtain⟨ns,e,rfl⟩:=e;rw[nQ,Jm e];rfl
theorem SR:B1 K Z (λxs H Q=>∃a af ss,xs=[.ref a]/\Rd H a (.n af)/\(af.map λkv=>kV kv.1)=ss.map V.str/\ss.length<64/\∀l,H l=none->Q (.ref l) (upd H l (.lst ((So.srt ss).map V.str)))) Jr:=by
 intro F B H U fs rs vs Q ok q s;unfold Jr Vr at s;split at s
 .obtain⟨v,rfl,qq⟩:=AO q;split at s
  .rename_i ss e;rw[ot]at e;obtain⟨p,e,e2⟩:=e;obtain⟨a,af,rfl,hd,ek,r⟩:=Fq (ks:=p.1) (ts:=p.2) ok qq e;split at s
   next c=>refine⟨a,af,ss,rfl,hd,?_,c,λp hp=>CN ok hp s rfl rfl (K8 _)⟩;rw[<- Jm e2,<- ek,om];rfl
   .exact s.elim
  .exact s.elim
 .exact s.elim
theorem Sm(hc:X.calm=true)(hm:X.mg "sorted"=none)(ha:FA X Z [a] fa)(hg:Gl X "sorted":=by rfl)(he:Zs1 X.env a:=by rfl):FE X Z (.Call (.Name "sorted" p) [a] [] pos) (Ad Jr fa) :=
 CS SR (JI hc) hm PyProof.Rows.boot_sorted ha (hg:=hg) (he:=he)
def nwV(f:sT):sT:=λfs=>(f fs).bind λr fs=>match r with|.t t=>.ok (.nw (.val t)) fs|_=>.bad
theorem Jbu{X:Cx}{Z:Xp}{e:Expr}{f:sT}(h:FE X Z e f):FE X Z e (nwV f):=by
 refine Ax h λU H Q aj => ?_
 obtain⟨F,B,fs,ok,s⟩:= aj;refine⟨F,B,fs,ok,?_⟩;refine Ar s λr fs F' H' u l q s=>?_
 cases r with|t t =>exact s F' H' u Le.refl ⟨q.1,.val q.2⟩|nw o=>exact s.elim|x i=>exact s.elim
def MR:Rv->List Rv->sT
 |x,[.t (.str z)],fs=>match(Bw fs x).bind CG with
  |some ss=>match ss.findIdx? (·==z)with|some j=>okT (.int ((j:Nat):Int)) fs|none=>.bad
  |none=>.bad
 |_,_,_=>.bad
theorem Ou{K:Fg}{Z:Xp}:MtF K Z (λx vs H Q=>∃(l:Addr)(ss:List Str)(z:Str)(j:Nat),x=.ref l/\vs=[.str z]/\SqL K H l (ss.map V.str)/\ss[j]?=some z/\(∀m,m<j->ss[m]?≠some z)/\Q (.int ((j:Nat):Int)) H) MR:=by
 intro F B H U fs x rs u vs Q ok rx q s;unfold MR at s;split at s
 .rename_i z;obtain⟨v,rfl,qq⟩:=AO q;have q':v=V.str z:=by simpa only[Cv,Ay]using qq
  subst q';split at s
  .rename_i bs e;rw[ot]at e;obtain⟨ts,e1,e2⟩:=e;obtain⟨a,us,rfl,hs,r⟩:=AN ok rx e1;rw[GB e2]at r;rw[Ah.strs r]at hs;split at s
   next j ej=>obtain⟨hj,h1,h2⟩:=qg.mp ej;refine⟨a,bs,z,j,rfl,rfl,hs,by rw[nO hj];exact congrArg some (by simpa using h1),λm hm=>?_,s F H _ Le.refl (RR.of ok rfl)⟩;have:=h2 m hm;rw[nO (pE hm hj)];simpa using this
   .exact s.elim
  .exact s.elim
 .exact s.elim
end Lake.FL
namespace Lake.Sy
open PySem PySem.Spec L2 FL
abbrev xrs:List Str:=["BadCount","TooLong"]
abbrev xds:List Str:=["BadCount","BadKind","BadName","BadText","Groundless","NoFunction","NoKind","NoMaker","NoName","NoPlace","NoSaying","NotLess","NotShown","SayError","TooLong","Twice"]
def GK(c d:Str):Bool:=c==d||d == "SayError"
def top(i:Nat):Stmt:=PySem.Challenge.pw_stairsay_k21_runs.main.body.getD i (.Pass ⟨0,0,0,0⟩)
structure Tx(K:Fg)(mg:Zsv)(ao:Addr)(ah:Addr)(ai:Addr)(ag:Addr):Prop where
 zc:mg "ValueError"=none
 yB:mg "all"=none
 yA:mg "any"=none
 yX:mg "dict"=none
 yz:mg "int"=none
 zU:mg "isinstance"=none
 yy:mg "len"=none
 zk:mg "list"=none
 yI:mg "max"=none
 yx:mg "min"=none
 yU:mg "range"=none
 zG:mg "reversed"=none
 yL:mg "sorted"=none
 yw:mg "str"=none
 yv:mg "sum"=none
 zj:mg "tuple"=none
 yR:mg "zip"=none
 yO:∃t,mg "LETTERS"=some (.str ("abcdefghijklmnopqrstuvwxyz":Str) t)
 zP:∃t,mg "MOST_ARGUMENTS"=some (.int 3 t)
 zw:∃t,mg "MOST_DEEP"=some (.int 40 t)
 zT:∃t,mg "MOST_DEEP_CALLS"=some (.int 20 t)
 zC:∃t,mg "MOST_KINDS"=some (.int 4 t)
 zK:∃t,mg "MOST_LETTERS"=some (.int 12 t)
 zE:∃t,mg "MOST_MAKERS"=some (.int 4 t)
 zB:∃t,mg "MOST_PARTS"=some (.int 2 t)
 zv:∃t,mg "MOST_SIZE"=some (.int 300 t)
 zz:Cls K ao
 zR:Cls K ah
 yZ:Cls K ai
 yY:Cls K ag
 zu:AH K ah "heads"
 zY:AH K ah "rows_by_function"
 zr:AH K ah "stock"
 zS:AH K ao "calls_left"
 zo:AH K ao "program"
 zJ:AH K ao "waiting"
 zD:AH K ao "worths"
 zm:AH K ai "heads"
 zM:AH K ai "kinds_by_name"
 zq:AH K ai "lessers"
 zb:AH K ai "own"
 zl:AH K ai "stock"
 zL:AH K ag "home_by_maker"
 zO:AH K ag "makers_by_kind"
 zN:AH K ag "parts_by_maker"
 xt:JZ K mg xrs xds GK
abbrev xL(s:Str):=gc (.str s)
abbrev xa(i:Int):=gc (.int i)
abbrev xb(f:sT)(a0 a1 a2:sT):=Ad (Ae 3 f) (Ac a0 (Ac a1 (Ac a2 Af)))
abbrev xc(f:sT)(a0 a1:sT):=Ad (Ae 2 f) (Ac a0 (Ac a1 Af))
abbrev xf(f:sT)(a0 a1 a2 a3:sT):=Ad (Ae 4 f) (Ac a0 (Ac a1 (Ac a2 (Ac a3 Af))))
abbrev xg(f:sT)(a0 a1 a2 a3 a4:sT):=Ad (Ae 5 f) (Ac a0 (Ac a1 (Ac a2 (Ac a3 (Ac a4 Af)))))
abbrev xh(f:sT)(a0 a1 a2 a3 a4 a5 a6:sT):=Ad (Ae 7 f) (Ac a0 (Ac a1 (Ac a2 (Ac a3 (Ac a4 (Ac a5 (Ac a6 Af)))))))
abbrev xi(f:sT)(a0 a1 a2 a3 a4 a5:sT):=Ad (Ae 6 f) (Ac a0 (Ac a1 (Ac a2 (Ac a3 (Ac a4 (Ac a5 Af))))))
abbrev xj(f:sT)(a0:sT):=Ad (Ae 1 f) (Ac a0 Af)
def Dy:FS->SO :=
  (Aj (ifS (CJ (asB (chain gLe gLe (gc (.int 1)) (Ad AK (Ab (Aa 0) Af)) (gc (.int 12))))) (retS (gc (.v false))) nxS)
  (retS (Ad Yp (Ab (AL false [none] (itU (fz (Aa 0))) (tgN 0) C7 (Ag (CK false) (fz (Aa 0)) (gc (.str ("abcdefghijklmnopqrstuvwxyz":Str))))) Af))))
def AY:sT:=AX 0 (Dy)
abbrev qW:=fz (Aa 0)
abbrev qX:=fz (Aa 1)
abbrev qY:=fz (Aa 2)
abbrev qZ:=fz (Aa 3)
abbrev rg:=fz (Aa 4)
abbrev rh:=Ag Ap (Aa 3) (xa 1)
abbrev rj:=Ao Bm Af
abbrev rk:=Ai (tgN 5) (Ai (tgN 6) AB)
abbrev rm:=fz (Aa 7)
abbrev rn:=AD 2 (Ai (tgN 2) (Ai (tgN 3) AB))
abbrev rp:=AD 2 (Ai (tgN 4) (Ai (tgN 5) AB))
abbrev rq:=Ag Ap (Aa 3) (xa 0)
abbrev rB:=fz (Aa 5)
abbrev rC:=gc (.v false)
abbrev rD:=Ab (Aa 1) Af
abbrev rE:=Ad AK (Ab (Aa 0) Af)
abbrev rF:=Ai (tgN 7) (Ai (tgN 8) AB)
abbrev rG:=fz (Aa 6)
abbrev rH:=Aa 10
abbrev rJ:=fz (Aa 9)
abbrev rK:=Ag Ap (Aa 9) (xa 0)
abbrev rL:=Ag Ap (Aa 5) (xa 0)
abbrev rM:=Ag Ap (Aa 0) (xa 1)
abbrev rN:=tgN 0
abbrev rf:=AD 2 (Ai rN (Ai (tgN 1) AB))
abbrev rO:=Ab (Aa 4) Af
abbrev rP:=gc (.v true)
abbrev rQ:=fz (Aa 11)
abbrev rR:=fz (Ag Az (fz (Ad C5 (Ab rH Af))) (fz (Ad C5 (Ab (Aa 8) Af))))
abbrev rS:=xL "name"
abbrev rT:=Ag Ap (Aa 3) (xa 2)
abbrev rV:=Ag Ap (Aa 0) (xa 0)
abbrev rW:=Ai (tgN 6) (Ai (tgN 7) AB)
abbrev rX:=fz (Aa 8)
abbrev rY:=Ab (Aa 12) Af
abbrev rZ:=AD 5 (Ai (tgN 4) (Ai (tgN 5) (Ai (tgN 6) rF)))
abbrev r8:=fz (Aw Gi (Aa 3) Af)
abbrev sk:=Ad AK (Ab (Aa 6) Af)
abbrev sm:=fz (Aw Gi (Aa 7) Af)
abbrev so:=Ag Ap (Aa 6) (xa 0)
abbrev sr:=Ag Ap (Aa 3) (xa 3)
abbrev su:=Ag Ap (Aa 2) (xa 0)
abbrev sw:=Ag Ap (Aa 4) (xa 0)
abbrev sA:=gc .l
abbrev sB:=AD 2 (Ai (tgN 10) (Ai (tgN 11) AB))
abbrev sC:=asB (Ag (gEq false) rq (xL "make"))
abbrev sD:=Ab (xa 2) Af
abbrev sE:=asB (Ag (gEq false) (Aa 6) (xa 0))
abbrev sF:=Ad Ib (Ab (xa 0) (Ab (Aa 16) Af))
abbrev sG:=itU qX
abbrev sH:=Ag Ap (Aa 0) qX
abbrev sI:=asB (Ag (CK false) qY (Aa 1))
abbrev sJ:=Ai (tgN 9) (Ai (tgN 10) AB)
abbrev sK:=itU qW
abbrev sL:=slF (Aa 6) (Cy (xa 1)) noP
abbrev sM:=asB (Ag (gEq false) rq rS)
abbrev sN:=xL "call"
abbrev sO:=Yl (xa 1)
abbrev sP:=Aa 14
abbrev sQ:=fz rH
abbrev sR:=retS rC
def Qe:FS->SO :=
  (Aj (Av 3 (Ad Qo (Ab (AL false [none,some 0] (itR3 (Ab (Aa 1) (Ab (Ad Js (Ab rE (Ab (xa 63) Af))) (Ab (Aa 2) Af)))) rN C7 (Ag Ap (Aa 1) qW)) Af)))
  (Aj (Av 4 rj)
  (Aj (Av 5 (Ag Cu (Aa 3) (xa 2147483629)))
  (Aj (Av 6 (Ag GJ (Aa 3) (xa 2)))
  (Aj (BB (ES (Ab (xa 150) Af)) (tgN 7) (Aj (Av 5 (Ag Cu (Ag Az (Ag Az (Ag BQ (Aa 5) (Aa 5)) (Aa 3)) (Aa 7)) (xa 2147483629)))
  (Aj (Au (Aw ET (Aa 4) (Ab (Ag Cu (Ag Ap (Ao Be (Ab rG (Ab (Ag Cu (Ag BQ (Aa 5) (Aa 5)) (xa 2147483587)) Af))) (Ag Cu (Aa 3) (xa 2))) (xa 1000003)) Af)))
  (Av 6 (Ag GJ (Aa 6) (xa 1000003))))))
  (retS (Zr (Aa 4))))))))
def BR:sT:=AX 5 (Qe)
def L8:FS->SO :=
  (Aj (Av 2 (xL "abcdefghijklmnopqrstuvwxyz"))
  (Aj (Av 3 (Ag BQ (Ag Az (Ag Az (Ag BQ (Aa 0) (Aa 0)) (Aa 0)) (xa 1)) (xa 982451653)))
  (Aj (Av 4 (Ag Az (xa 1) (Ag Cu (Aa 3) (xa 12))))
  (Aj (Av 5 (Ag Cu (Ag GJ (Aa 3) (xa 12)) (Aa 4)))
  (Aj (Av 6 (AL false [none,some 2,some 3] (ES rO) rN C7 (Ag Ap (Aa 1) (Ag Cu (Ag Az (Ag GJ (Aa 2) (Ag Az (Aa 0) (xa 5))) (Ag BQ (Aa 0) (Aa 0))) (xa 26)))))
  (Aj (Av 7 (Ag Ap (Ao Be (Ab (xa 1) (Ab (xa 3) (Ab (xa 5) (Ab (xa 7) (Ab (xa 9) (Ab (xa 11) Af))))))) (Ag Cu (Ag GJ (Aa 3) (xa 144)) (xa 6))))
  (Aj (Av 8 rj)
  (Aj (BB (ES rD) (tgN 9) (Aj (Av 10 (Ag Ap (Aa 2) (Ag Cu (Ag Az (Ag GJ (Aa 3) (xa 864)) (Ag BQ (Aa 9) (Aa 7))) (xa 26))))
  (ifS (asB (Ag (gEq false) (Ag Cu (Ag GJ (Aa 3) (xa 900)) (xa 3)) (xa 1))) (Au (Aw ET (Aa 8) (Ab (Ag BQ so (Ag Az (Ag Cu (Ag Az (Aa 9) (Ag GJ (Aa 3) (xa 7))) (xa 12)) (xa 1))) Af))) (Au (Aw ET (Aa 8) (Ab (Ag Az (Ag Az (fz (Rq KA (xL "") (Ab (slF (Aa 6) noP (Cy (Aa 5))) Af))) rH) (fz (Rq KA (xL "") (Ab (slF (Aa 6) (Cy (Ag Az (Aa 5) (xa 1))) noP) Af)))) Af))))))
  (retS (Aa 8))))))))))
def Ci:sT:=AX 9 (L8)
def M9:FS->SO :=
  (Aj (ifS (asB (Ag gLt (Aa 1) rE)) (retS sH) nxS)
  (retS (xa 0)))
def AJ:sT:=AX 0 (M9)
def Tc:FS->SO :=
  (Aj (Av 4 (Ag Ap (Ao Be (Ab (xa 0) (Ab (xa 1) (Ab (xa 1) sD)))) (Ag Cu r8 (xa 4))))
  (Aj (Av 5 (Ao Be (Ab r8 (Ab r8 Af))))
  (Aj (Av 6 rE)
  (Aj (ifS (DL (Aa 2)) (Av 6 qX) nxS)
  (Aj (ifS sE (retS (Ao AW Af)) nxS)
  (retS (Ad Bv (Ab (AL false [none,some 0,some 6,some 5] (ES rO) rN C7 (Ag Ap (Aa 1) (Ag Cu (Ag Ap (Aa 3) qW) (Aa 2)))) Af))))))))
def Fo:sT:=AX 3 (Tc)
def Ma:FS->SO :=
  (Aj (Av 1 (xb BR qW (xa 0) (xa 3)))
  (Aj (Av 2 (Ag Ap (Ao Be (Ab (xa 1) (Ab (xa 2) (Ab (xa 3) (Ab (xa 2) (Ab (xa 1) (Ab (xa 4) (Ab (xa 2) (Ab (xa 3) Af))))))))) (Ag Cu (fz (Aw Gi (Aa 1) Af)) (xa 8))))
  (Aj (Av 3 (fz (xc Ci (fz (xc AJ qW (xa 0))) qY)))
  (Aj (Av 4 (fz (xc Ci (fz (xc AJ qW (xa 1))) (xa 12))))
  (Aj (Av 5 rj)
  (Aj (Av 6 (xa 0))
  (Aj (BB (ES (Ab (Aa 2) Af)) (tgN 7) (Aj (Av 8 rj)
  (Aj (BB (ES (Ab (Ag Az (xa 1) (Ag Cu (fz (Aw Gi (Aa 1) Af)) (Ag Ap (Ao Be (Ab (xa 4) (Ab (xa 3) Af))) (Ad MQ (Ab (Ag (gEq false) (Aa 2) (xa 4)) Af))))) Af)) (tgN 9) (Aj (Au (Aw ET (Aa 8) (Ab (Ao AW (Ab (Ag Ap (Aa 4) rG) (Ab (fz (xf Fo qZ rm (Ag (gEq false) (Aa 9) (xa 0)) (Aa 1))) Af))) Af)))
  (Av 6 (Ag Az (Aa 6) (xa 1)))))
  (Au (Aw ET (Aa 5) (Ab (Ao AW (Ab (Ag Ap (Aa 3) rm) (Ab rX Af))) Af))))))
  (retS (Aa 5)))))))))
def Fp:sT:=AX 9 (Ma)
def Ta:FS->SO :=
  (Aj (Av 1 D3)
  (Aj (BB sK rn (A1 qZ (Aa 1) qY))
  (retS (Aa 1))))
def Ig:sT:=AX 3 (Ta)
def M8:FS->SO :=
  (Aj (Av 5 (AL true [none,none,some 4] sG rf (asB (Ag (gEq false) (Aa 1) (Aa 2))) (Ao AW (Ab rS (Ab qW Af)))))
  (Aj (BB (itU (Ag Ap (Aa 0) rg)) (AD 2 rW) (Au (Aw ET (Aa 5) (Ab (Ao AW (Ab (xL "make") (Ab rG (Ab rm Af)))) Af))))
  (Aj (BB (itU qY) (AD 3 (Ai (tgN 8) sJ)) (ifS (asB (Ag (gEq false) rH (Aa 4))) (Au (Aw ET (Aa 5) (Ab (Ao AW (Ab sN (Ab rX (Ab rJ Af)))) Af))) nxS))
  (Aj (ifS (GF (asB (Ag (gEq false) rT (Aa 4))) (asB (Ag (IF true) sr (Ao Be Af)))) (Au (Aw ET (Aa 5) (Ab (Ao AW (Ab sN (Ab rq (Ab rh Af)))) Af))) nxS)
  (retS (Aa 5))))))
def EG:sT:=AX 6 (M8)
def L9(rec:sT):FS->SO :=
  (Aj (Et (Ag Ap sH (xa 0)) rn)
  (retS (Ao AW (Ab (xL "make") (Ab qY (Ab (Ad Bv (Ab (AL false [none,some 0] (itU qZ) rN C7 (fz (xc rec qX qW))) Af)) Af))))))
def El:Nat->sT
 |0=>λ_=>.bad
 |n+1=>AX 2 (L9 (El n))
def Eo(rec:sT):FS->SO :=
  (Aj (Av 7 (fz (xg EG qW qX qY qZ rg)))
  (Aj (Av 8 (fz (Aw Gi (Aa 5) Af)))
  (Aj (ifS sE (Av 7 (AL false [none] (itU rm) rN (asB (Ag (gEq false) rV rS)) qW)) nxS)
  (Aj (ifS (asB (Ag (IF false) (Aa 7) (Ao Be Af))) (retS (xc (El 4) qW rg)) nxS)
  (Aj (Av 9 (Ag Ap (Aa 7) (Ag BX sO (Ag Cu (Aa 8) (Ad AK (Ab (Aa 7) Af))))))
  (Aj (ifS (asB (Ag (gEq false) rK rS)) (retS (Aa 9)) nxS)
  (Aj (Av 10 rj)
  (Aj (BB (ES (Ab (Ad AK (Ab (Ag Ap (Aa 9) (xa 2)) Af)) Af)) (tgN 11) (ifS (GF (asB (Ag (gEq false) (Aa 11) (xa 0))) (GF (asB (Ag (gEq false) rK sN)) (asB (Ag (gEq false) (Ag Ap (Aa 9) (xa 1)) rq)))) (Au (Aw ET rH (Ab (Ao AW (Ab rS (Ab (Ag Ap sr (Ag Cu (fz (Aw Gi (Aa 5) Af)) (Ad AK (Ab sr Af)))) Af))) Af))) (Au (Aw ET rH (Ab (fz (xh rec qW qX qY qZ (Ag Ap (Ag Ap (Aa 9) (xa 2)) rQ) (Aa 5) (Ag BX (Aa 6) (xa 1)))) Af)))))
  (retS (Ao AW (Ab rK (Ab (Ag Ap (Aa 9) (xa 1)) (Ab (Ad Bv (Ab rH Af)) Af)))))))))))))
def Bj:Nat->sT
 |0=>λ_=>.bad
 |n+1=>AX 5 (Eo (Bj n))
def GA:FS->SO :=
  (Aj (Av 6 (fz (Ad Jr rD)))
  (Aj (Av 7 (xb BR qW qY (xa 7)))
  (Aj (Av 8 (Ag Ap (Ao Be (Ab (xa 1) (Ab (xa 2) (Ab (xa 2) (Ab (Ag Ap (Ao Be (Ab (xa 3) sD)) (Ad MQ (Ab (Ag (gEq false) sk (xa 4)) Af))) Af))))) (Ag Cu sm (xa 4))))
  (Aj (Av 9 (Ad Bv (Ab (AL false [none,some 6,some 7] (ES (Ab (Aa 8) Af)) rN C7 (Ag Ap (Aa 1) (Ag Cu (fz (Aw Gi (Aa 2) Af)) (Ad AK rD)))) Af)))
  (Aj (Av 10 (Ag Ap (Ao Be (Ab (Ag Ap (Aa 6) (Ag Cu sm sk)) (Ab rK Af))) (Ag Cu sm (xa 2))))
  (Aj (Av 11 (Ad Bv (Ab (slF (Aa 5) (Cy (xa 2)) (Cy (Ag Az (xa 1) (Aa 8)))) Af)))
  (Aj (Av 12 rj)
  (Aj (BB (itU (Ag Ap (Aa 1) rK)) (AD 2 (Ai (tgN 13) (Ai (tgN 14) AB))) (Aj (Av 15 (fz (Ag Az (fz (Yv (Aa 5) sP)) (fz (Yv (Aa 11) (slF (Aa 9) (Cy (xa 1)) noP))))))
  (Aj (Av 16 (AL false [none,none,some 9] (itZ (Aa 5) sP) rf (asB (Ag (gEq false) (Aa 1) su)) qW))
  (Aj (Av 7 (xb BR qW (Ag Az (Ag Az (Aa 2) (Ad AK rY)) (xa 1)) (xa 9)))
  (Aj (Av 17 (fz (xh (Bj 4) qX (fz (Aa 15)) qZ (Ao AW (Ab rg (Ab rJ (Ab sQ (Ab (fz (Aa 16)) Af))))) sQ (Aa 7) (xa 3))))
  (Au (Aw ET (Aa 12) (Ab (Ao AW (Ab (Ad Bv (Ab (slF (Aa 5) noP (Cy (Ad AK (Ab sP Af)))) Af)) (Ab (fz (Aa 17)) Af))) Af))))))))
  (retS (Ao AW (Ab rg (Ab rJ (Ab sQ (Ab rQ (Ab (Ad Bv rY) Af)))))))))))))))
def CW:sT:=AX 12 (GA)
def EW:FS->SO :=
  (Aj (Av 3 (Ao Be Af))
  (Aj (BB (itD (Aa 1)) (tgN 4) (Av 3 (fz (Ag Az (Aa 3) (AL false [none,none] (itU (Ag Ap (Aa 1) rg)) rf C7 qW)))))
  (Aj (Av 5 rj)
  (Aj (BB (itU (fz (Ag Az (fz (xc Ci (fz (xc AJ qW (xa 2))) (xa 12))) (Ao Be (Ab (xL "f") (Ab (xL "fg") (Ab (xL "fgh") (Ab (xL "fghi") Af)))))))) (tgN 6) (ifS (GF (asB (Ag (CK true) rG (Aa 3))) (asB (Ag (CK true) rG (Aa 5)))) (Au (Aw ET (Aa 5) (Ab rG Af))) nxS))
  (Aj (Av 7 (fz (xc Ci (fz (xc AJ qW (xa 3))) (xa 4))))
  (Aj (Av 8 rj)
  (Aj (Av 9 rj)
  (Aj (BB (ES (Ab (Ad Js (Ab (Aa 2) (Ab (Ad AK (Ab rB Af)) Af))) Af)) (tgN 10) (Aj (Au (Aw ET (Aa 8) (Ab (fz (DN 9 (nwV (xi CW qW qX sQ rJ (Ag Ap (Aa 5) sQ) rm)))) Af)))
  (Au (Aw ET (Aa 9) (Ab (slF (Ag Ap (Aa 8) sO) noP (Cy (xa 3))) Af)))))
  (retS (Aa 8))))))))))
def Du:sT:=AX 8 (EW)
def BM(ag:Addr):FS->SO :=
  (Aj (ifS (asB (Ag (CK true) qX (Cg ag "makers_by_kind" (Aa 0)))) (λ_=>.bad) nxS)
  (retS (Ad C5 (Ab (Ag Ap (Cg ag "makers_by_kind" (Aa 0)) qX) Af))))
def Ba(ag:Addr):sT:=AX 0 (BM ag)
def B0(ag:Addr):FS->SO :=
  (retS (Ad C5 (Ab (Cg ag "makers_by_kind" (Aa 0)) Af)))
def BE(ag:Addr):sT:=AX 0 (B0 ag)
def M5(ag:Addr):FS->SO :=
  (retS (Ad Yo (Ab (AL false [none,some 1,some 0] (itU (fz (Eg ag "kinds" 1 (BE ag) qW Af))) rN C7 (Ag (CK false) qX (fz (Bd ag "makers" 2 (Ba ag) qY (Ac qW Af))))) Af)))
def EE(ag:Addr):sT:=AX 0 (M5 ag)
def JS(ag:Addr):FS->SO :=
  (Aj (Et qY (AD 5 (Ai (tgN 3) (Ai (tgN 4) (Ai (tgN 5) rW)))))
  (Aj (ifS (CJ (DL (fz (xj AY qZ)))) (λ_=>.bad) nxS)
  (Aj (ifS (orT (asB (Ag (CK false) qZ (Aa 1))) (DL (fz (xc (EE ag) qW qZ)))) (λ_=>.bad) nxS)
  (Aj (ifS (CJ (asB (chain gLe gLe (xa 1) (Ad AK rO) (xa 3)))) (λ_=>.bad) nxS)
  (Aj (BB (itU (fz (Ag Az (fz (Ad C5 rO)) (Ao Be (Ab rB Af))))) (tgN 8) (ifS (asB (Ag (CK true) rX (fz (Eg ag "kinds" 1 (BE ag) qW Af)))) (λ_=>.bad) nxS))
  (Aj (ifS (asB (Ag (gEq true) sk (Ag BX (Ad AK rO) (xa 1)))) (λ_=>.bad) nxS)
  (ifS (asB (Ag (gEq true) (Ad AK (Ab (Aa 7) Af)) (Ad AK (Ab (fz (Bd ag "makers" 2 (Ba ag) qW (Ac sw Af))) Af)))) (λ_=>.bad) nxS)))))))
def Dm(ag:Addr):sT:=AX 6 (JS ag)
def BZ(ag:Addr):FS->SO :=
  (Aj (ifS (asB (Ag (CK true) qX (Cg ag "parts_by_maker" (Aa 0)))) (λ_=>.bad) nxS)
  (retS (Ag Ap (Cg ag "parts_by_maker" (Aa 0)) qX)))
def BD(ag:Addr):sT:=AX 0 (BZ ag)
def Iv:FS->SO :=
  (Aj (Av 1 D3)
  (BB sK (tgN 2) (Aj (ifS (CJ (DL (fz (xj AY qY)))) (λ_=>.bad) nxS)
  (Aj (ifS sI (λ_=>.bad) nxS)
  (A1 rP (Aa 1) qY)))))
def CU:sT:=AX 2 (Iv)
def JU(ag:Addr):FS->SO :=
  (Aj (ifS (asB (Ag (CK true) qX (Cg ag "home_by_maker" (Aa 0)))) (λ_=>.bad) nxS)
  (retS (Ag Ap (Cg ag "home_by_maker" (Aa 0)) qX)))
def Dq(ag:Addr):sT:=AX 0 (JU ag)
def Gz(ai:Addr)(ag:Addr):FS->SO :=
  (Aj (ifS (asB (Ag (gEq false) (Aa 1) (xL "make"))) (retS (Ao AW (Ab (fz (Bd ag "parts" 2 (BD ag) (Cg ai "stock" (Aa 0)) (Ac qY Af))) (Ab (fz (Bd ag "home" 2 (Dq ag) (Cg ai "stock" (Aa 0)) (Ac qY Af))) Af)))) nxS)
  (Aj (ifS (asB (Ag (CK true) qY (Cg ai "heads" (Aa 0)))) (λ_=>.bad) nxS)
  (retS (Ag Ap (Cg ai "heads" (Aa 0)) qY))))
def Bg(ai:Addr)(ag:Addr):sT:=AX 0 (Gz ai ag)
def GR(ai:Addr):FS->SO :=
  (Aj (ifS (asB (Ag (CK true) qX (Cg ai "kinds_by_name" (Aa 0)))) (λ_=>.bad) nxS)
  (retS (Ag Ap (Cg ai "kinds_by_name" (Aa 0)) qX)))
def Cp(ai:Addr):sT:=AX 0 (GR ai)
def Iu(ai:Addr)(ag:Addr)(rec:sT):FS->SO :=
  (Aj (ifS (asB (Ag (gEq false) (Ag Ap (Aa 1) (xa 0)) rS)) (retS (xc (Cp ai) qW (Ag Ap (Aa 1) (xa 1)))) nxS)
  (Aj (Et qX (AD 3 (Ai (tgN 2) (Ai (tgN 3) (Ai (tgN 4) AB)))))
  (Aj (Et (fz (xb (Bg ai ag) qW qY qZ)) (AD 2 rk))
  (Aj (ifS (asB (Ag (gEq true) (Ad AK rO) (Ad AK (Ab (Aa 5) Af)))) (λ_=>.bad) nxS)
  (Aj (ifS (GF (asB (Ag (gEq false) (Aa 2) sN)) (GF (asB (Ag (gEq false) (Aa 3) (Cg ai "own" (Aa 0)))) (asB (Ag MP sw (Cg ai "lessers" (Aa 0)))))) (λ_=>.bad) nxS)
  (Aj (BB (itZ (Aa 4) (Aa 5)) (AD 2 rF) (ifS (asB (Ag (gEq true) (fz (xc rec qW rm)) (Aa 8))) (λ_=>.bad) nxS))
  (retS (Aa 6))))))))
def BC(ai:Addr)(ag:Addr):Nat->sT
 |0=>λ_=>.bad
 |n+1=>AX 7 (Iu ai ag (BC ai ag n))
def JV(ai:Addr):FS->SO :=
  (Aj (DS ai "stock" 0 qX)
  (Aj (DS ai "heads" 0 qY)
  (Aj (DS ai "kinds_by_name" 0 qZ)
  (Aj (DS ai "own" 0 rg)
  (DS ai "lessers" 0 rB)))))
def Dt(ai:Addr):sT:=AX 0 (JV ai)
def KR(ai:Addr)(ag:Addr):FS->SO :=
  (Aj (Et qY (AD 5 (Ai (tgN 5) (Ai (tgN 6) (Ai (tgN 7) (Ai (tgN 8) (Ai (tgN 9) AB)))))))
  (Aj (Et rg sB)
  (Aj (Av 12 (fz (Bd ag "parts" 2 (BD ag) qW (Ac qZ Af))))
  (Aj (ifS (asB (Ag (gEq true) (Ad AK (Ab rH Af)) (Ad AK rY))) (λ_=>.bad) nxS)
  (Aj (Au (xj CU rR))
  (Aj (Av 13 (fz (D6 (Ab rR (Ab (fz (Ag Az (fz (Ad C5 rY)) (fz (Ad C5 (Ab sL Af))))) Af)))))
  (Aj (Av 14 (AL false [none,some 13,some 6] (itU sQ) rN (asB (Ag (gEq false) (Ag Ap (Aa 1) qW) su)) (Ao AW (Ab rS (Ab qW Af)))))
  (ifS (asB (Ag (gEq true) (fz (xc (BC ai ag 20) (fz (Ad (BW ai 6 (Dt ai)) (Ac qW (Ac qX (Ac (fz (Aa 13)) (Ac rB (Ac (fz sP) Af))))))) rQ)) (Aa 7))) (λ_=>.bad) nxS))))))))
def D4(ai:Addr)(ag:Addr):sT:=AX 10 (KR ai ag)
def DW(ah:Addr)(ai:Addr)(ag:Addr):FS->SO :=
  (Aj (DS ah "stock" 0 qX)
  (Aj (DS ah "heads" 0 D3)
  (Aj (DS ah "rows_by_function" 0 D3)
  (BB (itU qY) (tgN 3) (Aj (Au (DY 0 (xb (Dm ag) qX (Cg ah "heads" (Aa 0)) qZ)))
  (Aj (Et qZ rZ)
  (Aj (BF ah "heads" 0 4 (Ao AW (Ab (Ad Bv (Ab (Aa 5) Af)) (Ab rG Af))))
  (Aj (D5 ah "rows_by_function" 0 4)
  (BB (itZ (fz (Bd ag "makers" 2 (Ba ag) qX (Ac rL Af))) (Aa 8)) (AD 2 sJ) (Aj (Au (DY 0 (xg (D4 ai ag) qX (Cg ah "heads" (Aa 0)) qZ rJ sQ)))
  (dput2 ah "rows_by_function" 0 4 9 (Ao AW (Ab (Ag Az (Ad Bv (Ab (Ag Ap rH (xa 0)) Af)) (Ad Bv (Ab (Aa 7) Af))) (Ab (Ag Ap rH (xa 1)) Af))))))))))))))
def Cr(ah:Addr)(ai:Addr)(ag:Addr):sT:=AX 8 (DW ah ai ag)
def Iy:FS->SO :=
  (Aj (ifS (CJ (asB (chain gLe gLe (xa 1) rE (xa 4)))) (B4 "BadCount" (Ab (xL "a stock has one to four kinds") Af)) nxS)
  (Aj (Av 1 D3)
  (BB sK rn (Aj (ifS (CJ (DL (fz (xj AY qY)))) (λ_=>.bad) nxS)
  (Aj (ifS sI (λ_=>.bad) nxS)
  (Aj (ifS (CJ (asB (chain gLe gLe (xa 1) (Ad AK (Ab (Aa 3) Af)) (xa 4)))) (λ_=>.bad) nxS)
  (A1 rP (Aa 1) qY)))))))
def CV:sT:=AX 3 (Iy)
def Iw:FS->SO :=
  (Aj (ifS (CJ (DL (fz (xj AY qW)))) (λ_=>.bad) nxS)
  (Aj (ifS (asB (Ag (CK false) qW (Aa 2))) (λ_=>.bad) nxS)
  (Aj (ifS (asB (Ag gGt (Ad AK rD) (xa 2))) (λ_=>.bad) nxS)
  (BB sG (tgN 4) (ifS (asB (Ag (CK true) rg (Aa 3))) (λ_=>.bad) nxS)))))
def BY:sT:=AX 1 (Iw)
def GV:FS->SO :=
  (BB sG (tgN 3) (ifS (asB (Ag (CK true) qZ (Aa 2))) (λ_=>.bad) nxS))
def BL:sT:=AX 1 (GV)
def GU:FS->SO :=
  (Aj (Av 1 (AL false [none,none] sK rf C7 qW))
  (Aj (Av 2 rj)
  (Aj (Av 3 D3)
  (BB sK rp (Aj (Av 6 (Ag Ap rL (xa 0)))
  (Aj (BB (itU rB) (AD 2 rF) (Aj (Au (xf BY rm rX (Aa 3) qX))
  (Aj (ifS (asB (Ag (gEq false) (Aa 7) (Aa 6))) (Au (xb BL rm rX (Aa 2))) nxS)
  (A1 rP (Aa 3) rm))))
  (Au (Aw ET (Aa 2) (Ab rg Af)))))))))
def Cq:sT:=AX 8 (GU)
def JT(ag:Addr):FS->SO :=
  (Aj (Au (xj CV qX))
  (Aj (Au (xj Cq qX))
  (Aj (DS ag "makers_by_kind" 0 D3)
  (Aj (DS ag "parts_by_maker" 0 D3)
  (Aj (DS ag "home_by_maker" 0 D3)
  (BB sG rn (Aj (BF ag "makers_by_kind" 0 2 (AL false [none,none] (itU qZ) rf C7 qW))
  (BB (itU qZ) rp (Aj (BF ag "parts_by_maker" 0 4 (Ad Bv (Ab (Aa 5) Af)))
  (BF ag "home_by_maker" 0 4 qY))))))))))
def Dp(ag:Addr):sT:=AX 4 (JT ag)
def Mb(rec:sT):FS->SO :=
  (Aj (Av 4 sH)
  (Aj (Et sw (AD 2 rk))
  (Aj (ifS (asB (Ag gGt (Aa 3) (xa 0))) (Et (Ag Ap (Aa 4) (Ag Cu (fz (Aw Gi (Aa 2) Af)) (Ad AK rO))) (AD 2 rk)) nxS)
  (retS (Ao AW (Ab rB (Ab (Ad Bv (Ab (AL false [none,some 0,some 2,some 3] (itU rG) rN C7 (fz (xf rec qX qW (Aa 2) (Ag BX (Aa 3) (xa 1))))) Af)) Af)))))))
def DH:Nat->sT
 |0=>λ_=>.bad
 |n+1=>AX 3 (Mb (DH n))
def Qd:FS->SO :=
  (Aj (BB sK rZ (ifS (asB (Ag (gEq false) (Aa 4) (Aa 2))) (Aj (Av 9 (fz (Aw MR (AL false [none] (itU (Ag Ap (Aa 1) rL)) rN C7 rV) (Ab (Aa 3) Af))))
  (retS (Ao AW (Ab (Ag Az (Ag Ap (Ag Ap (Aa 8) rJ) (xa 0)) (Aa 7)) (Ab (Ag Ap (Ag Ap (Aa 8) rJ) (xa 1)) Af))))) nxS))
  (retS sA))
def CF:sT:=AX 6 (Qd)
def M6(rec:sT):FS->SO :=
  (retS (Ag Az (xa 1) (Ad Qo (Ab (AL false [none] (itU rM) rN C7 (fz (xj rec qW))) Af))))
def DE:Nat->sT
 |0=>λ_=>.bad
 |n+1=>AX 0 (M6 (DE n))
def KW(rec:sT):FS->SO :=
  (retS (Ag Az (xa 1) (maxD 0 (Ab (AL false [none] (itU rM) rN C7 (fz (xj rec qW))) Af))))
def CY:Nat->sT
 |0=>λ_=>.bad
 |n+1=>AX 0 (KW (CY n))
def Fw(rec:sT):FS->SO :=
  (Aj (ifS sM (retS (Ag Ap (Aa 2) rh)) nxS)
  (Aj (Av 6 rj)
  (Aj (BB (itU rT) (tgN 7) (Aj (Av 8 (fz (xi rec qW qX qY rm rg (Aa 5))))
  (Aj (ifS (asB (Ag (LO false) (Aa 8) sA)) (retS sA) nxS)
  (Au (Aw ET (Aa 6) (Ab rX Af))))))
  (Aj (ifS sC (Aj (Av 9 (Ao AW (Ab rh (Ab (Ad Bv (Ab (Aa 6) Af)) Af))))
  (Aj (ifS (orT (asB (Ag gGt (fz (xj (DE 60) rJ)) (xa 300))) (asB (Ag gGt (fz (xj (CY 60) rJ)) (xa 40)))) (retS sA) nxS)
  (retS (Aa 9)))) nxS)
  (Aj (A1 (Ag BX rL (xa 1)) (Aa 5) (xa 0))
  (Aj (ifS (orT (asB (Ag gLt rL (xa 0))) (asB (Ag gGt (Aa 4) (xa 20)))) (retS sA) nxS)
  (Aj (Et (fz (xf CF qW qX rh (Ag Ap so (xa 0)))) sB)
  (Aj (Av 12 (fz (D6 (Ab rH (Ab (fz (Ag Az (fz (Ad C5 (Ab (Ag Ap so (xa 1)) Af))) sL)) Af)))))
  (retS (xi rec qW qX (fz (Aa 12)) rQ (Ag Az (Aa 4) (xa 1)) (Aa 5)))))))))))
def AM:Nat->sT
 |0=>λ_=>.bad
 |n+1=>AX 7 (Fw (AM n))
def Dz(ao:Addr):FS->SO :=
  (Aj (Au (C1 ao "waiting" 0 (Ao AW (Ab qX (Ab qY (Ab qZ (Ab rP Af)))))))
  (BB (itVT (Ag Ap (Aa 1) (xa 2))) (tgN 4) (Au (C1 ao "waiting" 0 (Ao AW (Ab rg (Ab qY (Ab qZ (Ab rC Af)))))))))
def AS(ao:Addr):sT:=AX 1 (Dz ao)
def Iz(ah:Addr):FS->SO :=
  (Aj (ifS (asB (Ag (CK true) qX (Cg ah "rows_by_function" (Aa 0)))) (λ_=>.bad) nxS)
  (Aj (ifS (asB (Ag (CK true) qY (Ag Ap (Cg ah "rows_by_function" (Aa 0)) qX))) (λ_=>.bad) nxS)
  (retS (Ag Ap (Ag Ap (Cg ah "rows_by_function" (Aa 0)) qX) qY))))
def A5(ah:Addr):sT:=AX 0 (Iz ah)
def GQ:FS->SO :=
  (Aj (Av 1 rj)
  (Aj (Av 2 (Ao Be (Ab qW Af)))
  (Aj (BN (DL (Aa 2)) (Aj (Au (Aw ET (Aa 1) (Ab (Ad AK (Ab (Aa 2) Af)) Af)))
  (Aj (Av 3 rj)
  (Aj (BB (itU qY) rp (Au (Aw MS (Aa 3) (Ab rB Af))))
  (Av 2 qZ)))) 1000)
  (retS (Aa 1)))))
def Co:sT:=AX 5 (GQ)
def Qc:FS->SO :=
  (Aj (Av 1 (fz (xj Co qW)))
  (retS (Ao AW (Ab qW (Ab (Ad Qo rD) (Ab (Ad AK rD) Af))))))
def CB:sT:=AX 1 (Qc)
def E4(ah:Addr)(ao:Addr):FS->SO :=
  (Aj (ifS (asB (Ag gLe (Cg ao "calls_left" (Aa 0)) (xa 0))) (B4 "TooLong" (Ab (xL "there are too many calls") Af)) nxS)
  (Aj (ifS (asB (Ag gGt (Aa 3) (xa 20))) (B4 "TooLong" (Ab (xL "a call is too deep") Af)) nxS)
  (Aj (NA ao "calls_left" 0 1)
  (Aj (Et (Ag Ap su (xa 0)) rp)
  (Aj (Et (fz (Bd ah "row" 3 (A5 ah) (Cg ao "program" (Aa 0)) (Ac qX (Ac rg Af)))) (AD 2 rW))
  (Aj (Av 8 (fz (Ag Az (AL false [none] (itU rB) rN C7 (fz (xj CB qW))) (slF (Aa 2) (Cy (xa 1)) noP))))
  (Au (C1 ao "waiting" 0 (Ao AW (Ab rm (Ab (fz (D6 (Ab (Aa 6) (Ab (Aa 8) Af)))) (Ab (Ag Az (Aa 3) (xa 1)) (Ab rC Af)))))))))))))
def A8(ah:Addr)(ao:Addr):sT:=AX 5 (E4 ah ao)
def Jcf:FS->SO :=
  (Aj (Av 2 (Ag Az (xa 1) (Ad Qo (Ab (AL false [none] sG rN C7 rM) Af))))
  (Aj (Av 3 (Ag Az (xa 1) (maxD 0 (Ab (AL false [none] sG rN C7 (Ag Ap (Aa 0) (xa 2))) Af))))
  (Aj (ifS (orT (asB (Ag gGt (Aa 2) (xa 300))) (asB (Ag gGt (Aa 3) (xa 40)))) (B4 "TooLong" (Ab (xL "a thing is too great or too deep") Af)) nxS)
  (retS (Ao AW (Ab (Ao AW (Ab qW (Ab (Ad Bv (Ab (AL false [none] sG rN C7 rV) Af)) Af))) (Ab qY (Ab qZ Af))))))))
def Jx:sT:=AX 2 (Jcf)
def KU(ao:Addr):FS->SO :=
  (Aj (Av 2 rj)
  (Aj (BB (ES rD) (tgN 3) (Au (Aw ET (Aa 2) (Ab (fz (HD ao "worths" 0)) Af))))
  (retS (Zr (Aa 2)))))
def B9(ao:Addr):sT:=AX 2 (KU ao)
def KS(ah:Addr)(ao:Addr):FS->SO :=
  (Aj (Au (C1 ao "waiting" 0 (Ao AW (Ab qY (Ab qX (Ab (xa 1) (Ab rC Af)))))))
  (Aj (BN (Mu ao "waiting" 0) (Aj (Et (fz (HD ao "waiting" 0)) (AD 4 (Ai (tgN 3) (Ai (tgN 4) rk))))
  (ifS sM (Au (C1 ao "worths" 0 (Ag Ap (Aa 4) rh))) (ifS (CJ (DL (Aa 6))) (Au (Bd ao "await_arguments" 4 (AS ao) (Aa 0) (Ac qZ (Ac rg (Ac rB Af))))) (ifS sC (Au (C1 ao "worths" 0 (fz (xc Jx rh (fz (Bd ao "taken" 2 (B9 ao) (Aa 0) (Ac (Ad AK (Ab rT Af)) Af))))))) (Au (Bd ao "await_body" 4 (A8 ah ao) (Aa 0) (Ac rh (Ac (fz (Bd ao "taken" 2 (B9 ao) (Aa 0) (Ac (Ad AK (Ab rT Af)) Af))) (Ac rB Af))))))))) 110000)
  (retS (Ag Ap (OP ao "worths" 0) (xa 0)))))
def Bt(ah:Addr)(ao:Addr):sT:=AX 4 (KS ah ao)
def EJ(ao:Addr):FS->SO :=
  (Aj (DS ao "program" 0 qX)
  (Aj (DS ao "calls_left" 0 qY)
  (Aj (DS ao "waiting" 0 rj)
  (DS ao "worths" 0 rj))))
def CD(ao:Addr):sT:=AX 0 (EJ ao)
def b_run(ah:Addr)(ao:Addr):FS->SO :=
  (Aj (Av 4 D3)
  (Aj (BB (itI (Aa 1)) (AD 2 rk) (A1 (fz (xj CB rG)) (Aa 4) rB))
  (retS (newMeth ao "worth" 3 (Bt ah ao) (Ad (BW ao 3 (CD ao)) (Ac qW (Ac qZ Af))) (Ac rg (Ac qY Af))))))
def f_run(ah:Addr)(ao:Addr):sT:=AX 3 (b_run ah ao)
def Tb(rec:sT):FS->SO :=
  (Aj (ifS (orT (CJ (DL (isF "tuple" (Aa 0)))) (asB (Ag (gEq true) rE (xa 2)))) sR nxS)
  (Aj (ifS (orT (CJ (DL (isF "str" rV))) (CJ (DL (isF "tuple" rM)))) sR nxS)
  (Aj (BB (itU rM) (tgN 1) (ifS (CJ (DL (fz (xj rec qX)))) sR nxS))
  (retS rP))))
def DG:Nat->sT
 |0=>λ_=>.bad
 |n+1=>AX 1 (Tb (DG n))
def M7:FS->SO :=
  (Aj (Av 1 (Ao Be (Ab (isX xrs GK "BadName" (Aa 0)) (Ab (isX xrs GK "Twice" (Aa 0)) (Ab (isX xrs GK "BadCount" (Aa 0)) Af)))))
  (Aj (Av 1 (fz (Ag Az (Aa 1) (Ao Be (Ab (isX xrs GK "NoKind" (Aa 0)) (Ab (isX xrs GK "Groundless" (Aa 0)) (Ab (isX xrs GK "NoMaker" (Aa 0)) Af)))))))
  (Aj (Av 1 (fz (Ag Az (Aa 1) (Ao Be (Ab (isX xrs GK "NoName" (Aa 0)) (Ab (isX xrs GK "NoFunction" (Aa 0)) (Ab (isX xrs GK "NotLess" (Aa 0)) Af)))))))
  (Aj (Av 1 (fz (Ag Az (Aa 1) (Ao Be (Ab (isX xrs GK "BadKind" (Aa 0)) (Ab (isX xrs GK "TooLong" (Aa 0)) (Ab (isX xrs GK "NoPlace" (Aa 0)) Af)))))))
  (retS (Ag Az (Aa 1) (Ao Be (Ab (isX xrs GK "NotShown" (Aa 0)) (Ab (isX xrs GK "NoSaying" (Aa 0)) (Ab (isX xrs GK "BadText" (Aa 0)) Af))))))))))
def EF:sT:=AX 1 (M7)
def S9:FS->SO :=
  (Aj (ifS (orT (CJ (DL (isV xrs (Aa 0)))) (asB (Ag (gEq true) (fz (Aw gCnt (fz (xj EF qW)) (Ab rP Af))) (xa 1)))) (retS sO) nxS)
  (retS (Aw gIdx (fz (xj EF qW)) (Ab rP Af))))
def Fm:sT:=AX 0 (S9)
def b_Lright(ah:Addr)(ao:Addr):FS->SO :=
  (Aj (Av 5 sA)
  (Aj (Av 6 sA)
  (Aj (TH 7 (λc=>xrs.contains c&&GK c "SayError") (Av 6 (fz (xf (f_run ah ao) qW qX qY qZ))) (Av 5 rm))
  (Aj (ifS (asB (Ag (LO false) (Aa 4) sA)) (retS (Ag (gEq false) (fz (xj Fm rB)) (xa 10))) nxS)
  (retS (Jcj (Ag (LO false) (Aa 5) sA) (Jcj (fz (xj (DG 60) rG)) (Ag MT (Aa 6) (Aa 4)))))))))
def f_Lright(ah:Addr)(ao:Addr):sT:=AX 3 (b_Lright ah ao)
def b_law(ah:Addr)(ao:Addr)(ai:Addr)(ag:Addr):FS->SO :=
  (Aj (Av 1 (fz (xj Fp qW)))
  (Aj (Av 2 (xj Ig qX))
  (Aj (Av 3 (fz (xb Du qW (fzD (Aa 2)) (Ag Az (xa 1) (Ag Cu (fz (xc AJ qW (xa 4))) (xa 3))))))
  (Aj (Av 4 (fz (Ad (BW ah 3 (Cr ah ai ag)) (Ac (fz (Ad (BW ag 2 (Dp ag)) (Ac qX Af))) (Ac qZ Af)))))
  (Aj (Av 5 (fz (xc Ci (fz (xc AJ qW (xa 5))) (xa 2))))
  (Aj (Av 6 (AL false [none,some 1,some 0] (ES sD) rN C7 (Ag Ap (Ag Ap (Aa 1) (Ag Cu (Ag GJ (fz (xc AJ qY (xa 6))) (Ag Az (xa 1) (Aa 0))) (Ad AK rD))) (xa 0))))
  (Aj (Av 7 (fz (Yv (Aa 5) (Aa 6))))
  (Aj (Av 8 (AL false [none] (itU qZ) rN C7 (slF (Aa 0) noP (Cy (xa 3)))))
  (Aj (Av 9 (Ag Ap (Ag Ap (Aa 8) sO) (xa 2)))
  (Aj (Av 10 (xb BR qW (xa 5) (xa 6)))
  (Aj (Av 11 (fz (xh (Bj 4) qY rm rX (Ao AW (Ab (xL "") (Ab (Ao AW Af) (Ab (xL "") (Ab (Ao Be Af) Af))))) rJ rH (xa 3))))
  (Aj (Av 12 D3)
  (Aj (BB (ES sD) (tgN 13) (A1 (fz (xf (DH 8) qY (Ag Ap (Aa 6) (fz (Aa 13))) (xb BR qW (Ag Az (xa 6) (Aa 13)) (xa 8)) (xa 3))) (Aa 12) (Ag Ap (Aa 5) (fz (Aa 13)))))
  (Aj (Av 14 (Ad Hi rY))
  (Aj (Av 15 (Ag Ap (Ao Be (Ab (Ag Cu (Ag GJ (fz (xc AJ qW (xa 7))) (xa 4)) (xa 31)) (Ab (xa 100) Af))) (Ad MQ (Ab (Ag (gEq false) (Ag Cu (fz (xc AJ qW (xa 7))) (xa 4)) (xa 1)) Af))))
  (Aj (BB (itU (Ao Be (Ab (fz (Aa 15)) (Ab (xa 40) Af)))) (tgN 16) (Aj (Av 17 (Ao Bm (Ab (fz (Aa 16)) Af)))
  (Aj (Av 18 (fz (xi (AM 147) qZ qY (fz (Aa 12)) rQ (xa 1) (Aa 17))))
  (ifS (CJ (DL (fz (xg (f_Lright ah ao) rg (fzW sP) rQ (fz (Aa 16)) (fz (Aa 18)))))) sR nxS))))
  (Aj (ifS (asB (Ag MO (Aa 18) sA)) (BB (itU (Ao Be (Ab (Ag BX (xa 40) (Ag Ap (Aa 17) (xa 0))) (Ab (Ag BX (xa 39) (Ag Ap (Aa 17) (xa 0))) Af)))) (tgN 16) (Aj (Av 18 (fz (xi (AM 147) qZ qY (fz (Aa 12)) rQ (xa 1) (Ao Bm (Ab sF Af)))))
  (ifS (CJ (DL (fz (xg (f_Lright ah ao) rg (fzW sP) rQ sF (fz (Aa 18)))))) sR nxS))) nxS)
  (retS (Ag (Jba false) sP (Aa 12))))))))))))))))))))
def f_law(ah:Addr)(ao:Addr)(ai:Addr)(ag:Addr):sT:=AX 18 (b_law ah ao ai ag)
end Lake.Sy
namespace Nm
def M(c:Int):Int:=(c*c+c+1)*982451653
def W(c:Int):Int:=1+M c%12
def At(c:Int):Int:=M c/12%W c
def DV(i:Int):Nat:=97+(i%26).toNat
def base(c:Int)(j:Nat):Nat:=DV (M c/((j:Int)+5)+(j:Int)*j)
def stepI(c:Int):Nat:=(M c/144%6).toNat
def step(c:Int):Int:=([1,3,5,7,9,11]:List Int).getD (stepI c) 1
def one(c:Int)(k:Nat):Nat:=DV (M c/864+(k:Int)*step c)
def Hm(c:Int)(k:Nat):List Nat:=List.replicate (((k:Int)+M c/7)%12+1).toNat (base c 0)
def Hl(c:Int)(k:Nat):List Nat:=(List.range (At c).toNat).map (base c)++[one c k]++(List.range ((W c).toNat-((At c).toNat+1))).map λj=>base c ((At c).toNat+1+j)
def codes(c:Int)(k:Nat):List Nat:=if M c/900%3=1 then Hm c k else Hl c k
theorem W_lo(c:Int):1<=W c:=by unfold W;omega
theorem W_hi(c:Int):W c<=12:=by unfold W;omega
theorem At_lo(c:Int):0<=At c:=pd _ (by have:=W_lo c;omega)
theorem At_hi(c:Int):At c<W c:=oZ _ (by have:=W_lo c;omega)
theorem OB(i:Int):97<=DV i:=by unfold DV;omega
theorem OC(i:Int):DV i<=122:=by unfold DV;omega
theorem QD(c:Int):step c=1\/step c=3\/step c=5\/step c=7\/step c=9\/step c=11:=by
 have h:stepI c<6:=by unfold stepI;omega
 unfold step;generalize stepI c=i at h;revert i;decide +kernel
theorem QE:∀s∈([1,3,5,7,9,11]:List Int),∀k<12,∀k'<12,((k:Nat):Int)*s%26=((k':Nat):Int)*s%26->k=k':=by decide +kernel
theorem one_inj{c:Int}{k k':Nat}(hk:k<12)(dk:k'<12)(h:one c k=one c k'):k=k':=by unfold one DV at h;refine QE (step c) (by simpa using QD c) k hk k' dk ?_;generalize (k:Int)*step c=a at *;generalize (k':Int)*step c=b at *;generalize M c/864=m at *;omega
theorem DI(c:Int)(k:Nat):(Hm c k).length=(((k:Int)+M c/7)%12+1).toNat:=by unfold Hm;simp
theorem EH(c:Int)(k:Nat):(Hl c k).length=(W c).toNat:=by unfold Hl;simp only[oi,nX,o8,oI];have:=At_lo c;have:=At_hi c;omega
theorem SK(c:Int)(k:Nat):1<=(codes c k).length:=by
 unfold codes;split
 .rw[DI];omega
 .rw[EH];have:=W_lo c;omega
theorem L3(c:Int)(k:Nat):(codes c k).length<=12:=by
 unfold codes;split
 .rw[DI];omega
 .rw[EH];have:=W_hi c;omega
theorem Io(c:Int)(k:Nat):∀x∈codes c k,97<=x/\x<=122:=by
 intro x hx;have key:∃i,x=DV i:=by
  unfold codes at hx;split at hx
  .unfold Hm at hx;exact⟨_,(List.mem_replicate.mp hx).2⟩
  .unfold Hl at hx;rcases oM.mp hx with hx|hx
   .rcases oM.mp hx with hx|hx
    .obtain⟨j,_,rfl⟩:=oo.mp hx;exact⟨_,rfl⟩
    .rw[oE.mp hx];exact⟨_,rfl⟩
   .obtain⟨j,_,rfl⟩:=oo.mp hx;exact⟨_,rfl⟩
 obtain⟨i,rfl⟩:=key;exact⟨OB i,OC i⟩
theorem PR{c:Int}{k k':Nat}(hk:k<12)(dk:k'<12)(h:codes c k=codes c k'):k=k':=by
 unfold codes at h;split at h
 .have e:=congrArg List.length h;rw[DI,DI]at e;omega
 .unfold Hl at h;rw[oV,oV]at h;have h1:=List.append_cancel_left h;rw[List.singleton_append,List.singleton_append]at h1;exact one_inj hk dk (List.cons.inj h1).1
end Nm
namespace Lake.Sy
open PySem PySem.Spec L2 FL
theorem Kj(e:g fs=.nx ak):Aj g h fs=h ak:=by unfold Aj;rw[e]
abbrev vl(t:T):Option Sl:=some (.val t)
abbrev iv(i:Int):Option Sl:=some (.val (.int i))
def Fre:Option Sl->Prop
 |some (.bor _)=>False
 |_=>True
theorem Bi:Fre none:=True.intro
theorem Ak:Fre (vl t):=True.intro
theorem Ef(e:fs[i]?=some x)(h:Fre x):GH i (.t t) fs=some (fs.set i (vl t)):=by unfold GH;rw[e];cases x with|none=>rfl|some s=>cases s with|val t=>rfl|own o=>rfl|bor o=>exact h.elim
theorem JE{fe:sT}{f:T->T}{rest:FS}:∀(ts:List T)(x:Option Sl)(ar:List T),Fre x->(∀t∈ts,fe (vl t::rest)=.ok (.t (f t)) (vl t::rest))->ar.length+ts.length<=big ->
  ∃y,Fre y/\A9 (tgN 0) C7 fe ts (x::rest) ar=some (ar++ts.map f,y::rest)
 | [],x,ar,hx,_,_=>⟨x,hx,by simp[A9]⟩
 |t::ts,x,ar,hx,h,hl=>by
  obtain⟨y,hy,e⟩:=JE ts (vl t) (ar++[f t]) Ak (λt' m=>h t' (nZ _ m)) (by simp at hl ⊢;lia);refine⟨y,hy,?_⟩;have h1:tgN 0 t (x::rest)=some (vl t::rest):=by unfold tgN;rw[Ef (x:=x) rfl hx];rfl
  have h2:=h t n4;have h3:ar.length<big:=by simp at hl;lia
  simp only[A9,h1,C7,h2,if_pos h3,e];simp
theorem Ph(P:List T->FS->Prop)(step:∀t ts fs,P (t::ts) fs->∃ae aq,gt t fs=some ae/\body ae=.nx aq/\P ts aq):∀(ts:List T)(fs:FS),P ts fs->∃ak,Dl gt body ts fs=.nx ak/\P [] ak
 | [],fs,h=>⟨fs,rfl,h⟩
 |t::ts,fs,h=>by obtain⟨ae,aq,e1,e2,h2⟩:=step t ts fs h;obtain⟨ak,e,hp⟩:=Ph P step ts aq h2;exact⟨ak,by simp only[Dl,e1,e2,e],hp⟩
theorem CH:∀ns:List Int,EX (ns.map T.int)=some ns
 | []=>rfl
 |n::ns=>by simp[EX,CH ns]
def IsI(t:T)(ns:List Int):Prop:=t=.zX (ns.map T.int)\/t=.lst (ns.map T.int)
theorem IsI.seq(h:IsI t ns)(fs:FS):Bw fs (.t t)=some (ns.map T.int):=by rcases h with rfl|rfl<;>rfl
theorem QV{a j c:Int}{i:Nat}(hc:0<c)(h:i<(Builtin.Range.rangeSize a j c).toNat):a+i*c<j:=by
 unfold Builtin.Range.rangeSize at h;rw[if_pos hc]at h;by_cases haj:a<j
 .rw[if_pos haj]at h;have h2:(i:Int)<=(j-a-1)/c:=by lia
  have h3:=(Int.le_ediv_iff_mul_le hc).mp h2
  lia
 .rw[if_neg haj]at h;simp at h
theorem Lj{a j c:Int}(hc:0<c):0<=Builtin.Range.rangeSize a j c:=by
 unfold Builtin.Range.rangeSize;rw[if_pos hc];by_cases haj:a<j
 .rw[if_pos haj];have:0<=(j-a-1)/c:=Int.ediv_nonneg (by lia) (by lia)
  lia
 .rw[if_neg haj];exact Int.le_refl 0
theorem IW{a j c:Int}(hc:0<c)(h0:0<=a)(h:j<=63):(Builtin.Range.rangeSize a j c).toNat<=63:=by
 unfold Builtin.Range.rangeSize;rw[if_pos hc];by_cases haj:a<j
 .rw[if_pos haj];have:(j-a-1)/c<=j-a-1:=Int.ediv_le_self _ (by lia)
  lia
 .rw[if_neg haj];simp
theorem NF{a b c:Int}(a0:0<=a)(a1:a<=1000)(b0:0<=b)(b1:b<=63)(c0:1<=c)(c1:c<=1000):Builtin.Range.small a b c=true:=by
 have h1:=Lj (a:=a) (j:=b) (c:=c) (by lia);have h2:=IW (a:=a) (j:=b) (c:=c) (by lia) a0 b1;unfold Builtin.Range.small;simp only[Builtin.Range.rangeFitsLong,oy,pM,decide_eq_true_eq,beq_iff_eq,show c>0 by lia,if_true]
 lia
section
variable{i j:Int}
theorem Pf:Az (.t (.int i)) (.t (.int j)) fs=.ok (.t (.int (i+j))) fs:=rfl
theorem Uv:BX (.t (.int i)) (.t (.int j)) fs=.ok (.t (.int (i-j))) fs:=rfl
theorem Uw(h:0<j):Cu (.t (.int i)) (.t (.int j)) fs=.ok (.t (.int (i%j))) fs:=if_pos h
theorem Ux(h:0<j/\j<1073741824):GJ (.t (.int i)) (.t (.int j)) fs=.ok (.t (.int (i/j))) fs:=if_pos h
theorem O8(h:-(2^64)<i/\i<2^64):BQ (.t (.int i)) (.t (.int j)) fs=.ok (.t (.int (i*j))) fs:=by have e:Yn (.t (.int i)) (.t (.int j)) fs=.ok (.t (.int (i*j))) fs:=if_pos (by rw[oO h];rfl);unfold BQ orG;rw[e]
theorem W5(h:Builtin.Int.intBits i<=2^26/\Builtin.Int.intBits j<=2^26):BQ (.t (.int i)) (.t (.int j)) fs=.ok (.t (.int (i*j))) fs:=by have e:Yn (.t (.int i)) (.t (.int j)) fs=.ok (.t (.int (i*j))) fs:=if_pos (by rw[oO h.1,oO h.2];simp);unfold BQ orG;rw[e]
end
theorem LN{i:Int}(h:Bw fs x=some ts)(e:atI ts i=some t):Ap x (.t (.int i)) fs=.ok (.t t) fs:=by
 have e':gIx x (.t (.int i)) fs=.ok (.t t) fs:=by simp only[gIx,h,e,okT]
 unfold Ap orG;rw[e']
theorem Ja7{i:Int}{fs:FS}(h:IsI t ns)(h0:0<=i)(h1:i<ns.length):Ap (.t t) (.t (.int i)) fs=.ok (.t (.int (ns.getD i.toNat 0))) fs:=by
 refine LN (h.seq fs) ?_;have e:(ns.map T.int)[i.toNat]?=some (T.int (ns.getD i.toNat 0)):=by
  have:i.toNat<ns.length:=by lia
  simp[this]
 have:=AZ e;rwa[qb h0]at this
theorem G7:∀{is:List Ini}{k:Nat},(∀i∈is,AI fs i=none)->FL.placeOf fs j is k=none
 | [],_,_=>rfl
 |i::is,k,h=>by simp only[FL.placeOf];rw[h i n4,if_neg (by simp)];exact G7 λi' m=>h i' (nZ _ m)
theorem Hq(h:∀i∈is,AI fs i=none):∀(gs:FS)(j:Nat),Ct fs is τ j gs=some gs
 | [],_=>rfl
 |g::gs,j=>by simp only[Ct,DT,G7 h,Hq h gs (j+1)]
theorem AU(h:Cn fs is=[]):Cb is τ fs=some fs:=Hq (List.filterMap_eq_nil_iff.mp h) fs 0
theorem Im(h1:fi fs=.ok ts fs)(h2:(Cn fs (src.map λo=>o.elim Ini.no Ini.slot)).Nodup/\(src.all λo=>o.elim true λj=>decide (j<fs.length))=true)
  (h3:A9 gt ft fe ts (Bx fs (src.map λo=>o.elim Ini.no Ini.slot)) []=some (vs,τ)) (h4:Cb (src.map λo=>o.elim Ini.no Ini.slot) τ fs=some ak):AL false src fi gt ft fe fs=.ok (.t (.lst vs)) ak:=by
 unfold AL;rw[h1];simp only[Out.bind];rw[if_pos h2,h3];dsimp only;rw[h4];rfl
def nmS(c:Int)(k:Nat):Str:=⟨(Nm.codes c k).toArray⟩
def nms(c:Int)(n:Nat):List Str:=(List.range n).map (nmS c)
def ABC:Str:="abcdefghijklmnopqrstuvwxyz"
theorem abc_at:∀j,j<26->ABC.cps.toList[j]?=some (97+j):=by decide +kernel
theorem Qf(x:Int):atI ABC.cps.toList (x%26)=some (Nm.DV x):=by
 have h:(x%26).toNat<26:=by lia
 have e:=AZ (abc_at _ h);rw[qb (by lia)]at e;exact e
theorem Hd:∀ys:List Str,(Str.join (⟨#[]⟩:Str) ys).cps.toList=(ys.map λy=>y.cps.toList).flatten
 | []=>rfl
 | [x]=>by simp[Str.join]
 |x::y::r=>by show(x.cps++#[]++(Str.join ⟨#[]⟩ (y::r)).cps).toList=_;rw[nQ,List.flatten_cons,<- (Hd (y::r))];simp
theorem join_ones(f:Nat->Nat)(js:List Nat):(Txt.join (⟨#[]⟩:Str) (js.map λj=>(⟨#[f j]⟩:Str))).cps.toList=js.map f:=by
 show(Builtin.Str.glued _ _).cps.toList=_;rw[StrLaws.glued_eq_join,Hd]
 induction js with|nil=>rfl|cons j r ih =>rw[nQ,nQ,List.flatten_cons,ih,nQ];rfl
theorem Vo{x y:Str}(h:x.cps.toList=y.cps.toList):x=y:=by
 obtain⟨a⟩:=x;obtain⟨b⟩:=y;have:a=b:=by simpa using h
 rw[this]
theorem Oj(c:Nat)(n:Int)(h0:1<=n):(Txt.mul (⟨#[c]⟩:Str) n).cps.toList=List.replicate n.toNat c:=by
 unfold Txt.mul;rw[if_neg (by lia)];by_cases h1:n=1
 .subst h1;rfl
 .rw[if_neg (by simp[h1,Str.length])];have key:∀(m:Nat)(ar:Array Nat),((List.replicate m #[c]).foldl (·++·) ar).toList=ar.toList++List.replicate m c:=by
   intro m
   induction m with|zero=>intro ar;simp|succ m ih =>intro ar;rw[List.replicate_succ,List.foldl_cons,ih,List.replicate_succ];simp
  have:=key n.toNat #[];simpa using this
theorem Pw:Str.ofString ""=(⟨#[]⟩:Str):=by decide +kernel
theorem Rg(f:Nat->Nat)(js:List Nat):((js.map λj=>(⟨#[f j]⟩:Str)).map (·.length)).sum=js.length:=by
 induction js with
 |nil=>rfl
 |cons j r ih =>
  rw[nQ,nQ,List.sum_cons,ih,n8];show 1+r.length=_
  lia
theorem HV(f:Nat->Nat)(js:List Nat):(Txt.join (⟨#[]⟩:Str) (js.map λj=>(⟨#[f j]⟩:Str))).length=js.length:=by have e:=congrArg List.length (join_ones f js);rw[nX]at e;rw[<- e];simp[Str.length]
theorem O7{i j:Int}(h:-(2^64)<j/\j<2^64):BQ (.t (.int i)) (.t (.int j)) fs=.ok (.t (.int (i*j))) fs:=by have e:Yn (.t (.int i)) (.t (.int j)) fs=.ok (.t (.int (i*j))) fs:=if_pos (by rw[oO h];simp);unfold BQ orG;rw[e]
theorem W4{z:Str}{n:Int}{fs:FS}(h:z.length=1/\1<=n/\n<=1000):BQ (.t (.str z)) (.t (.int n)) fs=.ok (.t (.str (Txt.mul z n))) fs:=by have e:R7 (.t (.str z)) (.t (.int n)) fs=.ok (.t (.str (Txt.mul z n))) fs:=if_pos h;have e2:Yn (.t (.str z)) (.t (.int n)) fs=.bad:=rfl;unfold BQ orG;rw[e2];exact e
theorem Pd(h:x.length+y.length<=big):Az (.t (.str x)) (.t (.str y)) fs=.ok (.t (.str (x++y))) fs:=by have e:R9 (.t (.str x)) (.t (.str y)) fs=.ok (.t (.str (x++y))) fs:=if_pos h;have e2:gAdd (.t (.str x)) (.t (.str y)) fs=.bad:=rfl;unfold Az orG;rw[e2];rw[e]
theorem LM{z:Str}{i:Int}{c:Nat}{fs:FS}(hz:z.length<=big)(e:atI z.cps.toList i=some c):Ap (.t (.str z)) (.t (.int i)) fs=.ok (.t (.str ⟨#[c]⟩)) fs:=by
 have e':gIx (.t (.str z)) (.t (.int i)) fs=.ok (.t (.str ⟨#[c]⟩)) fs:=by simp only[gIx,Bw,hz,if_true,e,okT]
 unfold Ap orG;rw[e']
theorem DK:∀xs:List Str,CG (xs.map T.str)=some xs
 | []=>rfl
 |n::ns=>by simp[CG,DK ns]
theorem JB{v:Int}(h0:0<=v)(h1:v.toNat<=xs.length):Qq xs none (some v)=xs.take v.toNat:=by show(xs.drop 0).take ((if v<0 then(v+(xs.length:Int)).toNat else min v.toNat xs.length)-0)=_;rw[if_neg (by lia),qd h1];simp
theorem Gr{v:Int}(h0:0<=v)(h1:v.toNat<=xs.length):Qq xs (some v) none=xs.drop v.toNat:=by show(xs.drop (if v<0 then(v+(xs.length:Int)).toNat else min v.toNat xs.length)).take (xs.length-(if v<0 then(v+(xs.length:Int)).toNat else min v.toNat xs.length))=_;rw[if_neg (by lia),qd h1];exact List.take_of_length_le (by rw[pX];lia)
theorem Td(c:Int):atI [T.int 1,T.int 3,T.int 5,T.int 7,T.int 9,T.int 11] (Nm.M c/144%6)=some (T.int (Nm.step c)):=by
 have h:Nm.stepI c<6:=by unfold Nm.stepI;lia
 have e:([T.int 1,T.int 3,T.int 5,T.int 7,T.int 9,T.int 11]:List T)[Nm.stepI c]?=some (T.int (Nm.step c)):=by
  unfold Nm.step;generalize Nm.stepI c=i at h
  match i,h with|0,_=>rfl|1,_=>rfl|2,_=>rfl|3,_=>rfl|4,_=>rfl|5,_=>rfl
 have e2:=AZ e;unfold Nm.stepI at e2;rwa[qb (by lia)]at e2
theorem Yd:ABC.length<=big:=by decide +kernel
theorem WL{f:Nat->Nat}{js:List Nat}{fs:FS}(h:js.length<=1000):KA (.t (.str ("":Str))) [.t (.lst ((js.map λj=>(⟨#[f j]⟩:Str)).map T.str))] fs=.ok (.t (.str (Txt.join (⟨#[]⟩:Str) (js.map λj=>(⟨#[f j]⟩:Str))))) fs:=by
 have e0:("":Str).length=0:=by decide +kernel
 simp only[KA,Bw,oH,DK,Rg,e0,Nat.mul_zero,Nat.add_zero];rw[if_pos (show js.length<=big from oB h (by decide)),show("":Str)=(⟨#[]⟩:Str)from Pw];simp only[okT]
theorem Bu(h1:fa fs=.ok (.t x) fs)(h2:fb fs=.ok (.t y) fs)(h3:g (.t x) (.t y) fs=r):Ag g fa fb fs=r:=by unfold Ag;rw[h1];show(fb fs).bnd _=r;rwa[h2]
theorem Am(h:fs[i]?=some (vl t)):Aa i fs=.ok (.t t) fs:=by unfold Aa;rw[h]
theorem Ei:gc t fs=.ok (.t t) fs:=rfl
theorem Vu(h:f fs=.ok (.t t) fs)(hs:GH i (.t t) fs=some ak):Av i f fs=.nx ak:=by unfold Av;rw[h];show(match GH i (.t t) fs with|some fs=>SO.nx fs|none=>.bad)=_;rw[hs]
theorem Br(h1:f fs=.ok (.t t) fs)(h2:g fs=.ok rs fs):Ab f g fs=.ok (.t t::rs) fs:=by unfold Ab;rw[h1];show(g fs).bind _=_;rw[h2];rfl
theorem Bh(h:f fs=.ok (.t t) fs):fz f fs=.ok (.t t) fs:=by unfold fz;rw[h];rfl
theorem DJ(h:fa fs=.ok rs fs)(h2:g rs fs=r):Ad g fa fs=r:=by unfold Ad;rwa[h]
theorem JaR(hc:c fs=.ok true fs)(e:g fs=r):ifS c g h fs=r:=by unfold ifS;rwa[hc]
theorem MK(hc:c fs=.ok false fs)(e:h fs=r):ifS c g h fs=r:=by unfold ifS;rwa[hc]
theorem Jb1{i j:Int}(h1:fa fs=.ok (.t (.int i)) fs)(h2:fb fs=.ok (.t (.int j)) fs):asB (Ag (gEq false) fa fb) fs=.ok (decide (i=j)) fs:=by
 have e:gEq false (.t (.int i)) (.t (.int j)) fs=.ok (.t (.v (decide (i=j)))) fs:=by
  have q:decide (V.int i=V.int j)=decide (i=j):=by
   by_cases h:i=j
   .subst h;simp
   .rw[oF h,oF (by intro z;cases z;exact h rfl)]
  show(if Vv (V.int i) (V.int j)=true then okT (.v (if false=true then _ else decide (V.int i=V.int j))) fs else .bad)=_;rw[if_pos (show Vv (V.int i) (V.int j)=true from rfl),q];rfl
 unfold asB;rw[Bu h1 h2 e];rfl
theorem QG{f g:sT}{fs:FS}{ts:List T}{v:Int}(h1:f fs=.ok (.t (.lst ts)) fs)(h2:g fs=.ok (.t (.int v)) fs)(h0:0<=v)(hl:v.toNat<=ts.length):slF f noP (Cy g) fs=.ok (.t (.lst (ts.take v.toNat))) fs:=by unfold slF;rw[h1];show((Cy g) fs).bind _=_;unfold Cy;rw[h2];simp only[Out.bnd,Out.bind];simp only[GI,Bw,okT];rw[JB h0 hl]
theorem QH{f g:sT}{fs:FS}{ts:List T}{v:Int}(h1:f fs=.ok (.t (.lst ts)) fs)(h2:g fs=.ok (.t (.int v)) fs)(h0:0<=v)(hl:v.toNat<=ts.length):slF f (Cy g) noP fs=.ok (.t (.lst (ts.drop v.toNat))) fs:=by unfold slF;rw[h1];show((Cy g) fs).bind _=_;unfold Cy;rw[h2];simp only[Out.bnd,Out.bind,noP];simp only[GI,Bw,okT];rw[Gr h0 hl]
theorem Bq{f:sT}{g:sU}{fs ae aq:FS}{t:T}{rs:List Rv}(h1:f fs=.ok (.t t) ae)(h2:g ae=.ok rs aq):Ab f g fs=.ok (.t t::rs) aq:=by unfold Ab;rw[h1];show(g ae).bind _=_;rw[h2];rfl
theorem PD{g:List T->sT}{fa:sU}{fs ae:FS}{rs:List Rv}{ts:List T}{r:Out Rv}(h:fa fs=.ok rs ae)(h2:Na rs=some ts)(h3:ts.length<=big)(e:g ts ae=r):Ao g fa fs=r:=by unfold Ao;rw[h];show(match Na rs with|some ts=>_|none=>_)=_;rw[h2];exact(if_pos h3).trans e
theorem W9{f:sT}{fs ae:FS}{t:T}(h:f fs=.ok (.t t) ae):fz f fs=.ok (.t t) ae:=by unfold fz;rw[h];rfl
theorem VM{i:Nat}{fs ak:FS}{t:T}{ts:List T}(h0:fs[i]?=some (some (.bor (.lst (ts++[t])))))(e:fs.set i (some (.bor (.lst ts)))=ak):fz (Aw Gi (Aa i) Af) fs=.ok (.t t) ak:=by
 have h1:Aa i fs=.ok (.x i) fs:=by unfold Aa;rw[h0]
 have h2:FL.Aq fs i=some (.lst (ts++[t])):=by unfold FL.Aq;rw[h0]
 have h3:Bw fs (.x i)=some (ts++[t]):=by simp only[Bw,h2]
 have h5:Gi (.x i) [] fs=.ok (.t t) ak:=by
  have:FL.putAt fs i (.lst ts)=ak:=by unfold FL.putAt;rw[h0];exact e
  simp only[Gi,h2,qp,pU,this,okT]
 refine W9 ?_;unfold Aw;rw[h1];show(if(Bw fs (.x i)).isSome=true then _ else _)=_;rw[h3,if_pos (show(some (ts++[t])).isSome=true from rfl)];exact h5
theorem Bz{f:sT}{fs ae:FS}{r:Rv}(h:f fs=.ok r ae):retS f fs=.ret r ae:=by unfold retS;rw[h];rfl
theorem Hz{g h:FS->SO}{fs ak:FS}{r:Rv}(e:g fs=.ret r ak):Aj g h fs=.ret r ak:=by unfold Aj;rw[e]
theorem US{names:List Str}{O:Nat}(hO:0<O)(hl:O<=names.length)(z:Int):names.getD (z%(O:Int)).toNat ⟨#[]⟩∈names.take O/\atI (names.map T.str) (z%(O:Int))=some (T.str (names.getD (z%(O:Int)).toNat ⟨#[]⟩)):=by
 have h0:0<=z%(O:Int):=pd _ (by lia);have h1:z%(O:Int)<O:=oZ _ (by lia);have hi:(z%(O:Int)).toNat<O:=by lia
 have jA:(z%(O:Int)).toNat<names.length:=by lia
 have e:names.getD (z%(O:Int)).toNat ⟨#[]⟩=names[(z%(O:Int)).toNat]:=by simp[List.getD,jA]
 refine⟨?_,?_⟩
 .rw[e];exact List.mem_take_iff_getElem.mpr ⟨(z%(O:Int)).toNat,by lia,rfl⟩
 .have e2:(names.map T.str)[(z%(O:Int)).toNat]?=some (T.str (names.getD (z%(O:Int)).toNat ⟨#[]⟩)):=by rw[e,ou,nO jA];rfl
  have:=AZ e2;rwa[qb h0]at this
theorem Jcl:∀j,j<26->(!(Builtin.Str.occurrences ABC ⟨#[97+j]⟩ 0 ABC.length 1).isEmpty)=true:=by decide +kernel
theorem Ep:∀bs:List Bool,IA (bs.map T.v)=some bs
 | []=>rfl
 |b::bs=>by simp[IA,Ep bs]
theorem Ja8{x y:Str}{fs:FS}:CK false (.t (.str x)) (.t (.str y)) fs=.ok (.t (.v (!(Builtin.Str.occurrences y x 0 y.length 1).isEmpty))) fs:=rfl
theorem He{z:Str}(h0:1<=z.length)(h1:z.length<=12)(hl:∀x∈z.cps.toList,97<=x/\x<=122):AY [vl (.str z)]=.ok (.t (.v true)) [vl (.str z)]:=by
 have fR:∀x,97<=x/\x<=122->(!(Builtin.Str.occurrences ("abcdefghijklmnopqrstuvwxyz":Str) ⟨#[x]⟩ 0 ("abcdefghijklmnopqrstuvwxyz":Str).length 1).isEmpty)=true:=λx hx=>by have:=Jcl (x-97) (by lia);rwa[show 97+(x-97)=x by lia]at this
 have hlen:Ad AK (Ab (Aa 0) Af) [vl (.str z)]=.ok (.t (.int z.length)) [vl (.str z)]:=by have e:Kz [.t (.str z)] [vl (.str z)]=.ok (.t (.int z.length)) [vl (.str z)]:=if_pos (show z.length<=1000000 by lia);refine DJ (Br (Am rfl) rfl) ?_;unfold AK orC;show(match orC Kz R8 [.t (.str z)] [vl (.str z)]with|o=>o)=_;unfold orC;rw[e]
 have hc:CJ (asB (chain gLe gLe (gc (.int 1)) (Ad AK (Ab (Aa 0) Af)) (gc (.int 12)))) [vl (.str z)]=.ok false [vl (.str z)]:=by
  have e1:gLe (.t (.int 1)) (.t (.int z.length)) [vl (.str z)]=.ok (.t (.v true)) [vl (.str z)]:=by show okT (.v (decide ((1:Int)<=z.length))) _=_;rw[oO (by lia)];rfl
  have e2:gLe (.t (.int z.length)) (.t (.int 12)) [vl (.str z)]=.ok (.t (.v true)) [vl (.str z)]:=by show okT (.v (decide ((z.length:Int)<=12))) _=_;rw[oO (by lia)];rfl
  simp only[CJ,asB,chain,gc,Out.bnd,Out.bind,hlen,e1,e2,Bool.not_true]
 unfold AY AX;show(match Dy [vl (.str z)]with|.nx τ=>_|.ret (.t t) τ=>_|.ret (.nw o) τ=>_|.ret (.x i) τ=>_|.exc c τ=>_|_=>_)=_;have all:Dy [vl (.str z)]=.ret (.t (.v true)) [vl (.str z)]:=by
  unfold Dy;generalize ("abcdefghijklmnopqrstuvwxyz":Str)=L at fR;rw[Kj (MK (h:=nxS) hc rfl)];have e1:itU (fz (Aa 0)) [vl (.str z)]=.ok (signs z) [vl (.str z)]:=rfl;obtain⟨y,hy,e2⟩:=JE (fe:=Ag (CK false) (fz (Aa 0)) (gc (.str L))) (f:=λ_=>.v true) (rest:=[]) (signs z) none [] Bi (λt' mt=>by
    unfold signs at mt;rw[oo]at mt;obtain⟨x,mx,rfl⟩:=mt;refine Bu (Bh (Am rfl)) Ei ?_;rw[Ja8,fR x (hl x mx)]) (by
    unfold signs;rw[nX,pP];show 0+z.length<=1000000
    lia)
  have e3:=Im (src:=[none]) e1 ⟨by rw[show Cn [vl (.str z)] _=[]from rfl];exact oS,by rfl⟩ e2 (AU rfl);have e4:(signs z).map (λ_=>T.v true)=((signs z).map λ_=>true).map T.v:=by rw[om];rfl
  rw[qf,e4]at e3;refine Bz (DJ (Br e3 rfl) ?_);simp only[Yp,Bw,oH,Ep,okT];congr 3;simp
 rw[all];rfl
theorem DD(c:Int)(k:Nat):AY [vl (.str (nmS c k))]=.ok (.t (.v true)) [vl (.str (nmS c k))]:=by
 refine He ?_ ?_ ?_
 .show 1<=(Nm.codes c k).toArray.size;rw[nV];exact Nm.SK c k
 .show(Nm.codes c k).toArray.size<=12;rw[nV];exact Nm.L3 c k
 .intro x hx;exact Nm.Io c k x (by simpa[nmS]using hx)
theorem Wo{c:Int}{k k':Nat}(hk:k<12)(dk:k'<12)(h:nmS c k=nmS c k'):k=k':=by refine Nm.PR (c:=c) hk dk ?_;have:=congrArg (λs:Str=>s.cps.toList) h;simpa[nmS]using this
theorem AF(h1:f fs=.ok r ae)(h2:g ae=.ok rs aq):Ac f g fs=.ok (r::rs) aq:=by unfold Ac;rw[h1];show(g ae).bind _=_;rw[h2];rfl
theorem C0(ha:fa fs=.ok rs ae)(hp:rs.length=p)(hn:(Cn ae (rs.map AE)).Nodup)(hf:Fn (Bx ae (rs.map AE))=.ok (.t t) τ)(hb:Cb (rs.map AE) τ ae=some ak):
  Ad (Ae p Fn) fa fs=.ok (.t t) ak:=by
 unfold Ad;rw[ha];show Ae p Fn rs ae=_;unfold Ae;rw[if_pos hp];unfold En;rw[if_pos hn,hf];dsimp only;rw[hb]
theorem S4(ha:fa fs=.ok rs ae)(hp:rs.length=p)(hn:(Cn ae (rs.map AE)).Nodup)(hf:Fn (Bx ae (rs.map AE))=.ok (.nw o) τ)(hb:Cb (rs.map AE) τ ae=some ak):
  Ad (Ae p Fn) fa fs=.ok (.nw o) ak:=by
 unfold Ad;rw[ha];show Ae p Fn rs ae=_;unfold Ae;rw[if_pos hp];unfold En;rw[if_pos hn,hf];dsimp only;rw[hb]
theorem Jci(h0:fs[i]?=some (some (.own (.lst us))))(h:f fs=.ok (.t t) ae)(gF:ae[i]?=some (some (.own (.lst ts))))(hl:ts.length<big)(e:ae.set i (some (.own (.lst (ts++[t]))))=ak):Au (Aw ET (Aa i) (Ab f Af)) fs=.nx ak:=by
 have h1:Aa i fs=.ok (.x i) fs:=by unfold Aa;rw[h0]
 have h2:FL.Aq fs i=some (.lst us):=by unfold FL.Aq;rw[h0]
 have jo:FL.Aq ae i=some (.lst ts):=by unfold FL.Aq;rw[gF]
 have h3:Bw fs (.x i)=some us:=by simp only[Bw,h2]
 have h4:Ab f Af fs=.ok [.t t] ae:=Bq h rfl;have h5:ET (.x i) [.t t] ae=.ok (.t .l) ak:=by
  simp only[ET,jo];rw[if_pos hl];have:FL.putAt ae i (.lst (ts++[t]))=ak:=by unfold FL.putAt;rw[gF];exact e
  rw[this]
 have h6:Aw ET (Aa i) (Ab f Af) fs=.ok (.t .l) ak:=by unfold Aw;rw[h1];show(if(Bw fs (.x i)).isSome=true then _ else _)=_;rw[h3,if_pos (show(some us).isSome=true from rfl),h4];exact h5
 unfold Au;rw[h6];rfl
def IV:Str×List Str->T:=λr=>.tup [.str r.1,.tup (r.2.map T.str)]
def BP:Str×List (Str×List Str)->T:=λk=>.tup [.str k.1,.lst (k.2.map IV)]
theorem OE{α:Type}{xs:List α}(h:1<=xs.length):∃e z,xs=e++[z]/\e.length+1=xs.length:=by
 have aW:xs≠[]:=by intro q;rw[q]at h;simp at h
 exact⟨xs.dropLast,xs.getLast aW,(oG aW).symm,by rw[List.length_dropLast];lia⟩
theorem last3{ds:List Int}(h:3<=ds.length):∃(e:List Int)(z1 z2 z3:Int),ds.map T.int=e.map T.int++[.int z3]++[.int z2]++[.int z1]/\e.length+3=ds.length:=by obtain⟨d1,z1,rfl,h1⟩:=OE (xs:=ds) (by lia);obtain⟨d2,z2,rfl,h2⟩:=OE (xs:=d1) (by lia);obtain⟨d3,z3,rfl,h3⟩:=OE (xs:=d2) (by lia);exact⟨d3,z1,z2,z3,by simp,by simp at h ⊢⟩
structure Rows(names makers:List Str)(a u:Nat)(rows:List (Str×List Str)):Prop where
 mks:rows.map (·.1)=(List.range rows.length).map λj=>makers.getD (u+j) ⟨#[]⟩
 two:∀r∈rows,r.2.length<=2
 yK:∀r∈rows,∀x∈r.2,x∈names
 fst:∀r,rows[0]?=some r->∀x∈r.2,x∈names.take a
theorem Rows.nil{names makers:List Str}{a u:Nat}:Rows names makers a u []:=⟨rfl,(λ_ m=>nomatch m),(λ_ m=>nomatch m),(λ_ e=>nomatch e)⟩
theorem Rows.snoc{names makers:List Str}{a u:Nat}{rows:List (Str×List Str)}(R:Rows names makers a u rows){ps:List Str}(h1:ps.length<=2)(h2:∀x∈ps,x∈names.take (if rows.length=0 then a else names.length)):Rows names makers a u (rows++[(makers.getD (u+rows.length) ⟨#[]⟩,ps)]):=by
 refine⟨?_,λr m=>?_,λr m x hx=>?_,λr e x hx=>?_⟩
 .rw[nU,R.mks,oi,oI,List.range_succ,nU];rfl
 .rcases oM.mp m with m|m
  .exact R.two r m
  .rw[oE.mp m];exact h1
 .rcases oM.mp m with m|m
  .exact R.yK r m x hx
  .rw[oE.mp m]at hx;exact pI (h2 x hx)
 .cases rows with
  |nil =>
   have:=by simpa using e.symm
   rw[this]at hx;simpa using h2 x hx
  |cons r0 rs =>exact R.fst r (by simpa using e) x hx
theorem VL{i:Nat}{fs ak:FS}{t:T}{ts:List T}(h0:fs[i]?=some (some (.own (.lst (ts++[t])))))(e:fs.set i (some (.own (.lst ts)))=ak):fz (Aw Gi (Aa i) Af) fs=.ok (.t t) ak:=by
 have h1:Aa i fs=.ok (.x i) fs:=by unfold Aa;rw[h0]
 have h2:FL.Aq fs i=some (.lst (ts++[t])):=by unfold FL.Aq;rw[h0]
 have h3:Bw fs (.x i)=some (ts++[t]):=by simp only[Bw,h2]
 have h5:Gi (.x i) [] fs=.ok (.t t) ak:=by
  have:FL.putAt fs i (.lst ts)=ak:=by unfold FL.putAt;rw[h0];exact e
  simp only[Gi,h2,qp,pU,this,okT]
 refine W9 ?_;unfold Aw;rw[h1];show(if(Bw fs (.x i)).isSome=true then _ else _)=_;rw[h3,if_pos (show(some (ts++[t])).isSome=true from rfl)];exact h5
theorem NM{j:Int}{fs ae:FS}{fa:sU}(e:fa fs=.ok [.t (.int j)] ae)(h:-(2^62)<=j/\j<2^62):ES fa fs=.ok (FL.upTo 0 j.toNat) ae:=by unfold ES;rw[e];simp only[Out.bind];exact if_pos h
abbrev Kd:=List (Str×List (Str×List Str))
def used(K:Kd):Nat:=(K.map (·.2.length)).sum
structure KOk(names makers:List Str)(K:Kd):Prop where
 at_:∀a kd,K[a]?=some kd->kd.1=names.getD a ⟨#[]⟩/\1<=kd.2.length/\kd.2.length<=4/\Rows names makers a (used (K.take a)) kd.2
theorem KOk.nil{names makers:List Str}:KOk names makers []:=⟨λa kd e=>by simp at e⟩
theorem KOk.snoc{names makers:List Str}{K:Kd}(h:KOk names makers K){rows:List (Str×List Str)}(h1:1<=rows.length)(h2:rows.length<=4)(R:Rows names makers K.length (used K) rows):KOk names makers (K++[(names.getD K.length ⟨#[]⟩,rows)]):=by
 refine⟨λa kd e=>?_⟩;rcases Nat.lt_trichotomy a K.length with q|q|q
 .rw[qw q]at e;have:=h.at_ a kd e;rwa[List.take_append_of_le_length (by lia)]
 .subst q;have e':=by simpa using e.symm
  subst e';refine⟨rfl,h1,h2,?_⟩;rw[List.take_left']
  .exact R
  .rfl
 .rw[oQ (by simp;lia)]at e;cases e
theorem IM{K:Kd}{k:Str}{rows:List (Str×List Str)}:used (K++[(k,rows)])=used K+rows.length:=by unfold used;simp
theorem B6(c:Int)(n:Nat):(nms c n).length=n:=by unfold nms;simp
theorem NS(h0:fs[o]?=some (some (.own (.n ks ts))))(hv:fv fs=.ok (.t v) fs)(hi:fi fs=.ok (.t (.str k)) fs)(hn:(ks.any λk'=>decide (k'=(.inr k:Key)))=false)(hl:ks.length<big)
  (e:fs.set o (some (.own (.n (ks++[.inr k]) (ts++[v]))))=ak):A1 fv (Aa o) fi fs=.nx ak:=by
 have h1:Aa o fs=.ok (.x o) fs:=by unfold Aa;rw[h0]
 have h2:FL.Aq fs o=some (.n ks ts):=by unfold FL.Aq;rw[h0]
 have h3:GL ks ts (.inr k:Key) v=(ks++[.inr k],ts++[v]):=by unfold GL;rw[hn];rfl
 have h4:FL.putAt fs o (.n (ks++[.inr k]) (ts++[v]))=ak:=by unfold FL.putAt;rw[h0];exact e
 have h5:O5 (.x o) (.t (.str k)) (.t v) fs=.bad:=rfl;have h6:O6 (.x o) (.t (.str k)) (.t v) fs=.nx ak:=by simp only[O6,h2,FH,hl,if_true,h3,h4]
 unfold A1;rw[hv];simp only[Out.bnd,Out.bind];rw[h1];simp only;rw[hi];simp only[SO.of];unfold O4;rw[h5];exact h6
theorem Nq(h1:tgN i x fs=some ae)(h2:tgN j y ae=some aq):AD 2 (Ai (tgN i) (Ai (tgN j) AB)) (.tup [x,y]) fs=some aq:=by have e:AD 2 (Ai (tgN i) (Ai (tgN j) AB)) (.tup [x,y]) fs=Ai (tgN i) (Ai (tgN j) AB) [x,y] fs:=rfl;rw[e];simp only[Ai,h1,h2,oH,AB]
def Cc(K:Kd):List Key:=K.map λkd=>(.inr kd.1:Key)
def NJ(K:Kd):List T:=K.map λkd=>T.lst (kd.2.map IV)
theorem any_false{ks:List Key}(h:k∉ks):(ks.any λk'=>decide (k'=k))=false:=by rw[qA];intro x hx;rw[decide_eq_true_eq];intro e;exact h (e▸hx)
theorem sq(e:g fs=.nx ak)(e2:h ak=r):Aj g h fs=r:=(Kj e).trans e2
theorem Hr(h:f fs=.ok (.t (.v b)) ae):asB f fs=.ok b ae:=by unfold asB;rw[h];rfl
theorem Oh(h:f fs=.ok b ae):CJ f fs=.ok (!b) ae:=by unfold CJ;rw[h];rfl
theorem Nv(h:f fs=.ok (.t (.v b)) ae):DL f fs=.ok b ae:=by unfold DL;rw[h];rfl
theorem JaS(hc:c fs=.ok false ae)(e:h ae=r):ifS c g h fs=r:=by unfold ifS;rwa[hc]
theorem JaQ(hc:c fs=.ok true ae)(e:g ae=r):ifS c g h fs=r:=by unfold ifS;rwa[hc]
theorem Cf(h:fs[i]?=some (some (.own o))):Aa i fs=.ok (.x i) fs:=by unfold Aa;rw[h]
theorem HZ(h:fs[i]?=some (some (.bor o))):Aa i fs=.ok (.x i) fs:=by unfold Aa;rw[h]
theorem objO(h:fs[i]?=some (some (.own o))):FL.Aq fs i=some o:=by unfold FL.Aq;rw[h]
theorem HI(h:fs[i]?=some (some (.bor o))):FL.Aq fs i=some o:=by unfold FL.Aq;rw[h]
theorem KJ(h:f fs=.ok r ae):Au f fs=.nx ae:=by unfold Au;rw[h];rfl
theorem C9 [DecidableEq κ]:∀{ks:List κ}{ts:List T}{k:κ},k∉ks->By ks ts k=none
 | [],_,_,_=>by unfold By;rfl
 |k'::ks,[],k,_=>by unfold By;rfl
 |k'::ks,t::ts,k,h=>by
  have h1:k'≠k:=λe=>h (e▸n4)
  simp only[By,if_neg h1,C9 (λm=>h (nZ _ m))]
theorem B3{κ α:Type}[DecidableEq κ]{f:α->κ}{g:α->T}:∀{xs:List α}{x:α},x∈xs->(xs.map f).Nodup->By (xs.map f) (xs.map g) (f x)=some (g x)
 |y::ys,x,m,nd=>by
  rw[nQ,nQ];unfold By;rw[nQ,oK]at nd;by_cases e:f y=f x
  .rw[if_pos e];rcases oh.mp m with rfl|m
   .rfl
   .exact(nd.1 (oo.mpr ⟨x,m,e.symm⟩)).elim
  .rw[if_neg e];rcases oh.mp m with rfl|m
   .exact(e rfl).elim
   .exact B3 m nd.2
theorem JaO(h:FL.Aq fs i=some (.n ks ts)):CK neg (.t (.str k)) (.x i) fs=.ok (.t (.v (if neg then !(By ks ts (.inr k:Key)).isSome else(By ks ts (.inr k:Key)).isSome))) fs:=by
 unfold CK orG;have e:W8 neg (.t (.str k)) (.x i) fs=.ok (.t (.v (if neg then !(By ks ts (.inr k:Key)).isSome else(By ks ts (.inr k:Key)).isSome))) fs:=by simp only[W8,XJ,h,FH];rfl
 rw[e]
theorem in_t:CK neg (.t (.str k)) (.t (.n ks ts)) fs=.ok (.t (.v (if neg then !(By ks ts (.inr k:Key)).isSome else(By ks ts (.inr k:Key)).isSome))) fs:=rfl
theorem HF:∀xs:List Str,VP (xs.map T.str)=some (xs.map V.str)
 | []=>rfl
 |x::xs=>by simp only[nQ,VP,plV,oH,HF xs,pA]
theorem Kx(k:Str):∀xs:List Str,inV (.str k) (xs.map V.str)=decide (k∈xs)
 | []=>by simp[inV]
 |x::xs=>by
  have:=Kx k xs;unfold inV at this ⊢;rw[nQ,qh,this];have e:eqV (.str x) (.str k)=decide (k=x):=by show(x==k)=_;rw[pC,beq_iff_eq,decide_eq_true_eq];exact eq_comm
  rw[e,pC];simp
theorem JaP{xs:List Str}:CK neg (.t (.str k)) (.t (.lst (xs.map T.str))) fs=.ok (.t (.v (if neg then !decide (k∈xs)else decide (k∈xs)))) fs:=by
 have e:gIn neg (.t (.str k)) (.t (.lst (xs.map T.str))) fs=.ok (.t (.v (if neg then !decide (k∈xs)else decide (k∈xs)))) fs:=by simp only[gIn,plV,Bw,HF,okT,Kx]
 exact e
theorem Us{xs:List Str}(h:FL.Aq fs i=some (.lst (xs.map T.str))):CK neg (.t (.str k)) (.x i) fs=.ok (.t (.v (if neg then !decide (k∈xs)else decide (k∈xs)))) fs:=by
 have e:gIn neg (.t (.str k)) (.x i) fs=.ok (.t (.v (if neg then !decide (k∈xs)else decide (k∈xs)))) fs:=by simp only[gIn,plV,Bw,h,HF,okT,Kx]
 have e1:W8 neg (.t (.str k)) (.x i) fs=.bad:=by simp only[W8,XJ,h]
 unfold CK orG;rw[e1];exact e
theorem SN{a b c:Int}(ha:fa fs=.ok (.t (.int a)) fs)(hb:fb fs=.ok (.t (.int b)) fs)(hc:fc fs=.ok (.t (.int c)) fs)(h1:a<=b)(h2:b<=c):CJ (asB (chain gLe gLe fa fb fc)) fs=.ok false fs:=by
 have e1:gLe (.t (.int a)) (.t (.int b)) fs=.ok (.t (.v true)) fs:=by show okT (.v (decide (a<=b))) _=_;rw[oO h1];rfl
 have e2:gLe (.t (.int b)) (.t (.int c)) fs=.ok (.t (.v true)) fs:=by show okT (.v (decide (b<=c))) _=_;rw[oO h2];rfl
 simp only[CJ,asB,chain,Out.bnd,Out.bind,ha,hb,hc,e1,e2,Bool.not_true]
theorem OD(h:f fs=.ok (.t x) ae)(hs:x=.lst ts\/x=.tup ts):Ad AK (Ab f Af) fs=.ok (.t (.int ts.length)) ae:=by unfold Ad;rw[Bq h (show Af ae=.ok [] ae from rfl)];rcases hs with rfl|rfl<;>rfl
theorem S6{p:Nat}{Fn:sT}{fa:sU}{fs ae τ:FS}{rs:List Rv}{t:T}(ha:fa fs=.ok rs ae)(hp:rs.length=p)(hn:Cn ae (rs.map AE)=[])(hf:Fn (Bx ae (rs.map AE))=.ok (.t t) τ):Ad (Ae p Fn) fa fs=.ok (.t t) ae :=
 C0 ha hp (by rw[hn];exact oS) hf (AU hn)
theorem A2:Af fs=.ok [] fs:=rfl
theorem Ja9:gEq false (.t (.str x)) (.t (.str y)) fs=.ok (.t (.v (decide (x=y)))) fs:=by
 have q:decide (V.str x=V.str y)=decide (x=y):=by
  by_cases h:x=y
  .subst h;simp
  .rw[oF h,oF (by intro z;cases z;exact h rfl)]
 show(if Vv (V.str x) (V.str y)=true then okT (.v (if false=true then _ else decide (V.str x=V.str y))) fs else .bad)=_;rw[if_pos (show Vv (V.str x) (V.str y)=true from rfl),q];rfl
def mks(K:Kd):List Str:=K.flatMap λkd=>kd.2.map (·.1)
def BU(K:Kd):List Key:=(mks K).map λm=>(.inr m:Key)
structure Well(K:Kd):Prop where
 lo:1<=K.length
 hi:K.length<=4
 nd:(K.map (·.1)).Nodup
 nm:∀kd∈K,AY [vl (.str kd.1)]=.ok (.t (.v true)) [vl (.str kd.1)]
 rw:∀kd∈K,1<=kd.2.length/\kd.2.length<=4
 yE:(mks K).Nodup
 xy:∀m∈mks K,AY [vl (.str m)]=.ok (.t (.v true)) [vl (.str m)]
 xu:∀m∈mks K,m.length<=12
 two:∀kd∈K,∀r∈kd.2,r.2.length<=2
 yK:∀kd∈K,∀r∈kd.2,∀x∈r.2,x∈K.map (·.1)
 gr:∀D kd R,K=D++kd::R->∀r,kd.2[0]?=some r->∀x∈r.2,x∈D.map (·.1)
theorem Wz(h1:kd∈K)(h2:r∈kd.2):r.1∈mks K:=qF.mpr ⟨kd,h1,oo.mpr ⟨r,h2,rfl⟩⟩
theorem Oq(h4:K.length<=4)(hr:∀kd∈K,kd.2.length<=4):(mks K).length<=16:=by
 have:∀K:Kd,(∀kd∈K,kd.2.length<=4)->(mks K).length<=4*K.length:=by
  intro K
  induction K with
  |nil=>intro _;simp[mks]
  |cons kd K ih =>
   intro h;have:=ih λkd m=>h kd (nZ _ m)
   have h1:=h kd n4;unfold mks at this ⊢;rw[pR,oi,nX,n8]
   lia
 have:=this K hr
 lia
theorem FZ(D R:Kd):mks (D++R)=mks D++mks R:=by unfold mks;rw[qa]
theorem HN(kd:Str×List (Str×List Str))(R:Kd):mks (kd::R)=kd.2.map (·.1)++mks R:=by unfold mks;rw[pR]
theorem QP{rs:List (Str×List Str)}(h:(rs.map (·.1)).Nodup)(m:r∈rs)(m':r'∈rs)(e:r.1=r'.1):r=r':=by
 induction rs with
 |nil=>cases m
 |cons a rs ih =>
  rw[nQ,oK]at h;rcases oh.mp m with q|q
  .rcases oh.mp m' with q'|q'
   .rw[q,q']
   .exact(h.1 (oo.mpr ⟨r',q',by rw[<- e,q]⟩)).elim
  .rcases oh.mp m' with q'|q'
   .exact(h.1 (oo.mpr ⟨r,q,by rw[e,q']⟩)).elim
   .exact ih h.2 q q'
def Uo(r:Str×List Str):Key:=.inr r.1
theorem Ew(D:Kd)(kd:Str×List (Str×List Str)):BU (D++[kd])=BU D++kd.2.map Uo:=by unfold BU;simp[mks,Uo]
theorem B8{xs:List Str}(h:xs.Nodup):(xs.map λm=>(.inr m:Key)).Nodup:=by
 induction xs with
 |nil=>simp
 |cons x xs ih =>
  rw[oK]at h;rw[nQ,oK];refine⟨λm=>?_,ih h.2⟩;rw[oo]at m;obtain⟨y,my,e⟩:=m;have:y=x:=by simpa using e
  exact h.1 (this▸my)
theorem Well.part(W:Well K)(e:D++kd::R=K):(BU D++kd.2.map Uo).Nodup/\(BU D).length+kd.2.length<1000/\kd∈K/\(kd.2.map (·.1)).Nodup:=by
 have h:=W.yE;have hl:=Oq W.hi λkd m=>(W.rw kd m).2
 rw[<- e,FZ,HN]at h hl;refine⟨?_,?_,by rw[<- e];simp,?_⟩
 .rw[<- Ew];refine B8 ?_;rw[FZ,HN];simp only[mks,List.flatMap_nil,oN];rw[<- oV]at h;exact(oU.mp h).1
 .unfold BU;rw[nX];simp at hl
  lia
 .exact(oU.mp (oU.mp h).2.1).1
theorem UD{C:Addr}{f:Str}{i:Nat}{fv:sT}{fs ae ak:FS}{gs cJ:List Str}{os bo:List FO}{o:FO}(hv:fv fs=.ok (.nw o) ae)(h0:ae[i]?=some (some (.bor (.ins C gs os))))(hl:gs.length<900)(hp:De gs os f o=some (cJ,bo))(e:ae.set i (some (.bor (.ins C cJ bo)))=ak):DS C f i fv fs=.nx ak:=by unfold DS;rw[hv];simp only[SO.of,Yt,HI h0];rw[if_pos ⟨trivial,hl⟩,hp];simp only;unfold FL.putAt;rw[h0];simp only[Sl.put,e]
theorem XH{os:List FO}{ks:List Key}{ts:List T}{k:Str}{t:T}(hv:fv fs=.ok (.t t) ae)(h0:ae[i]?=some (some (.bor (.ins C gs os))))(hj:ae[j]?=some (vl (.str k)))(hf:AQ gs os f=some (.n ks ts))(hn:(.inr k:Key)∉ks)(hl:ks.length<big)
  (e:ae.set i (some (.bor (.ins C gs (BO gs os f (.n (ks++[.inr k]) (ts++[t]))))))=ak):BF C f i j fv fs=.nx ak:=by
 have h3:GL ks ts (.inr k:Key) t=(ks++[.inr k],ts++[t]):=by unfold GL;rw[any_false hn];rfl
 unfold BF;rw[hv];simp only[SO.of,HI h0,hj,FH,hf,if_true,hl,h3];unfold FL.putAt;rw[h0];simp only[Sl.put,e]
def Yk(rows:List (Str×List Str)):List T:=rows.map λr=>T.tup (r.2.map T.str)
def NX(K:Kd):List T:=K.flatMap λkd=>Yk kd.2
def MM(k:Str)(rows:List (Str×List Str)):List T:=rows.map λ_=>T.str k
def Dk(K:Kd):List T:=K.flatMap λkd=>MM kd.1 kd.2
def HQ(K:Kd):List T:=K.map λkd=>T.lst ((kd.2.map (·.1)).map T.str)
theorem NW(D:Kd)(kd:Str×List (Str×List Str)):NX (D++[kd])=NX D++Yk kd.2:=by unfold NX;simp
theorem HL:("makers_by_kind":Str)≠("parts_by_maker":Str)/\("makers_by_kind":Str)≠("home_by_maker":Str)/\("parts_by_maker":Str)≠("home_by_maker":Str):=by decide +kernel
def TL(C:Addr)(K:Kd)(hs:List T):FO:=.ins C ["makers_by_kind","parts_by_maker","home_by_maker"] [.n (Cc K) (HQ K),.n (BU K) (NX K),.n (BU K) hs]
def A7(C:Addr)(K:Kd)(hs:List T):T:=.ins C ["makers_by_kind","parts_by_maker","home_by_maker"] [.n (Cc K) (HQ K),.n (BU K) (NX K),.n (BU K) hs]
theorem Pj{C:Addr}{K:Kd}{hs:List T}{i:Nat}{fs:FS}(h:fs[i]?=some (vl (A7 C K hs))):Cg C "makers_by_kind" (Aa i) fs=.ok (.t (.n (Cc K) (HQ K))) fs:=by unfold Cg;rw[Am h];obtain⟨hJ,hU,hV⟩:=HL;unfold A7;generalize ("makers_by_kind":Str)=A at *;simp[Out.bnd,Out.bind,W7,E7,okT]
theorem UC{C:Addr}{K:Kd}{hs:List T}{i:Nat}{fs:FS}(h:fs[i]?=some (vl (A7 C K hs))):Cg C "parts_by_maker" (Aa i) fs=.ok (.t (.n (BU K) (NX K))) fs:=by unfold Cg;rw[Am h];obtain⟨hJ,hU,hV⟩:=HL;unfold A7;generalize ("makers_by_kind":Str)=A at *;generalize ("parts_by_maker":Str)=B at *;simp[Out.bnd,Out.bind,W7,E7,okT,Ne.symm hJ]
theorem La{C:Addr}{K:Kd}{hs:List T}:BE C [vl (A7 C K hs)]=.ok (.nw (.lst ((K.map (·.1)).map T.str))) [vl (A7 C K hs)]:=by
 have all:B0 C [vl (A7 C K hs)]=.ret (.nw (.lst ((K.map (·.1)).map T.str))) [vl (A7 C K hs)]:=by unfold B0;refine Bz (DJ (Br (Pj rfl) rfl) ?_);show Out.ok (Rv.nw (.lst ((Cc K).map J0))) _=_;unfold Cc;rw[om,om];rfl
 unfold BE AX;show(match B0 C [vl (A7 C K hs)]with|.nx τ=>_|.ret (.t t) τ=>_|.ret (.nw o) τ=>_|.ret (.x i) τ=>_|.exc c τ=>_|_=>_)=_;rw[all];rfl
theorem Gd(W:Well K):(K.map λkd=>(.inr kd.1:Key)).Nodup:=by have:=B8 W.nd;rwa[om]at this
theorem val_mk(W:Well K)(m:kd∈K):By (Cc K) (HQ K) (.inr kd.1:Key)=some (.lst ((kd.2.map (·.1)).map T.str)) :=
 B3 m (Gd W)
theorem DA{K:Kd}(W:Well K){kd:Str×List (Str×List Str)}(m:kd∈K):By (Cc K) (NJ K) (.inr kd.1:Key)=some (.lst (kd.2.map IV)) :=
 B3 m (Gd W)
def allR(K:Kd):List (Str×List Str):=K.flatMap (·.2)
theorem F0(K:Kd):BU K=(allR K).map Uo:=by unfold BU mks allR;rw[pW,pW];simp only[om];rfl
theorem Q2(K:Kd):NX K=(allR K).map λr=>T.tup (r.2.map T.str):=by unfold NX Yk allR;rw[pW]
theorem Tz(W:Well K)(m:kd∈K)(m2:r∈kd.2):By (BU K) (NX K) (.inr r.1:Key)=some (.tup (r.2.map T.str)):=by have h:=B8 W.yE;have h2:=F0 K;unfold BU at h2;rw[h2]at h;rw[F0,Q2];exact B3 (qF.mpr ⟨kd,m,m2⟩) h
theorem R0(h:By ks ts (.inr k:Key)=some t):Ap (.t (.n ks ts)) (.t (.str k)) fs=.ok (.t t) fs:=by
 have e:KC (.t (.n ks ts)) (.t (.str k)) fs=.ok (.t t) fs:=by simp only[KC,XJ,FH,pA,h,okT]
 exact e
theorem FN{C:Addr}{K:Kd}{hs:List T}(W:Well K){kd:Str×List (Str×List Str)}(m:kd∈K):Ba C [vl (A7 C K hs),vl (.str kd.1)]=.ok (.nw (.lst ((kd.2.map (·.1)).map T.str))) [vl (A7 C K hs),vl (.str kd.1)]:=by
 have all:BM C [vl (A7 C K hs),vl (.str kd.1)]=.ret (.nw (.lst ((kd.2.map (·.1)).map T.str))) [vl (A7 C K hs),vl (.str kd.1)]:=by
  unfold BM;refine sq (MK (Hr (Bu (Bh (Am rfl)) (Pj rfl) ?_)) rfl) ?_
  .rw[in_t,val_mk W m];rfl
  exact Bz (DJ (Br (Bu (Pj rfl) (Bh (Am rfl)) (R0 (val_mk W m))) rfl) rfl)
 unfold Ba AX;show(match BM C [vl (A7 C K hs),vl (.str kd.1)]with|.nx τ=>_|.ret (.t t) τ=>_|.ret (.nw o) τ=>_|.ret (.x i) τ=>_|.exc c τ=>_|_=>_)=_;rw[all];rfl
theorem K9{C:Addr}{K:Kd}{hs:List T}(W:Well K){kd:Str×List (Str×List Str)}{r:Str×List Str}(m:kd∈K)(m2:r∈kd.2):BD C [vl (A7 C K hs),vl (.str r.1)]=.ok (.t (.tup (r.2.map T.str))) [vl (A7 C K hs),vl (.str r.1)]:=by
 have all:BZ C [vl (A7 C K hs),vl (.str r.1)]=.ret (.t (.tup (r.2.map T.str))) [vl (A7 C K hs),vl (.str r.1)]:=by
  unfold BZ;refine sq (MK (Hr (Bu (Bh (Am rfl)) (UC rfl) ?_)) rfl) ?_
  .rw[in_t,Tz W m m2];rfl
  exact Bz (Bu (UC rfl) (Bh (Am rfl)) (R0 (Tz W m m2)))
 unfold BD AX;show(match BZ C [vl (A7 C K hs),vl (.str r.1)]with|.nx τ=>_|.ret (.t t) τ=>_|.ret (.nw o) τ=>_|.ret (.x i) τ=>_|.exc c τ=>_|_=>_)=_;rw[all];rfl
theorem RG{mt:Str}(h:(["makers_by_kind","parts_by_maker","home_by_maker"]:List Str).any (·==mt)=false):DR C mt fs (.t (A7 C K hs))=true:=by unfold DR A7;simp only[h];simp
theorem UW{f g:sT}{fs ae:FS}{r:Out Rv}(h:f fs=.ok (.t (.v true)) ae)(e:g ae=r):Jcj f g fs=r:=by unfold Jcj;rw[h];exact e
theorem LQ{gt:sW}{body:FS->SO}{t:T}{ts:List T}{fs ae aq:FS}(h1:gt t fs=some ae)(h2:body ae=.nx aq):Dl gt body (t::ts) fs=Dl gt body ts aq:=by simp only[Dl,h1,h2]
theorem Xd{gt:sW}{body:FS->SO}{t:T}{ts:List T}{fs ae aq:FS}{r:Rv}(h1:gt t fs=some ae)(h2:body ae=.ret r aq):Dl gt body (t::ts) fs=.ret r aq:=by simp only[Dl,h1,h2]
theorem Bf{g:List Rv->sT}{fa:sU}{fs ae:FS}{rs:List Rv}{r:Out Rv}(h:fa fs=.ok rs ae)(h2:g rs ae=r):Ad g fa fs=r:=by unfold Ad;rw[h];exact h2
theorem Fs{gt:sW}{fe:sT}{t v:T}{ts ar:List T}{τ e9 bq:FS}(h1:gt t τ=some e9)(h2:fe e9=.ok (.t v) bq)(hl:ar.length<big):A9 gt C7 fe (t::ts) τ ar=A9 gt C7 fe ts bq (ar++[v]):=by simp only[A9,h1,C7,h2,if_pos hl]
theorem idx{K:Kd}{x:Str}(h:x∈K.map (·.1)):∃b kd,K[b]?=some kd/\kd.1=x/\b<K.length:=by rw[oo]at h;obtain⟨kd,m,e⟩:=h;obtain⟨b,hb,eb⟩:=qo.mp m;exact⟨b,kd,by rw[nO hb,eb],e,hb⟩
def need(j a:Nat):Nat:=if j=0 then a+1 else j+4
theorem TN{fs:FS}{i:Nat}{ts:List T}(h:fs[i]?=some (some (.own (.lst ts)))):Bw fs (.x i)=some ts:=by simp only[Bw,objO h]
theorem IB{f g:sV}{fs:FS}{a b:Bool}(h1:f fs=.ok a fs)(h2:g fs=.ok b fs):GF f g fs=.ok (a&&b) fs:=by
 unfold GF;rw[h1];cases a
 .rfl
 .show g fs=_;rw[h2];rfl
theorem Jcc{ps us:List T}{fs:FS}(h:ps.length+us.length<=big):Az (.t (.tup ps)) (.t (.tup us)) fs=.ok (.t (.tup (ps++us))) fs:=by cases ps with|nil=>rfl|cons p ps =>have:Pc (.t (.tup (p::ps))) (.t (.tup us)) fs=.ok (.t (.tup (p::ps++us))) fs:=if_pos ⟨by simp,h⟩;show(match Pc (.t (.tup (p::ps))) (.t (.tup us)) fs with|.bad=>_|o=>o)=_;rw[this]
open PySem.Builtin.Int (intBits)
theorem X7{x:Int}{n:Nat}:intBits x<=n↔x.natAbs<2^n:=by
 unfold intBits;by_cases h:x=0
 .subst h;simp[Nat.two_pow_pos]
 .have h':(x==0)=false:=by simpa using h
  rw[h'];have hn:x.natAbs≠0:=by lia
  have:=Nat.log2_lt hn (k:=n);simp only[Bool.false_eq_true,if_false]
  lia
theorem L5:∀{ns:List Int}{z:Int},z∈ns->intBits z<=Ca ns
 |n::ns,z,h=>by
  simp only[Ca];rcases oh.mp h with rfl|h
  .lia
  .have:=L5 h
   lia
theorem S8{ns:List Int}{N:Nat}(hb:Ca ns<=N)(i:Nat):intBits (ns.getD i 0)<=N:=by
 by_cases h:i<ns.length
 .have:ns.getD i 0∈ns:=by simp[List.getD,h]
  have:=L5 this
  lia
 .have:ns.getD i 0=0:=by simp[List.getD,oQ (by lia:ns.length<=i)]
  rw[this,X7];exact Nat.two_pow_pos N
theorem Df(c:Int){n:Nat}(h:n<=12):(nms c n).Nodup:=by unfold nms;rw[List.nodup_iff_pairwise_ne,List.pairwise_map];refine List.Pairwise.imp_of_mem ?_ (List.nodup_iff_pairwise_ne.mp (List.nodup_range));intro a b ma mb fk e;rw[pw]at ma mb;exact fk (Wo (by lia) (by lia) e)
theorem Eu{c:Int}{n:Nat}{x:Str}(h:x∈nms c n):∃k,x=nmS c k:=by unfold nms at h;rw[oo]at h;obtain⟨k,_,e⟩:=h;exact⟨k,e.symm⟩
theorem Wn(c:Int)(k:Nat):(nmS c k).length<=12:=by show(Nm.codes c k).toArray.size<=12;rw[nV];exact Nm.L3 c k
theorem GZ(K:Kd)(kd:Str×List (Str×List Str)):used (K++[kd])=used K+kd.2.length:=by unfold used;simp
theorem HM{names makers:List Str}{K:Kd}(h:KOk names makers K)(hu:used K<=makers.length):∀a,a<=K.length->mks (K.take a)=makers.take (used (K.take a))/\used (K.take a)<=used K
 |0,_=>by simp[mks,used]
 |a+1,ha=>by
  obtain⟨i1,i2⟩:=HM h hu a (by lia);have eQ:a<K.length:=by lia
  obtain⟨_,_,_,R⟩:=h.at_ a K[a] (nO eQ);have e:K.take (a+1)=K.take a++[K[a]]:=by rw[pH eQ]
  have hle:used (K.take (a+1))<=used K:=by
   have:K=K.take (a+1)++K.drop (a+1):=(qk _ _).symm
   conv=>rhs;rw[this]
   unfold used;rw[nU,List.sum_append]
   lia
  refine⟨?_,hle⟩;rw[e]at hle ⊢;rw[FZ,GZ,i1,HN];rw[GZ]at hle;simp only[mks,List.flatMap_nil,oN];rw[R.mks];generalize used (K.take a)=u at *;generalize K[a].2.length=l at *;rw[List.take_add];congr 1;refine List.ext_getElem? λj=>?_
  rw[pG];by_cases hj:j<l
  .rw[if_pos hj,List.getElem?_drop,ou,pO hj];have:u+j<makers.length:=by lia
   simp[List.getD,this]
  .rw[if_neg hj,oQ (by simp;lia)]
theorem well{c0 c1:Int}{K:Kd}(h1:1<=K.length)(h4:K.length<=4)(h:KOk (nms c0 K.length) (nms c1 12) K)(hu:used K<=12):Well K:=by
 have bE:K.map (·.1)=nms c0 K.length:=by
  refine List.ext_getElem? λi=>?_
  rw[ou];by_cases hi:i<K.length
  .have:=(h.at_ i K[i] (nO hi)).1;rw[nO hi,pA,this,nO (by rw[B6];exact hi)];simp[List.getD,B6,hi]
  .rw[oQ (by lia),oQ (by rw[B6];lia)];rfl
 have fW:=by have:=(HM h (by rw[B6];exact hu) K.length (n9 _)).1;rwa[pQ]at this
 have h9:∀kd∈K,∃a,a<K.length/\1<=kd.2.length/\kd.2.length<=4/\Rows (nms c0 K.length) (nms c1 12) a (used (K.take a)) kd.2:=λkd m=>by obtain⟨a,ha,ea⟩:=qo.mp m;obtain⟨_,q1,q2,R⟩:=h.at_ a kd (by rw[nO ha,ea]);exact⟨a,ha,q1,q2,R⟩
 have jE:∀m∈mks K,∃k,m=nmS c1 k:=λm hm=>by rw[fW]at hm;exact Eu (pI hm)
 refine⟨h1,h4,?_,λkd m=>?_,λkd m=>?_,?_,λm hm=>?_,λm hm=>?_,λkd m r hr=>?_,λkd m r hr x hx=>?_,λD kd R e r hr x hx=>?_⟩
 .rw[bE];exact Df c0 (by lia)
 .have:kd.1∈nms c0 K.length:=by rw[<- bE];exact oo.mpr ⟨kd,m,rfl⟩
  obtain⟨k,e⟩:=Eu this;rw[e];exact DD c0 k
 .obtain⟨a,_,q1,q2,_⟩:=h9 kd m;exact⟨q1,q2⟩
 .rw[fW];exact(Df c1 (n9 12)).sublist (px _ _)
 .obtain⟨k,e⟩:=jE m hm;rw[e];exact DD c1 k
 .obtain⟨k,e⟩:=jE m hm;rw[e];exact Wn c1 k
 .obtain⟨a,_,_,_,R⟩:=h9 kd m;exact R.two r hr
 .obtain⟨a,_,_,_,R⟩:=h9 kd m;rw[bE];exact R.yK r hr x hx
 .obtain⟨_,_,_,Rw⟩:=h.at_ D.length kd (by rw[e];simp);have:=Rw.fst r hr x hx;rw[<- bE,e,nU]at this;rwa[List.take_left' (by simp)]at this
theorem Ey{C:Addr}{p:Nat}{Fn:sT}{fa:sU}{fs ae τ:FS}{rs:List Rv}{o:FO}(ha:fa fs=.ok rs ae)(hp:rs.length+1=p)(hl:Cn ae (rs.map AE)=[])(hf:Fn (some (.bor (.ins C [] []))::Bx ae (rs.map AE))=.ok (.t .l) (some (.bor o)::τ)):Ad (BW C p Fn) fa fs=.ok (.nw o) ae:=by unfold Ad;rw[ha];show BW C p Fn rs ae=_;unfold BW;rw[if_pos ⟨by rw[hl];exact oS,hp⟩,hf];dsimp only;rw[AU hl]
theorem X1{xs ys:List T}{fs:FS}(h:xs.length+ys.length<=big):Az (.t (.lst xs)) (.t (.lst ys)) fs=.ok (.nw (.lst (xs++ys))) fs:=by
 have:MU (.t (.lst xs)) (.t (.lst ys)) fs=.ok (.nw (.lst (xs++ys))) fs:=by simp only[MU,exL];exact if_pos h
 show(match MU (.t (.lst xs)) (.t (.lst ys)) fs with|.bad=>_|o=>o)=_;rw[this]
theorem TM(e:fs[i]?=some x)(h:Fre x):GH i (.nw o) fs=some (fs.set i (some (.own o))):=by unfold GH;rw[e];cases x with|none=>rfl|some s=>cases s with|val t=>rfl|own o=>rfl|bor o=>exact h.elim
theorem EL(h:g (args++List.replicate n none)=.ret (.t t) τ):AX n g args=.ok (.t t) (τ.take args.length):=by unfold AX;rw[h]
theorem QO(h:g (args++List.replicate n none)=.ret (.x i) τ)(hi:τ[i]?=some (some (.own o))):AX n g args=.ok (.nw o) ((τ.set i none).take args.length):=by unfold AX;rw[h];simp only[hi]
theorem NI(h:g (args++List.replicate n none)=.ret (.nw o) τ):AX n g args=.ok (.nw o) (τ.take args.length):=by unfold AX;rw[h]
def exN(s:Str):T:=.tup [.str "name",.str s]
def exP(h s:Str)(ts:List T):T:=.tup [.str h,.str s,.tup ts]
theorem KI(m:Nat)(a b:Str):eqT m (.str a) (.str b)=some (a==b):=by cases m<;>rfl
theorem Ih(m:Nat)(xs ys:List T):eqT (m+1) (.tup xs) (.tup ys)=(IG (eqT m) xs ys).map (·&&xs.length==ys.length):=rfl
theorem WO{T':String}{n:String}{f:sT}{fs:FS}{t:T}(h:f fs=.ok (.t t) fs)(e:tyT t=some n)(hs:Vm n T'=true):CJ (DL (isF T' f)) fs=.ok false fs:=by
 have:isF T' f fs=.ok (.t (.v true)) fs:=by unfold isF;rw[h];simp only[Out.bnd,Out.bind,e,hs]
 exact Oh (Nv this)
theorem K0{c:sV}{b:FS->SO}{n:Nat}{fs ak:FS}(h:c fs=.ok true fs)(e:b fs=.nx ak):BN c b (n+1) fs=BN c b n ak:=by rw[BN,h];show(match b fs with|.nx fs=>BN c b n fs|.cnt fs=>_|.brk fs=>_|o=>o)=_;rw[e]
theorem Ld(e:g fs=.exc c ak):Aj g h fs=.exc c ak:=by unfold Aj;rw[e]
theorem Ff(h:g (args++List.replicate n none)=.exc c τ):AX n g args=.exc c (τ.take args.length):=by unfold AX;rw[h]
theorem JM(ha:fa fs=.ok rs ae)(hp:rs.length=p)(hn:Cn ae (rs.map AE)=[])(hf:Fn (Bx ae (rs.map AE))=.exc c τ):Ad (Ae p Fn) fa fs=.exc c ae:=by unfold Ad;rw[ha];show Ae p Fn rs ae=_;unfold Ae;rw[if_pos hp];unfold En;rw[if_pos (by rw[hn];exact oS),hf];simp only[(AU hn)]
theorem Uy{f:sT}{fs ae:FS}{c:Str}(h:f fs=.exc c ae):fz f fs=.exc c ae:=by unfold fz;rw[h];rfl
theorem QT{f:sT}{fs ae:FS}{c:Str}(h:f fs=.exc c ae):retS f fs=.exc c ae:=by unfold retS;rw[h];rfl
theorem Jy(h:f fs=.exc c ae):Au f fs=.exc c ae:=by unfold Au;rw[h];rfl
theorem QJ{i:Nat}{f:sT}{fs ae:FS}{c:Str}(h:f fs=.exc c ae):Av i f fs=.exc c ae:=by unfold Av;rw[h];rfl
def Nn:Rv->Prop
 |.nw _=>False
 |_=>True
section
variable{α:Type}{i j p:Nat}
theorem BG{k:Rv->FS->Out α}(n:Nn x):(Out.ok x fs).bnd k=k x fs:=by cases x<;>first|rfl|exact n.elim
theorem x_bin(h1:fa fs=.ok x ae)(n1:Nn x)(h2:fb ae=.ok y aq)(n2:Nn y)(h3:g x y aq=o):Ag g fa fb fs=o:=by unfold Ag;rw[h1,BG n1];show(fb ae).bnd _=_;rw[h2,BG n2];exact h3
theorem CL(h1:f fs=.ok x ae)(n1:Nn x)(h2:ga ae=.ok rs aq):Ab f ga fs=.ok (x::rs) aq:=by unfold Ab;rw[h1,BG n1];show(ga ae).bind _=_;rw[h2];rfl
def fzR:Rv->sT
 |.t t,fs=>.ok (.t t) fs
 |.nw o,fs=>.ok (.t (toT o)) fs
 |.x i,fs=>match fs[i]? with|some (some (.own o))=>.ok (.t (toT o)) (fs.set i (some (.val (toT o))))|_=>.bad
theorem x_fz(h:f fs=.ok r ae)(e:fzR r ae=o):fz f fs=o:=by unfold fz;rw[h];show _=_;cases r<;>exact e
theorem x_call(h0:ga fs=.ok rs ae)(hp:rs.length=p)(hl:Cn ae (rs.map AE)=[])(hf:Fn (Bx ae (rs.map AE))=.ok r τ)(hr:r=.t t\/∃o,r=.nw o):Ad (Ae p Fn) ga fs=.ok r ae:=by
 rcases hr with rfl|⟨o,rfl⟩
 .exact C0 h0 hp (by rw[hl];exact oS) hf (AU hl)
 .exact S4 h0 hp (by rw[hl];exact oS) hf (AU hl)
theorem Vb(h0:ga fs=.ok rs ae)(hp:rs.length=p)(hl:Cn ae (rs.map AE)=[])(hf:Fn (Bx ae (rs.map AE))=.ok (.t t) τ):Ad (Ae p Fn) ga fs=.ok (.t t) ae:=x_call h0 hp hl hf (.inl rfl)
theorem Va{o:FO}(h0:ga fs=.ok rs ae)(hp:rs.length=p)(hl:Cn ae (rs.map AE)=[])(hf:Fn (Bx ae (rs.map AE))=.ok (.nw o) τ):Ad (Ae p Fn) ga fs=.ok (.nw o) ae:=x_call (t:=.l) h0 hp hl hf (.inr ⟨o,rfl⟩)
theorem x_asB(h:f fs=.ok (.t (.v b)) ae):asB f fs=.ok b ae:=Hr h
theorem U3(hc:c fs=.ok b ae)(e:(bif b then Aj s h ae else Aj s' h ae)=y):Aj (ifS c s s') h fs=y:=by unfold Aj ifS;rw[hc];cases b<;>exact e
theorem x_if(hc:c fs=.ok b ae)(e:(bif b then s ae else s' ae)=y):ifS c s s' fs=y:=by unfold ifS;rw[hc];cases b<;>exact e
theorem YO(hc:c fs=.ok b ae)(hb:b=false)(e:s' ae=y):ifS c (λ_=>.bad) s' fs=y:=by subst hb;unfold ifS;rwa[hc]
theorem Tp(e:f fs=.ok r ae):Aj (retS f) h fs=.ret r ae:=Hz (Bz e)
theorem x_set(h:f fs=.ok r ae)(e:GH i r ae=some aq):Av i f fs=.nx aq:=by unfold Av;rw[h];show(match GH i r ae with|some fs=>SO.nx fs|none=>.bad)=_;rw[e]
theorem x_asg(h:f fs=.ok (.t t) ae)(e:gt t ae=some aq):Et f gt fs=.nx aq:=by unfold Et;rw[h];show(match gt t ae with|some fs=>SO.nx fs|none=>.bad)=_;rw[e]
theorem x_tup(h:ts.length=i)(e:gs ts fs=some ak):AD i gs (.tup ts) fs=some ak:=(if_pos h).trans e
theorem x_tgc(e:gt t fs=some ae)(e2:gs ts ae=some aq):Ai gt gs (t::ts) fs=some aq:=by show(gt t fs).bind _=_;rwa[e]
theorem Mf(e:fs[i]?=some z)(h:Fre z):tgN i t fs=some (fs.set i (vl t)):=by unfold tgN;exact Ef e h
theorem II(h:it fs=.ok ts ae)(e:Dl gt s ts ae=y):BB it gt s fs=y:=by unfold BB;rwa[h]
theorem U4(h:f fs=.ok (.t t) ae)(e:t=.lst ts\/t=.tup ts\/t=.zX ts):itU f fs=.ok ts ae:=by unfold itU;rw[h];rcases e with rfl|rfl|rfl<;>rfl
theorem x_itZ(h1:fa fs=.ok (.t t) ae)(e1:Kk t=some ts)(h2:fb ae=.ok (.t u) aq)(e2:Kk u=some us):itZ fa fb fs=.ok (FL.pairs ts us) aq:=by unfold itZ;rw[h1,BG (x:=.t t) True.intro];show(fb ae).bnd _=_;rw[h2,BG (x:=.t u) True.intro];show(match Kk t,Kk u with|some xs,some ys=>Out.ok (FL.pairs xs ys) aq|_,_=>.bad)=_;rw[e1,e2]
theorem YN(h:ga fs=.ok rs ae)(h2:Na rs=some ts)(h3:ts.length<=big)(e:d ts ae=o):Ao d ga fs=o:=PD h h2 h3 e
theorem x_len(h:f fs=.ok (.t t) ae)(e:t=.lst ts\/t=.tup ts\/t=.zX ts):Ad AK (Ab f Af) fs=.ok (.t (.int ts.length)) ae:=by rcases e with e|e|rfl;exact OD h (.inl e);exact OD h (.inr e);exact Bf (CL h True.intro A2) rfl
theorem YQ(h1:c fs=.ok b ae)(h2:b=true->ct ae=.ok b' ae):GF c ct fs=.ok (b&&b') ae:=by unfold GF;rw[h1];cases b with|true=>exact h2 rfl|false=>rfl
theorem Tw(h1:c fs=.ok b ae)(hb:b=false):GF c ct fs=.ok false ae:=by subst hb;exact YQ (b':=false) h1 (λh=>by cases h)
theorem Nl{ak:FS}(h1:c fs=.ok b ae)(hb:b=true)(h2:ct ae=.ok b' ak):GF c ct fs=.ok b' ak:=by subst hb;unfold GF;rwa[h1]
theorem YB{ak:FS}(h1:c fs=.ok b ae)(hb:b=false)(h2:ct ae=.ok b' ak):orT c ct fs=.ok b' ak:=by subst hb;unfold orT;rwa[h1]
theorem x_orT(h1:c fs=.ok b ae)(h2:b=false->ct ae=.ok b' ae):orT c ct fs=.ok (b||b') ae:=by unfold orT;rw[h1];cases b with|false=>exact h2 rfl|true=>rfl
theorem gLt_i{i j:Int}:gLt (.t (.int i)) (.t (.int j)) fs=.ok (.t (.v (decide (i<j)))) fs:=rfl
theorem gLe_i{i j:Int}:gLe (.t (.int i)) (.t (.int j)) fs=.ok (.t (.v (decide (i<=j)))) fs:=rfl
theorem gEqi{i j:Int}:gEq false (.t (.int i)) (.t (.int j)) fs=.ok (.t (.v (decide (i=j)))) fs:=by
 have:=Jb1 (fa:=gc (.int i)) (fb:=gc (.int j)) (fs:=fs) Ei Ei;unfold asB at this;rw[show Ag (gEq false) (gc (.int i)) (gc (.int j)) fs=gEq false (.t (.int i)) (.t (.int j)) fs from rfl]at this;cases e:gEq false (.t (.int i)) (.t (.int j)) fs with
 |ok r aq =>rw[e]at this;cases r with|t t=>cases t<;>simp_all[Out.bind]|nw o=>simp[Out.bind]at this|x i=>simp[Out.bind]at this
 |exc c aq=>rw[e]at this;simp[Out.bind]at this
 |bad=>rw[e]at this;simp[Out.bind]at this
theorem Tq(hc:c fs=.ok b ae)(hb:b=false)(e:Aj s' h ae=y):Aj (ifS c (λ_=>.bad) s') h fs=y:=by subst hb;exact U3 hc e
def Rt:Rv->Prop
 |.x _=>False
 |_=>True
theorem Tv(h0:ga fs=.ok rs ae)(hp:rs.length=p)(hl:Cn ae (rs.map AE)=[])(ha:Bx ae (rs.map AE)=as)(hf:Fn as=.ok r τ)(hr:Rt r):Ad (Ae p Fn) ga fs=.ok r ae:=by subst ha;cases r with|t t=>exact Vb h0 hp hl hf|nw o=>exact Va h0 hp hl hf|x i=>exact hr.elim
theorem x_c1(h0:ga fs=.ok [.t a1] ae)(hf:Fn [vl a1]=.ok r τ)(hr:Rt r):Ad (Ae 1 Fn) ga fs=.ok r ae:=Tv h0 rfl rfl rfl hf hr
theorem x_c2(h0:ga fs=.ok [.t a1,.t a2] ae)(hf:Fn [vl a1,vl a2]=.ok r τ)(hr:Rt r):Ad (Ae 2 Fn) ga fs=.ok r ae:=Tv h0 rfl rfl rfl hf hr
theorem x_c3(h0:ga fs=.ok [.t a1,.t a2,.t a3] ae)(hf:Fn [vl a1,vl a2,vl a3]=.ok r τ)(hr:Rt r):Ad (Ae 3 Fn) ga fs=.ok r ae:=Tv h0 rfl rfl rfl hf hr
theorem x_c4(h0:ga fs=.ok [.t a1,.t a2,.t a3,.t a4] ae)(hf:Fn [vl a1,vl a2,vl a3,vl a4]=.ok r τ)(hr:Rt r):Ad (Ae 4 Fn) ga fs=.ok r ae:=Tv h0 rfl rfl rfl hf hr
theorem x_c5(h0:ga fs=.ok [.t a1,.t a2,.t a3,.t a4,.t a5] ae)(hf:Fn [vl a1,vl a2,vl a3,vl a4,vl a5]=.ok r τ)(hr:Rt r):Ad (Ae 5 Fn) ga fs=.ok r ae:=Tv h0 rfl rfl rfl hf hr
theorem x_c6(h0:ga fs=.ok [.t a1,.t a2,.t a3,.t a4,.t a5,.t a6] ae)(hf:Fn [vl a1,vl a2,vl a3,vl a4,vl a5,vl a6]=.ok r τ)(hr:Rt r):Ad (Ae 6 Fn) ga fs=.ok r ae:=Tv h0 rfl rfl rfl hf hr
theorem x_m1(h1:f fs=.ok (.t a0) ae)(h2:ga ae=.ok [.t a1] aq)(hf:Fn [vl a0,vl a1]=.ok r τ)(hr:Rt r)(hi:DR C m ae (.t a0)=true):Bd C m 2 Fn f ga fs=.ok r aq:=by unfold Bd;rw[h1,BG (x:=.t a0) True.intro];show(if _ then _ else _)=_;rw[if_pos hi,h2];exact Tv rfl rfl rfl rfl hf hr
theorem x_m2{a0 a1 a2:T}(h1:f fs=.ok (.t a0) ae)(h2:ga ae=.ok [.t a1,.t a2] aq)(hf:Fn [vl a0,vl a1,vl a2]=.ok r τ)(hr:Rt r)(hi:DR C m ae (.t a0)=true):Bd C m 3 Fn f ga fs=.ok r aq:=by unfold Bd;rw[h1,BG (x:=.t a0) True.intro];show(if _ then _ else _)=_;rw[if_pos hi,h2];exact Tv rfl rfl rfl rfl hf hr
theorem x_m0{o:FO}(h1:f fs=.ok (.t a0) ae)(hf:Fn [vl a0]=.ok (.nw o) τ)(hi:DR C m ae (.t a0)=true):Eg C m 1 Fn f Af fs=.ok (.nw o) ae:=by unfold Eg;rw[h1,BG (x:=.t a0) True.intro];show(if _ then _ else _)=_;rw[if_pos hi];show P2 1 Fn [.t a0] ae=_;unfold P2 S3;rw[if_pos (show [Rv.t a0].length=1 from rfl),show Cn ae ([Rv.t a0].map AE)=[]from rfl,if_pos oS,show Bx ae ([Rv.t a0].map AE)=[vl a0]from rfl,hf];show(match Cb ([Rv.t a0].map AE) τ ae with|some ak=>Out.ok (Rv.nw o) ak|none=>.bad)=_;rw[AU rfl]
theorem x_fld{gs:List Str}(h:f fs=.ok (.t (.ins C gs ts)) ae)(hv:E7 gs ts n=some t):Cg C n f fs=.ok (.t t) ae:=by unfold Cg;rw[h,BG (x:=.t (.ins C gs ts)) True.intro];show(if _ then _ else _)=_;rw[if_pos rfl,hv];rfl
theorem gNe(h:gEq false x y fs=.ok (.t (.v b)) fs):gEq true x y fs=.ok (.t (.v (!b))) fs:=by unfold gEq at *;split at h<;>simp_all;split at h<;>simp_all[okT];split at h<;>simp_all
theorem gNe_s{x y:Str}:gEq true (.t (.str x)) (.t (.str y)) fs=.ok (.t (.v (!decide (x=y)))) fs:=gNe Ja9
theorem gNe_i{x y:Int}:gEq true (.t (.int x)) (.t (.int y)) fs=.ok (.t (.v (!decide (x=y)))) fs:=gNe gEqi
theorem x_fzt:fzR (.t t) fs=.ok (.t t) fs:=rfl
theorem x_fzl:fzR (.nw (.lst ts)) fs=.ok (.t (.lst ts)) fs:=rfl
theorem x_fzr(h:fs[i]?=some (some (.own (.lst ts)))):fzR (.x i) fs=.ok (.t (.lst ts)) (fs.set i (vl (.lst ts))):=by simp only[fzR,h];rfl
theorem Yy:nxS fs=.nx fs:=rfl
theorem x_tg0:AB [] fs=some fs:=rfl
theorem x_dt:AW ts fs=.ok (.t (.tup ts)) fs:=rfl
theorem x_dl:Be ts fs=.ok (.t (.lst ts)) fs:=rfl
theorem x_dn:Bm ts fs=.ok (.nw (.lst ts)) fs:=rfl
theorem x_al0:Na []=some []:=rfl
theorem x_al1(h:Na rs=some ts):Na (.t t::rs)=some (t::ts):=by unfold Na;rw[h];rfl
theorem x_sqt:Kk (.tup ts)=some ts:=rfl
theorem x_ixt{k:Int}(h:atI ts k=some t):Ap (.t (.tup ts)) (.t (.int k)) fs=.ok (.t t) fs:=by
 have e:gIx (.t (.tup ts)) (.t (.int k)) fs=.ok (.t t) fs:=by simp only[gIx,Bw,h];rfl
 show(match gIx (.t (.tup ts)) (.t (.int k)) fs with|.bad=>_|o=>o)=_;rw[e]
theorem x_ixl{k:Int}(h:atI ts k=some t):Ap (.t (.lst ts)) (.t (.int k)) fs=.ok (.t t) fs:=LN rfl h
end
def Sat(Q:SO->Prop)(y:SO):Prop:=Q y
section
variable{Q:SO->Prop}{s:FS->SO}{fs ae:FS}{gt:sW}{P:List T->FS->Prop}{R:FS->SO->Prop}{n:Nat}{A:Rv->Prop}
theorem Bl(e:s fs=.nx ae)(k:Sat Q (h ae)):Sat Q (Aj s h fs):=by unfold Sat;rwa[Kj e]
theorem FR(hc:c fs=.ok b ae)(k1:b=true->Sat Q (Aj s h ae))(k2:b=false->Sat Q (Aj s' h ae)):Sat Q (Aj (ifS c s s') h fs):=by unfold Sat;rw[U3 hc rfl];cases b;exact k2 rfl;exact k1 rfl
theorem q_if(hc:c fs=.ok b ae)(k1:b=true->Sat Q (s ae))(k2:b=false->Sat Q (s' ae)):Sat Q (ifS c s s' fs):=by unfold Sat;rw[x_if hc rfl];cases b;exact k2 rfl;exact k1 rfl
theorem ZA(hc:c fs=.ok b ae)(hb:b=false)(k:Sat Q (Aj s' h ae)):Sat Q (Aj (ifS c (λ_=>.bad) s') h fs):=by unfold Sat;rwa[Tq hc hb rfl]
theorem q_bad(hc:c fs=.ok b ae)(hb:b=false)(k:Sat Q (s' ae)):Sat Q (ifS c (λ_=>.bad) s' fs):=by unfold Sat;rwa[YO hc hb rfl]
theorem q_ret(e:f fs=.ok r ae)(k:Sat Q (.ret r ae)):Sat Q (retS f fs):=by unfold Sat;rwa[Bz e]
theorem Zy(e:f fs=.ok r ae)(k:Sat Q (.ret r ae)):Sat Q (Aj (retS f) h fs):=by unfold Sat;rwa[Tp e]
theorem VB(k:Sat Q (h fs)):Sat Q (Aj nxS h fs):=k
theorem q_ss(k:Sat Q (Aj s (Aj s' h) fs)):Sat Q (Aj (Aj s s') h fs):=by unfold Aj at *;cases e:s fs<;>simp only[e]at k ⊢<;>exact k
theorem ZD(e:s fs=.nx ae)(k:Sat Q (.nx ae)):Sat Q (s fs):=by unfold Sat;rwa[e]
theorem KD(st:∀t ts fs,P (t::ts) fs->∃ae,gt t fs=some ae/\Sat (λy=>∃aq,y=.nx aq/\P ts aq) (s ae)):∀(ts:List T)(fs:FS),P ts fs->∃ak,Dl gt s ts fs=.nx ak/\P [] ak :=
 Ph P λt ts fs p=>let⟨ae,a,aq,b,c⟩:=st t ts fs p;⟨ae,aq,a,b,c⟩
theorem Zz(hi:it fs=.ok ts ae)(P:List T->FS->Prop)(h0:P ts ae)(st:∀t ts fs,P (t::ts) fs->∃ae,gt t fs=some ae/\Sat (λy=>∃aq,y=.nx aq/\P ts aq) (s ae))(k:∀ak,P [] ak->Sat Q (h ak)):Sat Q (Aj (BB it gt s) h fs):=by obtain⟨ak,e,p⟩:=KD st ts ae h0;exact Bl (II hi e) (k ak p)
theorem q_for(hi:it fs=.ok ts ae)(P:List T->FS->Prop)(h0:P ts ae)(st:∀t ts fs,P (t::ts) fs->∃ae,gt t fs=some ae/\Sat (λy=>∃aq,y=.nx aq/\P ts aq) (s ae))(k:∀ak,P [] ak->Sat Q (.nx ak)):Sat Q (BB it gt s fs):=by obtain⟨ak,e,p⟩:=KD st ts ae h0;rw[II hi e];exact k ak p
theorem Kn(hi:it fs=.ok ts ae)(Pe:T->Prop)(I:FS->Prop)(h0:∀u∈ts,Pe u)(h1:I ae)(st:∀t fs,Pe t->I fs->∃ae,gt t fs=some ae/\Sat (λy=>∃aq,y=.nx aq/\I aq) (s ae))(k:∀ak,I ak->Sat Q (h ak)):Sat Q (Aj (BB it gt s) h fs) :=
 Zz hi (λus fs=>(∀u∈us,Pe u)/\I fs) ⟨h0,h1⟩ (λt us fs ⟨a,b⟩=>let⟨ae,e,aq,e2,i⟩:=st t fs (a t n4) b;⟨ae,e,aq,e2,λu m=>a u (nZ _ m),i⟩) (λfs p=>k fs p.2)
theorem TY(hi:it fs=.ok ts ae)(Pe:T->Prop)(I:FS->Prop)(h0:∀u∈ts,Pe u)(h1:I ae)(st:∀t fs,Pe t->I fs->∃ae,gt t fs=some ae/\Sat (λy=>∃aq,y=.nx aq/\I aq) (s ae))(k:∀ak,I ak->Sat Q (.nx ak)):Sat Q (BB it gt s fs) :=
 q_for hi (λus fs=>(∀u∈us,Pe u)/\I fs) ⟨h0,h1⟩ (λt us fs ⟨a,b⟩=>let⟨ae,e,aq,e2,i⟩:=st t fs (a t n4) b;⟨ae,e,aq,e2,λu m=>a u (nZ _ m),i⟩) (λfs p=>k fs p.2)
theorem Jbk{α:Type}{p:α->T}{xs:List α}{I:List α->FS->Prop}(h0:I [] fs)(st:∀D a R fs,D++a::R=xs->I D fs->∃ae,gt (p a) fs=some ae/\Sat (λy=>∃aq,y=.nx aq/\I (D++[a]) aq) (s ae)):∃ak,Dl gt s (xs.map p) fs=.nx ak/\I xs ak:=by
 obtain⟨ak,e,D,R,h1,h2,h3⟩:=KD (P:=λus fs=>∃D R,D++R=xs/\us=R.map p/\I D fs) (gt:=gt) (s:=s) (λt us fs ⟨D,R,h1,h2,h3⟩=>by cases R with|nil=>cases h2|cons a R =>obtain⟨rfl,rfl⟩:=List.cons.inj h2;obtain⟨ae,e,aq,e2,i⟩:=st D a R fs h1 h3;exact⟨ae,e,aq,e2,D++[a],R,by rw[<- h1];simp,rfl,i⟩) (xs.map p) fs ⟨[],xs,rfl,rfl,h0⟩;have:R=[]:=by cases R with|nil=>rfl|cons a R=>cases h2
 subst this;rw[oN]at h1;exact⟨ak,e,h1▸h3⟩
theorem Bb{α:Type}{p:α->T}{xs:List α}(hi:it fs=.ok (xs.map p) ae)(I:List α->FS->Prop)(h0:I [] ae)(st:∀D a R fs,D++a::R=xs->I D fs->∃ae,gt (p a) fs=some ae/\Sat (λy=>∃aq,y=.nx aq/\I (D++[a]) aq) (s ae))(k:∀ak,I xs ak->Sat Q (h ak)):Sat Q (Aj (BB it gt s) h fs):=by obtain⟨ak,e,p⟩:=Jbk h0 st;exact Bl (II hi e) (k ak p)
theorem EN{α:Type}{p:α->T}{xs:List α}(hi:it fs=.ok (xs.map p) ae)(I:List α->FS->Prop)(h0:I [] ae)(st:∀D a R fs,D++a::R=xs->I D fs->∃ae,gt (p a) fs=some ae/\Sat (λy=>∃aq,y=.nx aq/\I (D++[a]) aq) (s ae))(k:∀ak,I xs ak->Sat Q (.nx ak)):Sat Q (BB it gt s fs):=by obtain⟨ak,e,p⟩:=Jbk h0 st;rw[II hi e];exact k ak p
theorem Zx{R:SO->Prop}(e:gt t fs=some ae)(k:Sat R (s ae)):∃ae,gt t fs=some ae/\Sat R (s ae):=⟨ae,e,k⟩
def Rr(A:Rv->Prop)(y:SO):Prop:=∃r τ,y=.ret r τ/\Rt r/\A r
theorem Zw(k:Sat (Rr A) (s (args++List.replicate n none))):∃r τ,AX n s args=.ok r τ/\A r:=by obtain⟨r,τ,e,hr,a⟩:=k;cases r with|t t=>exact⟨_,_,EL e,a⟩|nw o=>exact⟨_,_,NI e,a⟩|x i=>exact hr.elim
theorem q_rr(hr:Rt r)(a:A r):Sat (Rr A) (.ret r fs):=⟨r,fs,rfl,hr,a⟩
theorem VD{P:FS->Prop}(p:P fs):Sat (λy=>∃aq,y=.nx aq/\P aq) (.nx fs):=⟨fs,rfl,p⟩
theorem q_nxt:Sat (λy=>∃τ,y=.nx τ) (.nx fs):=⟨fs,rfl⟩
theorem Cd(k:Sat (Rr (·=.t t)) (s (args++List.replicate n none))):∃τ,AX n s args=.ok (.t t) τ:=by obtain⟨r,τ,e,rfl⟩:=Zw k;exact⟨τ,e⟩
theorem IX(k:Sat (λy=>∃τ,y=.nx τ) (s (args++List.replicate n none))):∃τ,AX n s args=.ok (.t .l) τ:=by obtain⟨τ,e⟩:=k;exact⟨τ.take args.length,by unfold AX;rw[e]⟩
end
theorem keys_map:∀xs:List Str,Ee (xs.map T.str)=some (xs.map λx=>(.inr x:Key))
 | []=>rfl
 |x::xs=>by simp only[nQ,Ee,keys_map xs,FH,oH,pA]
section
variable{α:Type}{f:sT}{ft:sV}{fs ae rest:FS}{x:Option Sl}{p q p1 p2:α->T}{b:α->Bool}{xs:List α}{us:List T}{t:T}{i:Nat}{src:sZ}{fe:sT}{lo hi:Option Int}{l h:FS->Out (Option Int)}
def CA(p:α->T):List α->Option Sl->Option Sl
 | [],x=>x
 |a::xs,_=>CA p xs (vl (p a))
theorem Jb6:∀(xs:List α)(x:Option Sl)(ar:List T),Fre x->(∀a∈xs,ft (vl (p a)::rest)=.ok (b a) (vl (p a)::rest))->(∀a∈xs,b a=true->fe (vl (p a)::rest)=.ok (.t (q a)) (vl (p a)::rest))->ar.length+xs.length<=big->A9 (tgN 0) ft fe (xs.map p) (x::rest) ar=some (ar++(xs.filter b).map q,CA p xs x::rest)
 | [],x,ar,_,_,_,_=>by simp[A9,CA]
 |a::xs,x,ar,hx,ht,he,hl=>by
  rw[n8]at hl;have h1:tgN 0 (p a) (x::rest)=some (vl (p a)::rest):=Mf rfl hx;have h2:=ht a n4;have g:=λar hl=>Jb6 xs (vl (p a)) ar Ak (λa m=>ht a (nZ _ m)) (λa m=>he a (nZ _ m)) hl
  cases e:b a with|true =>simp only[nQ,A9,h1,h2,(he a n4) e,if_pos (show ar.length<big by lia),g (ar++[q a]) (by simp;lia),qH,e,CA];simp|false =>rw[e]at h2;simp only[nQ,A9,h1,h2,g ar (by lia),qH,e,CA];simp
theorem PV(hx:Fre x)(ht:∀a∈xs,ft (vl (p a)::rest)=.ok (b a) (vl (p a)::rest))(he:∀a∈xs,b a=true->fe (vl (p a)::rest)=.ok (.t (q a)) (vl (p a)::rest))(hl:xs.length<=1000):A9 (tgN 0) ft fe (xs.map p) (x::rest) []=some ((xs.filter b).map q,CA p xs x::rest):=Jb6 xs x [] hx ht he (by show 0+_<=1000000;lia)
theorem Dw(hx:Fre x)(he:∀a∈xs,fe (vl (p a)::rest)=.ok (.t (q a)) (vl (p a)::rest))(hl:xs.length<=1000):A9 (tgN 0) C7 fe (xs.map p) (x::rest) []=some (xs.map q,CA p xs x::rest):=by have:=PV (b:=λ_=>true) hx (λ_ _=>rfl) (λa m _=>he a m) hl;rwa[List.filter_eq_self.mpr λ_ _=>rfl]at this
theorem UQ:∀(xs:List α)(x y:Option Sl)(ar:List T),Fre x->Fre y->(∀a,p a=.tup [p1 a,p2 a])->(∀a∈xs,ft (vl (p1 a)::vl (p2 a)::rest)=.ok (b a) (vl (p1 a)::vl (p2 a)::rest))->(∀a∈xs,b a=true->fe (vl (p1 a)::vl (p2 a)::rest)=.ok (.t (q a)) (vl (p1 a)::vl (p2 a)::rest))->ar.length+xs.length<=big->A9 (AD 2 (Ai (tgN 0) (Ai (tgN 1) AB))) ft fe (xs.map p) (x::y::rest) ar=some (ar++(xs.filter b).map q,CA p1 xs x::CA p2 xs y::rest)
 | [],x,y,ar,_,_,_,_,_,_=>by simp[A9,CA]
 |a::xs,x,y,ar,hx,hy,hp,ht,he,hl=>by
  rw[n8]at hl;have h1:AD 2 (Ai (tgN 0) (Ai (tgN 1) AB)) (p a) (x::y::rest)=some (vl (p1 a)::vl (p2 a)::rest):=by rw[hp];exact Nq (Mf rfl hx) (Mf rfl hy)
  have h2:=ht a n4;have g:=λar hl=>UQ xs (vl (p1 a)) (vl (p2 a)) ar Ak Ak hp (λa m=>ht a (nZ _ m)) (λa m=>he a (nZ _ m)) hl
  cases e:b a with|true =>simp only[nQ,A9,h1,h2,(he a n4) e,if_pos (show ar.length<big by lia),g (ar++[q a]) (by simp;lia),qH,e,CA];simp|false =>rw[e]at h2;simp only[nQ,A9,h1,h2,g ar (by lia),qH,e,CA];simp
theorem KP(hx:Fre x)(hy:Fre y)(hp:∀a,p a=.tup [p1 a,p2 a])(ht:∀a∈xs,ft (vl (p1 a)::vl (p2 a)::rest)=.ok (b a) (vl (p1 a)::vl (p2 a)::rest))(he:∀a∈xs,b a=true->fe (vl (p1 a)::vl (p2 a)::rest)=.ok (.t (q a)) (vl (p1 a)::vl (p2 a)::rest))(hl:xs.length<=1000):A9 (AD 2 (Ai (tgN 0) (Ai (tgN 1) AB))) ft fe (xs.map p) (x::y::rest) []=some ((xs.filter b).map q,CA p1 xs x::CA p2 xs y::rest):=UQ xs x y [] hx hy hp ht he (by show 0+_<=1000000;lia)
theorem KN(hx:Fre x)(hy:Fre y)(hp:∀a,p a=.tup [p1 a,p2 a])(he:∀a∈xs,fe (vl (p1 a)::vl (p2 a)::rest)=.ok (.t (q a)) (vl (p1 a)::vl (p2 a)::rest))(hl:xs.length<=1000):A9 (AD 2 (Ai (tgN 0) (Ai (tgN 1) AB))) C7 fe (xs.map p) (x::y::rest) []=some (xs.map q,CA p1 xs x::CA p2 xs y::rest):=by have:=KP (b:=λ_=>true) hx hy hp (λ_ _=>rfl) (λa m _=>he a m) hl;rwa[List.filter_eq_self.mpr λ_ _=>rfl]at this
theorem at0:atI (t::ts) 0=some t:=AZ rfl
theorem at1:atI (t::u::ts) 1=some u:=AZ rfl
theorem at2:atI (t::u::v::ts) 2=some v:=AZ rfl
theorem cut1:Qq (t::ts) (some 1) none=ts:=Gr (by decide) (by simp)
def Src(fs:FS)(src:sZ):Prop:=Cn fs (src.map λo=>o.elim Ini.no Ini.slot)=[]/\(src.all λo=>o.elim true λj=>decide (j<fs.length))=true
theorem so0:Src fs []:=⟨rfl,rfl⟩
theorem so1(h:Src fs src):Src fs (none::src):=h
theorem so2(h0:fs[j]?=some (vl t))(h:Src fs src):Src fs (some j::src):=by
 refine⟨?_,?_⟩
 .show List.filterMap (AI fs) (Ini.slot j::src.map _)=[];rw[List.filterMap_cons_none (by show(if(FL.Aq fs j).isSome=true then some j else none)=none;unfold FL.Aq;rw[h0];rfl)];exact h.1
 .rw[qD,h.2,Bool.and_true];exact oO (n6.mp h0).1
theorem Nk(h1:it fs=.ok ts ae)(hs:Src ae src)(hc:A9 gt ft fe ts (Bx ae (src.map λo=>o.elim Ini.no Ini.slot)) []=some (us,τ)):AL false src it gt ft fe fs=.ok (.t (.lst us)) ae:=by unfold AL;rw[h1];show(if _ then _ else _)=_;rw[if_pos ⟨by rw[hs.1];exact oS,hs.2⟩,hc];show(match Cb _ τ ae with|some ak=>_|none=>_)=_;rw[AU hs.1];rfl
theorem x_put{o:Nat}(hv:fv fs=.ok (.t t) fs)(h0:fs[o]?=some (some (.own (.n ks ts))))(hi:fi fs=.ok (.t (.str k)) fs)(hn:(.inr k:Key)∉ks)(hl:ks.length<1000000):A1 fv (Aa o) fi fs=.nx (fs.set o (some (.own (.n (ks++[.inr k]) (ts++[t]))))):=NS h0 hv hi (any_false hn) hl rfl
theorem YC:D3 fs=.ok (.nw (.n [] [])) fs:=rfl
theorem x_fzk:fzR (.nw (.n ks ts)) fs=.ok (.t (.n ks ts)) fs:=rfl
theorem U7{xs:List Str}(h:ga fs=.ok [.t t,.t u] ae)(hx:Kk t=some (xs.map T.str))(hy:Kk u=some us)(nd:xs.Nodup)(hl:xs.length=us.length):D6 ga fs=.ok (.nw (.n (xs.map λx=>(.inr x:Key)) us)) ae:=by unfold D6;rw[h];simp only[Out.bind,hx,hy,keys_map];rw[if_pos ⟨B8 nd,by rw[nX];exact hl⟩]
theorem x_lst(h:f fs=.ok (.t t) ae)(e:t=.lst ts\/t=.tup ts):Ad C5 (Ab f Af) fs=.ok (.nw (.lst ts)) ae:=by refine Bf (Bq h A2) ?_;rcases e with rfl|rfl<;>rfl
theorem x_tpl(h:f fs=.ok (.t t) ae)(e:t=.lst ts\/t=.tup ts):Ad Bv (Ab f Af) fs=.ok (.t (.tup ts)) ae:=by refine Bf (Bq h A2) ?_;rcases e with rfl|rfl<;>rfl
theorem x_any(h:f fs=.ok (.t (.lst us)) ae)(e:us=xs.map λa=>T.v (b a)):Ad Yo (Ab f Af) fs=.ok (.t (.v (xs.any b))) ae:=by subst e;refine Bf (Bq h A2) ?_;have:=Ep (xs.map b);rw[om]at this;simp only[Yo,Bw,oH];rw[show(λa=>T.v (b a))=T.v∘b from rfl,this];show okT _ ae=_;rw[List.any_map];rfl
theorem Yx(h:fs[i]?=some (some (.own (.lst ts)))):Ad Bv (Ab (Aa i) Af) fs=.ok (.t (.tup ts)) fs:=by refine Bf (CL (Cf h) True.intro A2) ?_;simp only[Bv,TN h];rfl
theorem x_slF(h1:f fs=.ok r ae)(n:Nn r)(h2:l ae=.ok lo aq)(h3:h aq=.ok hi cn)(e:GI r lo hi cn=o):slF f l h fs=o:=by unfold slF;rw[h1,BG n];show(l ae).bind _=_;rw[h2];show(h aq).bind _=_;rw[h3];exact e
theorem x_noP:noP fs=.ok none fs:=rfl
theorem U2{j:Int}(h:f fs=.ok (.t (.int j)) ae):Cy f fs=.ok (some j) ae:=by unfold Cy;rw[h];rfl
theorem Yz:GI (.t (.tup (t::ts))) (some 1) none fs=.ok (.t (.tup ts)) fs:=congrArg (λl=>Out.ok (Rv.t (.tup l)) fs) cut1
theorem YA:GI (.t (.lst (t::ts))) (some 1) none fs=.ok (.t (.lst ts)) fs:=congrArg (λl=>Out.ok (Rv.t (.lst l)) fs) cut1
theorem x_app(h0:fs[i]?=some (some (.own (.lst us))))(h:f fs=.ok (.t t) ae)(gF:ae[i]?=some (some (.own (.lst ts))))(hl:ts.length<1000000):Au (Aw ET (Aa i) (Ab f Af)) fs=.nx (ae.set i (some (.own (.lst (ts++[t]))))):=Jci h0 h gF hl rfl
end
theorem IZ:∀{gs:List Str}{os:List FO}{f:Str},gs.length=os.length->f∉gs->De gs os f o=some (gs++[f],os++[o])
 | [],[],f,_,_=>rfl
 |g::gs,o'::os,f,hl,hn=>by
  have h1:¬g=f:=λe=>hn (e▸n4)
  have:=IZ (o:=o) (by simpa using hl) (λm=>hn (nZ _ m));simp[De,h1,this]
section
variable{fv:sT}{fs ae:FS}{t:T}{i j z:Nat}{C:Addr}{n:Str}{gs:List Str}{os bo ds:List FO}{o:FO}{ks cK:List Key}{ts b6:List T}{k k2:Str}{m:Nat}
theorem YL(hv:fv fs=.ok r ae)(ha:Yt r=some o)(h0:ae[i]?=some (some (.bor (.ins C gs os))))(hl:gs.length=os.length/\gs.length<900)(hn:n∉gs):DS C n i fv fs=.nx (ae.set i (some (.bor (.ins C (gs++[n]) (os++[o]))))):=by unfold DS;rw[hv];simp only[SO.of,ha,HI h0];rw[if_pos ⟨True.intro,hl.2⟩,IZ hl.1 hn];unfold FL.putAt;rw[h0];rfl
theorem q_mk(k:Sat (λy=>∃τ,y=.nx (some (.bor o)::τ)) (s ((a::args)++List.replicate m none))):∃τ,AX m s (a::args)=.ok (.t .l) (some (.bor o)::τ):=by obtain⟨τ,e⟩:=k;exact⟨τ.take args.length,by unfold AX;rw[e];rfl⟩
theorem ZC:Sat (λy=>∃τ,y=.nx (some (.bor o)::τ)) (.nx (some (.bor o)::fs)):=⟨fs,rfl⟩
theorem x_mk1{Fn:sT}{fa:sU}{a1:T}(ha:fa fs=.ok [.t a1] ae)(hf:Fn [some (.bor (.ins C [] [])),vl a1]=.ok (.t .l) (some (.bor o)::τ)):Ad (BW C 2 Fn) fa fs=.ok (.nw o) ae:=Ey ha rfl rfl hf
theorem x_mk2{Fn:sT}{fa:sU}{a1 a2:T}(ha:fa fs=.ok [.t a1,.t a2] ae)(hf:Fn [some (.bor (.ins C [] [])),vl a1,vl a2]=.ok (.t .l) (some (.bor o)::τ)):Ad (BW C 3 Fn) fa fs=.ok (.nw o) ae:=Ey ha rfl rfl hf
theorem x_mk5(ha:fa fs=.ok [.t a1,.t a2,.t a3,.t a4,.t a5] ae)(hf:Fn [some (.bor (.ins C [] [])),vl a1,vl a2,vl a3,vl a4,vl a5]=.ok (.t .l) (some (.bor o)::τ)):Ad (BW C 6 Fn) fa fs=.ok (.nw o) ae:=Ey ha rfl rfl hf
theorem x_fzS:fzR (.nw (.ins C gs [.val a1,.val a2,.val a3,.val a4,.val a5])) fs=.ok (.t (.ins C gs [a1,a2,a3,a4,a5])) fs:=rfl
theorem Ts(h0:fs[j]?=some (some (.bor o)))(hf:f ((Ck fs).set j (vl (toT o)))=.ok (.t .l) τ):Au (DY j f) fs=.nx fs:=by refine KJ (r:=.t .l) ?_;unfold DY;rw[HI h0];simp only[hf];rfl
theorem YM(hv:fv fs=.ok (.t t) ae)(h0:ae[i]?=some (some (.bor (.ins C gs os))))(hj:ae[j]?=some (vl (.str k)))(hf:AQ gs os n=some (.n ks ts))(hn:(.inr k:Key)∉ks)(hl:ks.length<1000000)(hs:BO gs os n (.n (ks++[.inr k]) (ts++[t]))=bo):BF C n i j fv fs=.nx (ae.set i (some (.bor (.ins C gs bo)))):=XH hv h0 hj hf hn hl (by rw[hs])
theorem U5(h0:fs[i]?=some (some (.bor (.ins C gs os))))(hj:fs[j]?=some (vl (.str k)))(hf:AQ gs os n=some o)(ho:Jch o=some (ks,ds))(hn:(.inr k:Key)∉ks)(hl:ks.length<1000000)(hs:BO gs os n (.dO (ks++[.inr k]) (ds++[.n [] []]))=bo):D5 C n i j fs=.nx (fs.set i (some (.bor (.ins C gs bo)))):=by subst hs;unfold D5;simp only[HI h0,hj,hf,if_true,FH,ho];rw[if_pos ⟨hl,any_false hn⟩];unfold FL.putAt;rw[h0];rfl
theorem GY:∀{ks:List Key}{ds:List FO},ks.length=ds.length->kk∉ks->Hu (ks++[kk]) (ds++[d]) kk=some d
 | [],[],_,_=>by simp[Hu]
 |a::ks,b::ds,h,n=>by simp only[qm,Hu];rw[if_neg λz=>n (by simp[z])];exact GY (by simpa using h) λm=>n (nZ _ m)
theorem G4:∀{ks:List Key}{ds:List FO},ks.length=ds.length->kk∉ks->IU (ks++[kk]) (ds++[d]) kk x=ds++[x]
 | [],[],_,_=>by simp[IU]
 |a::ks,b::ds,h,n=>by simp only[qm,IU];rw[if_neg λz=>n (by simp[z]),G4 (by simpa using h) λm=>n (nZ _ m)]
theorem U6(hv:fv fs=.ok (.t t) ae)(h0:ae[i]?=some (some (.bor (.ins C gs os))))(hj:ae[j]?=some (vl (.str k)))(hz:ae[z]?=some (vl (.str k2)))(hf:AQ gs os n=some (.dO (ks++[.inr k]) (ds++[.n cK b6])))(hl:ks.length=ds.length)(hn:(.inr k:Key)∉ks)(dm:(.inr k2:Key)∉cK)(bu:cK.length<1000000)(hs:BO gs os n (.dO (ks++[.inr k]) (ds++[.n (cK++[.inr k2]) (b6++[t])]))=bo):dput2 C n i j z fv fs=.nx (ae.set i (some (.bor (.ins C gs bo)))):=by
 subst hs;have h3:GL cK b6 (.inr k2:Key) t=(cK++[.inr k2],b6++[t]):=by unfold GL;rw[any_false dm];rfl
 unfold dput2;rw[hv];simp only[SO.of,HI h0,hj,hz,hf,FH,GY hl hn,G4 hl hn,h3];rw[if_pos (show cK.length<big from bu)];unfold FL.putAt;rw[h0];rfl
end
section
variable{Q:SO->Prop}{α β:Type}
theorem NR{J:β->FS}{P:β->Prop}(hc:c fs=.ok b ae)(h1:b=true->∃x,P x/\s ae=.nx (J x))(h2:b=false->∃x,P x/\s' ae=.nx (J x))(k:∀x,P x->Sat Q (h (J x))):Sat Q (Aj (ifS c s s') h fs):=by cases b with|true=>obtain⟨x,p,e⟩:=h1 rfl;exact Bl (JaQ hc e) (k x p)|false=>obtain⟨x,p,e⟩:=h2 rfl;exact Bl (JaS hc e) (k x p)
theorem Ha(h1:c fs=.ok b fs)(h2:ct fs=.ok b' fs):orT c ct fs=.ok (b||b') fs:=x_orT h1 λ_=>h2
theorem x_itD{p:α->Str}{N:List α}(h:f fs=.ok (.t (.dF (N.map λa=>(.inr (p a):Key)) ts)) ae):itD f fs=.ok (N.map λa=>.str (p a)) ae:=by unfold itD;rw[h,BG (x:=.t (.dF _ ts)) True.intro];show Out.ok _ ae=_;rw[om];rfl
theorem get_f(h:By ks ts (.inr k:Key)=some t):Ap (.t (.dF ks ts)) (.t (.str k)) fs=.ok (.t t) fs:=by show(match KC (.t (.dF ks ts)) (.t (.str k)) fs with|o=>o)=_;unfold KC;simp only[XJ,FH,pA,h];rfl
theorem Ge{L:List α}(hL:L≠[])(p:α->T)(x:Int):∃a∈L,atI (L.map p) (x%((L.map p).length:Int))=some (p a):=by
 have hl:=o9.mpr hL;rw[nX];have h1:=pd x (show(L.length:Int)≠0 by lia);have h2:=oZ x (show(0:Int)<L.length by lia);have hi:(x%(L.length:Int)).toNat<L.length:=by lia
 refine⟨L[(x%(L.length:Int)).toNat],pY hi,?_⟩;have:=AZ (xs:=L.map p) (by rw[ou,nO hi];rfl);rwa[show(((x%(L.length:Int)).toNat:Nat):Int)=x%(L.length:Int) by lia]at this
inductive F2(R:α->β->Prop):List α->List β->Prop
 |nil:F2 R [] []
 |cons {a b as bs}:R a b->F2 R as bs->F2 R (a::as) (b::bs)
section
variable{R S:α->β->Prop}
theorem F2.len(h:F2 R as bs):as.length=bs.length:=by induction h with|nil=>rfl|cons _ _ i=>simp[i]
theorem F2.imp(h:F2 R as bs)(i:∀a b,R a b->S a b):F2 S as bs:=by induction h with|nil=>exact .nil|cons h _ ih=>exact .cons (i _ _ h) ih
theorem F2.snoc{a:α}{b:β}(h:F2 R as bs)(r:R a b):F2 R (as++[a]) (bs++[b]):=by induction h with|nil=>exact .cons r .nil|cons h _ ih=>exact .cons h ih
theorem JbW:∀{as:List α},(∀a∈as,∃b,R a b)->∃bs,F2 R as bs
 | [],_=>⟨[],.nil⟩
 |a::as,h=>let⟨b,r⟩:=h a n4;let⟨bs,rs⟩:=JbW λa m=>h a (nZ _ m);⟨b::bs,.cons r rs⟩
end
theorem Jb7{p:α->T}{xs:List α}{vs:List T}{rest:FS}{x:Option Sl}(hx:Fre x)(hv:F2 (λa v=>fe (vl (p a)::rest)=.ok (.t v) (vl (p a)::rest)) xs vs)(hl:xs.length<=1000):A9 (tgN 0) C7 fe (xs.map p) (x::rest) []=some (vs,CA p xs x::rest):=by
 have go:∀(xs:List α)(vs:List T)(x:Option Sl)(ar:List T),Fre x->F2 (λa v=>fe (vl (p a)::rest)=.ok (.t v) (vl (p a)::rest)) xs vs->ar.length+xs.length<=big->A9 (tgN 0) C7 fe (xs.map p) (x::rest) ar=some (ar++vs,CA p xs x::rest):=by
  intro xs vs x ar hx h
  induction h generalizing x ar with|nil=>intro _;simp[A9,CA]|@cons a v xs vs h _ ih =>intro hl;rw[n8]at hl;rw[nQ,Fs (Mf (z:=x) rfl hx) h (by lia),ih (vl (p a)) (ar++[v]) Ak (by simp;lia)];simp[CA]
 exact go xs vs x [] hx hv (by show 0+_<=1000000;lia)
end
section
variable{n:Nat}
theorem YH(h:f fs=.ok (.t (.v b)) ae):Ad MQ (Ab f Af) fs=.ok (.t (.int (if b=true then 1 else 0))) ae:=Bf (Bq h A2) rfl
theorem x_slk(h:n<=ts.length):GI (.t (.lst ts)) none (some (n:Int)) fs=.ok (.t (.lst (ts.take n))) fs:=by have:=JB (v:=(n:Int)) (by lia) (by simpa using h);rw[qB]at this;show Out.ok (Rv.t (.lst (Qq ts none (some (n:Int))))) fs=_;rw[this]
theorem x_fzD(h:fs[i]?=some (some (.own (.n ks ts)))):fzD (Aa i) fs=.ok (.t (.dF ks ts)) (fs.set i (vl (.dF ks ts))):=by unfold fzD;rw[Cf h,BG (x:=.x i) True.intro];simp only[h]
end
section
variable{n m:Nat}{a b j:Int}{α β γ:Type}
theorem Mg(h:ga fs=.ok [.t (.int j)] ae)(hj:j=(n:Int))(hn:n<1000):ES ga fs=.ok ((List.range n).map λi=>T.int (i:Nat)) ae:=by subst hj;rw[NM h ⟨by lia,by lia⟩,qB];unfold FL.upTo;simp
theorem F2.map_r{S:α->β->Prop}{f:γ->β}{as:List α}{cs:List γ}(h:F2 (λa c=>S a (f c)) as cs):F2 S as (cs.map f):=by induction h with|nil=>exact .nil|cons h _ ih=>exact .cons h ih
end
theorem OU{xs:List Str}(h:k∉xs):(.inr k:Key)∉xs.map λm=>(.inr m:Key):=λm=>by obtain⟨x,hm,e⟩:=oo.mp m;exact h (Sum.inr.inj e▸hm)
section
variable{n j:Nat}{a:Int}{A:FO->Prop}
def Ro(A:FO->Prop)(y:SO):Prop:=∃i τ o,y=.ret (.x i) τ/\τ[i]?=some (some (.own o))/\A o
theorem Ll(k:Sat (Ro A) (s (args++List.replicate n none))):∃o τ,AX n s args=.ok (.nw o) τ/\A o:=by obtain⟨i,τ,o,e,h,a⟩:=k;exact⟨o,_,QO e h,a⟩
theorem Yj(h:fs[i]?=some (some (.own o)))(a:A o):Sat (Ro A) (.ret (.x i) fs):=by unfold Sat;exact⟨i,fs,o,rfl,h,a⟩
end
section
variable{Q:SO->Prop}{i j n p:Nat}
theorem Zv(k:Sat (λy=>∃τ,y=.exc c τ) (s (args++List.replicate n none))):∃τ,AX n s args=.exc c τ:=by obtain⟨τ,e⟩:=k;exact⟨_,Ff e⟩
theorem q_xx:Sat (λy=>∃τ,y=.exc c τ) (.exc c fs):=⟨fs,rfl⟩
end
section
variable{i j:Nat}
theorem x_fzT:fzR (.nw (TL C K hs)) fs=.ok (.t (A7 C K hs)) fs:=rfl
end
theorem q_nrm(e:fs=ak)(k:Sat Q (Aj s h ak)):Sat Q (Aj s h fs):=by rwa[e]
theorem P8{i k:Nat}(hp:∀j,FL.placeOf fs j is 0=if j=i then some k else none)(ht:τ[k]?=some (some (.bor o))):∀(gs:FS)(j:Nat),(∀n s,gs[n]?=some s->j+n=i->s=some (.own o))->Ct fs is τ j gs=some gs
 | [],_,_=>by simp[Ct]
 |s::gs,j,h=>by
  have b1:FL.DT fs is τ j s=some s:=by
   unfold FL.DT;rw[hp j];by_cases q:j=i
   .rw[if_pos q,h 0 s rfl (by lia)];simp only[ht,FL.Sl.put]
   .rw[if_neg q]
  simp only[Ct,b1,(P8 hp ht gs (j+1) λn s e1 e2=>h (n+1) s (by simpa using e1) (by lia))]
theorem Tu{k:Nat}{o:FO}{i:Nat}(h0:ga fs=.ok rs ae)(hp:rs.length=p)(hi:ae[i]?=some (some (.own o)))(hl:Cn ae (rs.map AE)=[i])(hk:∀j,FL.placeOf ae j (rs.map AE) 0=if j=i then some k else none)(hf:Fn (Bx ae (rs.map AE))=.ok (.t t) τ)(ht:τ[k]?=some (some (.bor o))):Ad (Ae p Fn) ga fs=.ok (.t t) ae :=
 C0 h0 hp (by rw[hl];simp) hf (P8 hk ht ae 0 λn s e1 e2=>by rw[Nat.zero_add]at e2;subst e2;rw[hi]at e1;exact(Option.some.inj e1).symm)
section
variable{i:Nat}
theorem T5(hi:ae[i]?=some (some (.own o))):AI ae (.slot i)=some i:=by simp only[FL.AI,FL.Aq,hi];rfl
theorem x_l4(h0:ga fs=.ok [.t a1,.t a2,.x i,.t a4] ae)(hi:ae[i]?=some (some (.own o)))(hf:Fn [vl a1,vl a2,some (.bor o),vl a4]=.ok (.t t) τ)(ht:τ[2]?=some (some (.bor o))):Ad (Ae 4 Fn) ga fs=.ok (.t t) ae:=by
 have e:=T5 hi;refine Tu h0 rfl hi ?_ (λj=>?_) ?_ ht
 .show List.filterMap (AI ae) [.val a1,.val a2,.slot i,.val a4]=_;simp[e,show ∀a,AI ae (.val a)=none from λ_=>rfl]
 .show FL.placeOf ae j [.val a1,.val a2,.slot i,.val a4] 0=_;simp[FL.placeOf,e,show ∀a,AI ae (.val a)=none from λ_=>rfl,eq_comm]
 .show Fn [vl a1,vl a2,Nd ae (.slot i),vl a4]=_;rwa[show Nd ae (.slot i)=some (.bor o) by simp only[FL.Nd,hi]]
theorem x_l3(h0:ga fs=.ok [.t a1,.t a2,.x i] ae)(hi:ae[i]?=some (some (.own o)))(hf:Fn [vl a1,vl a2,some (.bor o)]=.ok (.t t) τ)(ht:τ[2]?=some (some (.bor o))):Ad (Ae 3 Fn) ga fs=.ok (.t t) ae:=by
 have e:=T5 hi;refine Tu h0 rfl hi ?_ (λj=>?_) ?_ ht
 .show List.filterMap (AI ae) [.val a1,.val a2,.slot i]=_;simp[e,show ∀a,AI ae (.val a)=none from λ_=>rfl]
 .show FL.placeOf ae j [.val a1,.val a2,.slot i] 0=_;simp[FL.placeOf,e,show ∀a,AI ae (.val a)=none from λ_=>rfl,eq_comm]
 .show Fn [vl a1,vl a2,Nd ae (.slot i)]=_;rwa[show Nd ae (.slot i)=some (.bor o) by simp only[FL.Nd,hi]]
end
abbrev letS:Str:="abcdefghijklmnopqrstuvwxyz"
def sgn(c:Nat):Str:=⟨#[c]⟩
def isL(c:Nat):Bool:=!(Builtin.Str.occurrences letS (sgn c) 0 letS.length 1).isEmpty
def isNm(z:Str):Bool:=decide (1<=z.length/\z.length<=12)&&z.cps.toList.all isL
theorem Ur:CK neg (.t (.str (sgn c))) (.t (.str letS)) fs=.ok (.t (.v (if neg then !isL c else isL c))) fs:=rfl
theorem L1{h:Nat->T}:∀(cs:List Nat)(x:Option Sl)(ar:List T),Fre x->(∀c∈cs,fe [vl (.str (sgn c))]=.ok (.t (h c)) [vl (.str (sgn c))])->ar.length+cs.length<=1000->∃y,A9 (tgN 0) C7 fe (cs.map λc=>T.str (sgn c)) [x] ar=some (ar++cs.map h,[y])
 | [],x,ar,_,_,_=>⟨x,by simp[A9]⟩
 |c::cs,x,ar,fx,he,hl=>by rw[n8]at hl;obtain⟨y,e⟩:=L1 cs (vl (.str (sgn c))) (ar++[h c]) Ak (λc m=>he c (nZ _ m)) (by rw[oi];simp;lia);refine⟨y,?_⟩;rw[nQ,Fs (by unfold tgN;exact Ef rfl fx) (he c (by simp)) (by show _<1000000;lia),e];simp
theorem len_str(h:fs[i]?=some (vl (.str z)))(hz:z.length<=3000):Ad AK (Ab (Aa i) Af) fs=.ok (.t (.int z.length)) fs:=by have e:Kz [.t (.str z)] fs=.ok (.t (.int z.length)) fs:=if_pos (show z.length<=1000000 by lia);refine DJ (Br (Am h) rfl) ?_;show(match orC Kz R8 [.t (.str z)] fs with|o=>o)=_;unfold orC;rw[e]
theorem between{n:Nat}{m:Int}(h:f fs=.ok (.t (.int n)) fs):CJ (asB (chain gLe gLe (gc (.int 1)) f (gc (.int m)))) fs=.ok (!decide (1<=n/\(n:Int)<=m)) fs:=by
 have e1:gLe (.t (.int 1)) (.t (.int n)) fs=.ok (.t (.v (decide ((1:Int)<=n)))) fs:=rfl;have e2:gLe (.t (.int n)) (.t (.int m)) fs=.ok (.t (.v (decide ((n:Int)<=m)))) fs:=rfl;by_cases h1:(1:Int)<=n
 .rw[oO h1]at e1;simp only[CJ,asB,chain,gc,Out.bnd,Out.bind,h,e1,e2];congr 2;rw[decide_eq_decide];constructor
  .exact λz=>⟨by lia,z⟩
  .exact λz=>z.2
 .rw[oF h1]at e1;simp only[CJ,asB,chain,gc,Out.bnd,Out.bind,h,e1];rw[oF (by lia)]
theorem RE{z:Str}(hz:z.length<=3000):AY [vl (.str z)]=.ok (.t (.v (isNm z))) [vl (.str z)]:=by
 have hc:=between (m:=12) (len_str (i:=0) (fs:=[vl (.str z)]) rfl hz);refine(EL (n:=0) (g:=Dy) (args:=[vl (.str z)]) (τ:=[vl (.str z)]) ?_).trans rfl;by_cases h:1<=z.length/\(z.length:Int)<=12
 .rw[oO h]at hc;refine sq (MK hc rfl) ?_;obtain⟨y,e2⟩:=L1 (fe:=Ag (CK false) (fz (Aa 0)) (gc (.str letS))) (h:=λc=>.v (isL c)) z.cps.toList none [] Bi (λc m=>Bu (Bh (Am rfl)) Ei Ur) (by rw[pP];show 0+z.length<=1000;lia);have e3:=Im (src:=[none]) (fi:=itU (fz (Aa 0))) (fs:=[vl (.str z)]) (ts:=signs z) rfl ⟨by rw[show Cn [vl (.str z)] _=[]from rfl];exact oS,by rfl⟩ e2 (AU rfl);rw[qf,show z.cps.toList.map (λc=>T.v (isL c))=(z.cps.toList.map isL).map T.v by rw[om];rfl]at e3;refine Bz (DJ (Br e3 rfl) ?_);simp only[Yp,Bw,oH,Ep,okT];congr 3;unfold isNm;rw[oO (show 1<=z.length/\z.length<=12 by lia),List.all_map];rfl
 .rw[oF h]at hc;have:isNm z=false:=by unfold isNm;rw[oF (show ¬(1<=z.length/\z.length<=12) by lia)];rfl
  rw[this];exact Hz (JaR hc (Bz Ei))
section
variable{fs ae:FS}{c k:Str}{s h:FS->SO}{i n:Nat}{Q:SO->Prop}
theorem q_X(e:s fs=.exc c ae)(k:Sat Q (.exc c ae)):Sat Q (s fs):=by unfold Sat;rwa[e]
theorem q_sX(e:s fs=.exc c ae)(k:Sat Q (.exc c ae)):Sat Q (Aj s h fs):=q_X (Ld e) k
theorem isN_n:LO false (.t .l) (.t .l) fs=.ok (.t (.v true)) fs:=rfl
theorem isN_t:LO false (.t (.tup ts)) (.t .l) fs=.ok (.t (.v false)) fs:=rfl
def Stop:SO->Prop
 |.ret _ _=>True
 |.exc _ _=>True
 |_=>False
theorem Stop.seq(h:Stop (s fs)):Aj s s' fs=s fs:=by unfold Aj;cases e:s fs<;>rw[e]at h<;>first|rfl|exact h.elim
section
variable{α:Type}{I:FS->Prop}{E:Str->SO->Prop}
theorem Jbj(hE:∀c y,E c y->Stop y):∀(xs:List α),(∀a∈xs,ok a=none->∀fs,I fs->∃ae,gt (p a) fs=some ae/\Sat (λy=>∃aq,y=.nx aq/\I aq) (s ae))->(∀a∈xs,∀c,ok a=some c->∀fs,I fs->∃ae,gt (p a) fs=some ae/\Sat (E c) (s ae))->∀fs,I fs->(xs.findSome? ok=none/\∃ak,Dl gt s (xs.map p) fs=.nx ak/\I ak)\/∃c,xs.findSome? ok=some c/\E c (Dl gt s (xs.map p) fs)
 | [],_,_,fs,h=>.inl ⟨rfl,fs,rfl,h⟩
 |a::xs,s0,s1,fs,h=>by
  rw[List.findSome?_cons];cases e:ok a with
  |none =>obtain⟨ae,h1,aq,h2,h3⟩:=s0 a n4 e fs h;rw[nQ,LQ h1 h2];exact Jbj hE xs (λa m=>s0 a (nZ _ m)) (λa m=>s1 a (nZ _ m)) aq h3
  |some c =>
   obtain⟨ae,h1,h2⟩:=s1 a n4 c e fs h;have hs:=hE _ _ h2;refine .inr ⟨c,rfl,?_⟩;rw[nQ];have:Dl gt s (p a::xs.map p) fs=s ae:=by rw[Dl,h1];cases e2:s ae<;>rw[e2]at hs<;>first|exact hs.elim|simp only[e2]
   rwa[this]
theorem VC{xs:List α}(hi:it fs=.ok (xs.map p) ae)(ok:α->Option Str)(I:FS->Prop)(E:Str->SO->Prop)(hE:∀c y,E c y->Stop y)(h1:I ae)(s0:∀a∈xs,ok a=none->∀fs,I fs->∃ae,gt (p a) fs=some ae/\Sat (λy=>∃aq,y=.nx aq/\I aq) (s ae))(s1:∀a∈xs,∀c,ok a=some c->∀fs,I fs->∃ae,gt (p a) fs=some ae/\Sat (E c) (s ae))(k0:xs.findSome? ok=none->∀fs,I fs->Sat Q (h fs))(k1:∀c,xs.findSome? ok=some c->∀y,E c y->Q y):Sat Q (Aj (BB it gt s) h fs):=by
 have ef:BB it gt s fs=Dl gt s (xs.map p) ae:=II hi rfl;rcases Jbj hE xs s0 s1 ae h1 with⟨e,ak,e1,e2⟩|⟨c,e,e1⟩
 .exact Bl (ef.trans e1) (k0 e ak e2)
 .have e1:=ef▸e1;rw[(hE _ _ e1).seq];exact k1 c e _ e1
end
end
theorem q_i(h:Q y):Sat Q y:=h
theorem q_o(h:Sat Q y):Q y:=h
section
variable{Q:SO->Prop}
end
section
variable{p:Nat}
theorem S5{t:T}(hp:rs.length=p)(hn:Cn fs (rs.map AE)=[])(hf:Fn (Bx fs (rs.map AE))=.ok (.t t) τ):Ae p Fn rs fs=.ok (.t t) fs:=by unfold Ae;rw[if_pos hp];unfold En;rw[if_pos (by rw[hn];exact oS),hf];simp only[(AU hn)]
theorem M4{c:Str}(hp:rs.length=p)(hn:Cn fs (rs.map AE)=[])(hf:Fn (Bx fs (rs.map AE))=.exc c τ):Ae p Fn rs fs=.exc c fs:=by unfold Ae;rw[if_pos hp];unfold En;rw[if_pos (by rw[hn];exact oS),hf];simp only[(AU hn)]
end
inductive Th where
 |mk (m:Str) (ps:List Th)
def Th.ps:Th->List Th
 |.mk _ ps=>ps
mutual
def Th.t:Th->T
 |.mk m ps=>.tup [.str m,.tup (Th.ts ps)]
def Th.ts:List Th->List T
 | []=>[]
 |h::hs=>h.t::Th.ts hs
end
mutual
def Th.sz:Th->Nat
 |.mk _ ps=>1+Th.szs ps
def Th.szs:List Th->Nat
 | []=>0
 |h::hs=>h.sz+Th.szs hs
end
theorem Th.AR:∀hs:List Th,Th.ts hs=hs.map Th.t
 | []=>by simp[Th.ts]
 |h::hs=>by simp[Th.ts,Th.AR hs]
theorem Th.t_eq(h:Th):∃m,h.t=.tup [.str m,.tup (h.ps.map Th.t)]:=by cases h with|mk m ps=>exact⟨m,by simp[Th.t,Th.AR,Th.ps]⟩
theorem Nz:∀a b:List Th,Th.szs (a++b)=Th.szs a+Th.szs b
 | [],b=>by simp[Th.szs]
 |h::a,b=>by simp[Th.szs,Nz a b];lia
theorem sz_ps(h:Th):h.sz=1+Th.szs h.ps:=by cases h;simp[Th.sz,Th.ps]
theorem Hw:∀L:List Th,Th.szs L=L.length+Th.szs (L.flatMap Th.ps)
 | []=>by simp
 |h::L=>by
  rw[pR,Nz,n8,Th.szs,sz_ps h,Hw L]
  lia
theorem Ke(L:List Th):L.length<=Th.szs L:=by rw[Hw];lia
mutual
def Th.dp:Th->Nat
 |.mk _ ps=>1+Th.dps ps
def Th.dps:List Th->Nat
 | []=>0
 |h::hs=>max h.dp (Th.dps hs)
end
theorem Pz:∀a b:List Th,Th.dps (a++b)=max (Th.dps a) (Th.dps b)
 | [],b=>by simp[Th.dps]
 |h::a,b=>by simp[Th.dps,Pz a b]
theorem SG(h:Th):h.dp=1+Th.dps h.ps:=by cases h;simp[Th.dp,Th.ps]
theorem LX:∀(h:Th)(L:List Th),Th.dps (h::L)=1+Th.dps ((h::L).flatMap Th.ps)
 |h,[]=>by simp[Th.dps,SG h]
 |h,g::L=>by
  rw[pR,Pz,Th.dps,LX g L,SG h]
  lia
theorem IJ{n:Nat}(h:c fs=.ok false fs):BN c b (n+1) fs=.nx fs:=by rw[BN,h];rfl
theorem ext_t{i:Nat}(h0:fs[i]?=some (some (.own (.lst ts))))(h:f fs=.ok (.t (.tup us)) fs)(hl:ts.length+us.length<=big)(e:fs.set i (some (.own (.lst (ts++us))))=ak):Au (Aw MS (Aa i) (Ab f Af)) fs=.nx ak:=by
 have h1:=Cf h0;have h2:=objO h0;have h3:Bw fs (.x i)=some ts:=by simp only[Bw,h2]
 have h4:Ab f Af fs=.ok [.t (.tup us)] fs:=Br h rfl;have h5:Pa (.x i) [.t (.tup us)] fs=.ok (.t .l) ak:=by
  simp only[Pa,h2];rw[if_pos hl];have:FL.putAt fs i (.lst (ts++us))=ak:=by unfold FL.putAt;rw[h0];exact e
  rw[this]
 have kN:MS (.x i) [.t (.tup us)] fs=.ok (.t .l) ak:=by exact h5
 have h6:Aw MS (Aa i) (Ab f Af) fs=.ok (.t .l) ak:=by unfold Aw;rw[h1];show(if(Bw fs (.x i)).isSome=true then _ else _)=_;rw[h3,if_pos (show(some ts).isSome=true from rfl),h4];exact kN
 unfold Au;rw[h6];rfl
theorem TK{cs:List Int}(h:f fs=.ok (.t (.lst (cs.map T.int))) ae):Ad Qo (Ab f Af) fs=.ok (.t (.int cs.sum)) ae:=by refine Bf (Bq h A2) ?_;show(match(Bw ae (.t (.lst (cs.map T.int)))).bind EX with|some ns=>okT (.int ns.sum) ae|none=>.bad)=_;rw[show Bw ae (.t (.lst (cs.map T.int)))=some (cs.map T.int)from rfl,oH,CH];rfl
abbrev RF:List Str:=["program","calls_left","waiting","worths"]
theorem FQ:(("calls_left":Str) == "program")=false/\(("waiting":Str) == "program")=false/\(("waiting":Str) == "calls_left")=false/\(("worths":Str) == "program")=false/\(("worths":Str) == "calls_left")=false/\(("worths":Str) == "waiting")=false:=by decide +kernel
theorem YS:AQ RF [x0,x1,x2,x3] "program"=some x0:=by simp[AQ]
theorem Vc:AQ RF [x0,x1,x2,x3] "calls_left"=some x1:=by simp[AQ,FQ.1]
theorem FC:AQ RF [x0,x1,x2,x3] "waiting"=some x2:=by simp[AQ,FQ.2.1,FQ.2.2.1]
theorem E8:AQ RF [x0,x1,x2,x3] "worths"=some x3:=by simp[AQ,FQ.2.2.2.1,FQ.2.2.2.2.1,FQ.2.2.2.2.2]
theorem TQ:BO RF [x0,x1,x2,x3] "waiting" y=[x0,x1,y,x3]:=by simp[BO,FQ.2.1,FQ.2.2.1]
theorem QK:BO RF [x0,x1,x2,x3] "worths" y=[x0,x1,x2,y]:=by simp[BO,FQ.2.2.2.1,FQ.2.2.2.2.1,FQ.2.2.2.2.2]
theorem V2:De RF [x0,.val t,x2,x3] "calls_left" y=some (RF,[x0,y,x2,x3]):=by
 have h:("program":Str)≠"calls_left":=by decide +kernel
 simp[De,h]
section
variable{i:Nat}{fs ae ak:FS}{C:Addr}{gs eL:List Str}{os gv:List FO}{f:Str}{p:Addr}{ts us:List T}{t:T}{fe:sT}{c:Str}
theorem Qj(h0:fs[i]?=some (some (.bor (.ins C gs os))))(hv:AQ gs os f=some (.la p us))(he:fe fs=.ok (.t t) ae)(h1:ae[i]?=some (some (.bor (.ins C eL gv))))(lP:AQ eL gv f=some (.la p ts))(hl:ts.length<100000)
  (e:ae.set i (some (.bor (.ins C eL (BO eL gv f (.la p (ts++[t]))))))=ak):Au (C1 C f i fe) fs=.nx ak:=by
 refine KJ (r:=.t .l) ?_;unfold C1;rw[HI h0];simp only[hv,he];show(match Rv.t t,FL.Aq ae i with|.t t,some (.ins C2 fM gR)=>_|_,_=>_)=_;rw[HI h1];simp only[lP,if_true];rw[if_pos ⟨trivial,(show ts.length<1000000 by lia)⟩];rw[show FL.putAt ae i (.ins C eL (BO eL gv f (.la p (ts++[t]))))=ak by unfold FL.putAt;rw[h1];exact e]
theorem Yc(h0:fs[i]?=some (some (.bor (.ins C gs os))))(hv:AQ gs os f=some (.la p us))(he:fe fs=.exc c ae):Au (C1 C f i fe) fs=.exc c ae:=by refine Jy ?_;unfold C1;rw[HI h0];simp only[hv,he];rfl
theorem TJ(h0:fs[i]?=some (some (.bor (.ins C gs os))))(hv:AQ gs os f=some (.la p ts)):Mu C f i fs=.ok (!ts.isEmpty) fs:=by unfold Mu;rw[HI h0];simp only[hv,if_true]
theorem Jbm(h0:fs[i]?=some (some (.bor (.ins C gs os))))(hv:AQ gs os f=some (.val t)):Cg C f (Aa i) fs=.ok (.t t) fs:=by unfold Cg;rw[HZ h0];show W7 C f (.x i) fs=_;simp only[W7,HI h0,hv];rfl
theorem tg{j:Nat}(e:fs[j]?=some x)(h:Fre x):tgN j t fs=some (fs.set j (vl t)):=by exact Ef e h
end
def wt(h:Th):T:=.tup [h.t,.int (h.sz:Int),.int (h.dp:Int)]
theorem N0{fs:FS}{j:Nat}:∀(ts:List T)(k:Nat),FL.placeOf fs j (ts.map Ini.val) k=none
 | [],_=>rfl
 |t::ts,k=>by exact N0 ts (k+1)
theorem P7{fs:FS}{is:List Ini}{τ:FS}:∀(gs:FS)(j:Nat),(∀k,j<=k->FL.placeOf fs k is 0=none)->Ct fs is τ j gs=some gs
 | [],_,_=>rfl
 |s::gs,j,h=>by simp only[Ct,DT,h j (n9 _),P7 gs (j+1) λk hk=>h k (by lia)]
section
variable{o1 o2:FO}{rest τ:FS}{ts:List T}
theorem Qb:Cb (.slot 0::ts.map Ini.val) (some (.bor o2)::τ) (some (.bor o1)::rest)=some (some (.bor o2)::rest):=by
 have hl:AI (some (.bor o1)::rest) (.slot 0)=some 0:=rfl;have h0:FL.placeOf (some (.bor o1)::rest) 0 (.slot 0::ts.map Ini.val) 0=some 0:=by simp[FL.placeOf,hl]
 have h1:∀k,1<=k->FL.placeOf (some (.bor o1)::rest) k (.slot 0::ts.map Ini.val) 0=none:=λk hk=>by
  have:¬(0:Nat)=k:=by lia
  simp[FL.placeOf,hl,this,N0]
 unfold Cb;rw[Ct,P7 rest 1 h1];rfl
theorem JaM{fs:FS}:∀ts:List T,Bx fs (ts.map Ini.val)=ts.map vl
 | []=>rfl
 |t::ts=>by have:=JaM (fs:=fs) ts;unfold Bx at this ⊢;simp only[nQ,Nd,this]
theorem Ul{fs:FS}:∀ts:List T,Cn fs (ts.map Ini.val)=[]
 | []=>rfl
 |t::ts=>by have:=Ul (fs:=fs) ts;unfold Cn at this ⊢;simp only[nQ,pB,AI,this]
theorem ini_t(ts:List T):(ts.map Rv.t).map AE=ts.map Ini.val:=by rw[om];rfl
end
section
variable{C:Addr}{m:Str}{p:Nat}{Fn:sT}{fa:sU}{fs az τ:FS}{gs:List Str}{os:List FO}{o1 o2:FO}{ts:List T}{t:T}{c:Str}{rest:FS}
theorem Wy(hi:gs.any (·==m)=false)(ha:fa (some (.bor (.ins C gs os))::rest)=.ok (ts.map Rv.t) (some (.bor o1)::az))(hp:ts.length+1=p){r x:Out Rv}
  (he:(match x with|.ok (.t t) τ=>(match Cb (.slot 0::ts.map Ini.val) τ (some (.bor o1)::az)with|some ak=>.ok (.t t) ak|none=>.bad)|.ok (.nw o) τ=>(match Cb (.slot 0::ts.map Ini.val) τ (some (.bor o1)::az)with|some ak=>.ok (.nw o) ak|none=>.bad)|.exc c τ=>(match Cb (.slot 0::ts.map Ini.val) τ (some (.bor o1)::az)with|some ak=>.exc c ak|none=>.bad)|_=>.bad)=r) (hf:Fn (some (.bor o1)::ts.map vl)=x):Bd C m p Fn (Aa 0) fa (some (.bor (.ins C gs os))::rest)=r:=by
 unfold Bd;show(if DR C m (some (.bor (.ins C gs os))::rest) (.x 0)=true then _ else _)=_;have k7:DR C m (some (.bor (.ins C gs os))::rest) (.x 0)=true:=by simp[DR,HI (i:=0) (fs:=some (.bor (.ins C gs os))::rest) rfl,hi]
 rw[if_pos k7,ha];show Ae p Fn (.x 0::ts.map Rv.t) (some (.bor o1)::az)=_;unfold Ae;rw[if_pos (by simpa using hp)];unfold En;have ei:(Rv.x 0::ts.map Rv.t).map AE=.slot 0::ts.map Ini.val:=by rw[nQ,ini_t];rfl
 have en:Cn (some (.bor o1)::az) (.slot 0::ts.map Ini.val)=[0]:=by have:=Ul (fs:=some (.bor o1)::az) ts;unfold Cn at this ⊢;rw[pB,this];rfl
 have es:Bx (some (.bor o1)::az) (.slot 0::ts.map Ini.val)=some (.bor o1)::ts.map vl:=by have:=JaM (fs:=some (.bor o1)::az) ts;unfold Bx at this ⊢;rw[nQ,this];rfl
 rw[ei,en,if_pos (by simp),es,hf];exact he
theorem Ov(hi:gs.any (·==m)=false)(ha:fa (some (.bor (.ins C gs os))::rest)=.ok (ts.map Rv.t) (some (.bor o1)::az))(hp:ts.length+1=p)
  (hf:Fn (some (.bor o1)::ts.map vl)=.ok (.t t) (some (.bor o2)::τ)):Bd C m p Fn (Aa 0) fa (some (.bor (.ins C gs os))::rest)=.ok (.t t) (some (.bor o2)::az) :=
 Wy hi ha hp (by simp only[Qb]) hf
theorem Ru{o:FO}(hi:gs.any (·==m)=false)(ha:fa (some (.bor (.ins C gs os))::rest)=.ok (ts.map Rv.t) (some (.bor o1)::az))(hp:ts.length+1=p)
  (hf:Fn (some (.bor o1)::ts.map vl)=.ok (.nw o) (some (.bor o2)::τ)):Bd C m p Fn (Aa 0) fa (some (.bor (.ins C gs os))::rest)=.ok (.nw o) (some (.bor o2)::az) :=
 Wy hi ha hp (by simp only[Qb]) hf
theorem Ox(hi:gs.any (·==m)=false)(ha:fa (some (.bor (.ins C gs os))::rest)=.ok (ts.map Rv.t) (some (.bor o1)::az))(hp:ts.length+1=p)
  (hf:Fn (some (.bor o1)::ts.map vl)=.exc c (some (.bor o2)::τ)):Bd C m p Fn (Aa 0) fa (some (.bor (.ins C gs os))::rest)=.exc c (some (.bor o2)::az) :=
 Wy hi ha hp (by simp only[Qb]) hf
end
def Yh(cR:Addr)(P:T)(a b:Addr)(n:Int)(w W:List T):FO:=.ins cR RF [.val P,.val (.int n),.la a w,.la b W]
def wi(e ρ:T)(d:Int)(r:Bool):T:=.tup [e,ρ,.int d,.v r]
section
variable{n:Int}
abbrev bO(cR:Addr)(P:T)(a b:Addr)(n:Int)(w W:List T):Option Sl:=some (.bor (Yh cR P a b n w W))
end
theorem Kc:∀hs:List Th,(hs.map λh=>(h.sz:Int)).sum=(Th.szs hs:Int)
 | []=>rfl
 |h::hs=>by
  rw[nQ,List.sum_cons,Kc hs,Th.szs]
  lia
theorem fold_max:∀(hs:List Th)(k:Nat),(hs.map λh=>(h.dp:Int)).foldl mxF (k:Int)=((max k (Th.dps hs):Nat):Int)
 | [],k=>by simp[Th.dps]
 |h::hs,k=>by
  rw[nQ,List.foldl_cons];have e:mxF (k:Int) (h.dp:Int)=((max k h.dp:Nat):Int):=by unfold mxF;split<;>lia
  rw[e,fold_max hs,Th.dps]
  lia
theorem Py(hs:List Th):mxD 0 (hs.map λh=>(h.dp:Int))=(Th.dps hs:Int):=by cases hs with|nil=>rfl|cons h hs =>show(hs.map λh=>(h.dp:Int)).foldl mxF (h.dp:Int)=_;rw[fold_max,Th.dps]
theorem ix{i:Nat}(h:f fs=.ok (.t (.tup ts)) fs)(e:ts[i]?=some t):Ag Ap f (gc (.int (i:Int))) fs=.ok (.t t) fs:=by refine Bu h Ei ?_;simp only[Ap,orG,gIx,exL,Ki,Bw,(AZ e)];rfl
def fits(h:Th):Bool:=decide (h.sz<=300/\h.dp<=40)
section
variable{n:Int}
theorem app_w{e:sT}{t:T}{rest:FS}(he:e (bO cR P a b n w W::rest)=.ok (.t t) (bO cR P a b n w W::rest))(hl:w.length<100000):Au (C1 cR "waiting" 0 e) (bO cR P a b n w W::rest)=.nx (bO cR P a b n (w++[t]) W::rest) :=
 Qj (C:=cR) (gs:=RF) (os:=[.val P,.val (.int n),.la a w,.la b W]) (eL:=RF) (gv:=[.val P,.val (.int n),.la a w,.la b W]) (p:=a) (ts:=w) (us:=w) rfl FC he rfl FC hl (by rw[TQ];rfl)
theorem disp4{f1 f2 f3:sT}{r:Bool}{e ρ:T}{d:Int}{fs:FS}(h1:f1 fs=.ok (.t e) fs)(h2:f2 fs=.ok (.t ρ) fs)(h3:f3 fs=.ok (.t (.int d)) fs):Ao AW (Ab f1 (Ab f2 (Ab f3 (Ab (gc (.v r)) Af)))) fs=.ok (.t (wi e ρ d r)) fs :=
 PD (Br h1 (Br h2 (Br h3 (Br Ei A2)))) rfl (show 4<=big by decide) rfl
end
def Es(xs:List Str)(hs:List Th):T:=.n (xs.map λx=>(.inr x:Key)) (hs.map wt)
section
variable{n:Int}{d:Int}
theorem Vl{x:FS}:NA cR "calls_left" 0 1 (bO cR P a b n w W::x)=.nx (bO cR P a b (n-1) w W::x):=by unfold NA;rw[HI rfl];simp only[Yh,V2];rfl
end
inductive Ex where
 |nm (x:Str)|mk (m:Str) (as:List Ex)|cl (f:Str) (as:List Ex)
mutual
def Ex.t:Ex->T
 |.nm x=>.tup [.str "name",.str x]
 |.mk m as=>.tup [.str "make",.str m,.tup (Ex.ts as)]
 |.cl f as=>.tup [.str "call",.str f,.tup (Ex.ts as)]
def Ex.ts:List Ex->List T
 | []=>[]
 |e::es=>e.t::Ex.ts es
end
theorem Ex.AR:∀es:List Ex,Ex.ts es=es.map Ex.t
 | []=>by simp[Ex.ts]
 |e::es=>by simp[Ex.ts,Ex.AR es]
abbrev wC(cR:Addr):sV:=Mu cR "waiting" 0
abbrev tkF(cR:Addr):sT:=fz (Bd cR "taken" 2 (B9 cR) (Aa 0) (Ac (Ad AK (Ab (Ag Ap (Aa 3) (gc (.int 2))) Af)) Af))
abbrev wB(cP cR:Addr):FS->SO:=(Aj (Et (fz (HD cR "waiting" 0)) (AD 4 (Ai (tgN 3) (Ai (tgN 4) (Ai (tgN 5) (Ai (tgN 6) AB))))))
  (ifS (asB (Ag (gEq false) (Ag Ap (Aa 3) (gc (.int 0))) (gc (.str ("name":Str))))) (Au (C1 cR "worths" 0 (Ag Ap (Aa 4) (Ag Ap (Aa 3) (gc (.int 1)))))) (ifS (CJ (DL (Aa 6))) (Au (Bd cR "await_arguments" 4 (AS cR) (Aa 0) (Ac (fz (Aa 3)) (Ac (fz (Aa 4)) (Ac (fz (Aa 5)) Af))))) (ifS (asB (Ag (gEq false) (Ag Ap (Aa 3) (gc (.int 0))) (gc (.str ("make":Str))))) (Au (C1 cR "worths" 0 (fz (Ad (Ae 2 Jx) (Ac (Ag Ap (Aa 3) (gc (.int 1))) (Ac (tkF cR) Af)))))) (Au (Bd cR "await_body" 4 (A8 cP cR) (Aa 0) (Ac (Ag Ap (Aa 3) (gc (.int 1))) (Ac (tkF cR) (Ac (fz (Aa 5)) Af)))))))))
theorem QQ:RF.any (·==("await_arguments":Str))=false/\RF.any (·==("taken":Str))=false/\RF.any (·==("await_body":Str))=false/\RF.any (·==("worth":Str))=false:=by decide +kernel
theorem Hj:("make":Str)≠"name"/\("call":Str)≠"name"/\("call":Str)≠"make":=by decide +kernel
section
variable{n:Int}
abbrev fr(cR:Addr)(P:T)(a b:Addr)(x1 x2:Option Sl)(n:Int)(w W:List T)(y3 y4 y5 y6:Option Sl):FS:=[bO cR P a b n w W,x1,x2,y3,y4,y5,y6]
section
variable{d:Int}
end
end
theorem P6{i k:Nat}(hp:∀j,FL.placeOf fs j is 0=if j=i then some k else none):∀(gs:FS)(j:Nat),i<j->Ct fs is τ j gs=some gs
 | [],_,_=>by simp[Ct]
 |s::gs,j,h=>by
  have b1:FL.DT fs is τ j s=some s:=by unfold FL.DT;rw[hp j,if_neg (by lia)]
  simp only[Ct,b1,P6 hp gs (j+1) (by lia)]
theorem Qa{i k:Nat}(hp:∀j,FL.placeOf fs j is 0=if j=i then some k else none)(ht:τ[k]?=some (some (.bor o))):∀(gs:FS)(j m:Nat),j+m=i->gs[m]?=some (some s)->Ct fs is τ j gs=some (gs.set m (some (s.put o)))
 | [],_,_,_,h=>by simp at h
 |u::gs,j,0,e,h=>by
  have e:j=i:=e;subst e;have h:=by simpa using h
  subst h;have b1:FL.DT fs is τ j (some s)=some (some (s.put o)):=by unfold FL.DT;rw[hp j,if_pos rfl];simp only[ht]
  simp only[Ct,b1,P6 hp gs (j+1) (by lia),List.set]
 |u::gs,j,m+1,e,h=>by
  have b1:FL.DT fs is τ j u=some u:=by unfold FL.DT;rw[hp j,if_neg (by lia)]
  simp only[Ct,b1,Qa hp ht gs (j+1) m (by lia) (by simpa using h),List.set]
theorem N1{i j:Nat}{bs:List T}(e:AI fs (.slot i)=some i):∀(as:List T)(n:Nat),FL.placeOf fs j (as.map Ini.val++.slot i::bs.map Ini.val) n=if j=i then some (n+as.length)else none
 | [],n=>by
  have nb:∀(bs:List T)(n:Nat),FL.placeOf fs j (bs.map Ini.val) n=none:=λbs=>by
   induction bs with
   |nil=>exact λ_=>rfl
   |cons b bs ih=>exact λn=>by simp only[nQ,FL.placeOf,show AI fs (.val b)=none from rfl,ih];simp
  simp only[pF,qf,FL.placeOf,e,nb,Option.some.injEq,List.length_nil,Nat.add_zero,eq_comm]
 |a::as,n=>by
  simp only[nQ,qm,FL.placeOf,show AI fs (.val a)=none from rfl,N1 e as (n+1),n8];simp only[reduceCtorEq,if_false];congr 2
  lia
section
variable{p i:Nat}
theorem J3{as bs:List T}(h0:ga fs=.ok (as.map .t++.x i::bs.map .t) ae)(hp:as.length+(bs.length+1)=p)(hi:ae[i]?=some (some s))(hs:s=.own o\/s=.bor o)(hf:Fn (as.map vl++some (.bor o)::bs.map vl)=.ok (.t t) τ)(ht:τ[as.length]?=some (some (.bor o'))):Ad (Ae p Fn) ga fs=.ok (.t t) (ae.set i (some (s.put o'))):=by
 have e:AI ae (.slot i)=some i:=by rcases hs with rfl|rfl<;>(simp only[FL.AI,FL.Aq,hi];rfl)
 have em:(as.map Rv.t++.x i::bs.map Rv.t).map AE=as.map Ini.val++.slot i::bs.map Ini.val:=by rw[nU,nQ,om,om];rfl
 have nv:∀as:List T,(as.map Ini.val).filterMap (AI ae)=[]:=λas=>by induction as with|nil=>rfl|cons a as ih=>rw[nQ,List.filterMap_cons_none (by rfl),ih]
 have jR:∀as:List T,(as.map Ini.val).map (Nd ae)=as.map vl:=λas=>by rw[om];rfl
 refine C0 h0 (by simpa using hp) ?_ (τ:=τ) ?_ ?_
 .rw[em];unfold FL.Cn;rw[List.filterMap_append,List.filterMap_cons_some e,nv,nv];simp
 .rw[em];unfold FL.Bx;rwa[nU,nQ,jR,jR,show Nd ae (.slot i)=some (.bor o) by rcases hs with rfl|rfl<;>simp only[FL.Nd,hi]]
 .rw[em];exact Qa (λj=>by rw[N1 e as 0,Nat.zero_add]) ht ae 0 i (Nat.zero_add _) hi
theorem x_w6(h0:ga fs=.ok [.t a1,.t a2,.t a3,.t a4,.t a5,.x i] ae)(hi:ae[i]?=some (some s))(hs:s=.own o\/s=.bor o)(hf:Fn [vl a1,vl a2,vl a3,vl a4,vl a5,some (.bor o)]=.ok (.t t) τ)(ht:τ[5]?=some (some (.bor o'))):Ad (Ae 6 Fn) ga fs=.ok (.t t) (ae.set i (some (s.put o'))):=J3 (as:=[a1,a2,a3,a4,a5]) (bs:=[]) h0 rfl hi hs hf ht
theorem x_e7(h0:ga fs=.ok [.t a1,.t a2,.t a3,.t a4,.t a5,.x i,.t a6] ae)(hi:ae[i]?=some (some s))(hs:s=.own o\/s=.bor o)(hf:Fn [vl a1,vl a2,vl a3,vl a4,vl a5,some (.bor o),vl a6]=.ok (.t t) τ)(ht:τ[5]?=some (some (.bor o'))):Ad (Ae 7 Fn) ga fs=.ok (.t t) (ae.set i (some (s.put o'))):=J3 (as:=[a1,a2,a3,a4,a5]) (bs:=[a6]) h0 rfl hi hs hf ht
end
theorem ix_rf{i:Nat}{j:Int}(h:Aq fs i=some (.lst ts))(e:atI ts j=some t):Ap (.x i) (.t (.int j)) fs=.ok (.t t) fs:=by unfold Ap orG gIx;simp only[Bw,h,e];rfl
theorem set0{i:Nat}(hv:fv fs=.ok (.t t) fs)(h:fs[i]?=some (some (.bor (.lst [t0])))):A1 fv (Aa i) (gc (.int 0)) fs=.nx (fs.set i (some (.bor (.lst [t])))):=by
 have hg:Aa i fs=.ok (.x i) fs:=by unfold Aa;rw[h]
 have ho:Aq fs i=some (.lst [t0]):=by unfold Aq;rw[h]
 unfold A1;rw[hv,BG (x:=.t t) True.intro,hg,BG (x:=.x i) True.intro];show O4 (.x i) (.t (.int 0)) (.t t) fs=_;unfold O4 O5;simp only[ho,FL.putAt,h];rfl
theorem Zh{i:Nat}(h:Aq fs i=some (.lst (t::ts))):GI (.x i) (some 1) none fs=.ok (.t (.lst ts)) fs:=by have:=Gr (xs:=t::ts) (v:=1) (by lia) (by simp);unfold GI;simp only[Bw,h];rw[this];rfl
theorem YG{ns:List Int}{k:Int}(ht:IsI t ns)(h:0<=k/\k<ns.length):Ap (.t t) (.t (.int k)) fs=.ok (.t (.int (ns.getD k.toNat 0))) fs:=Ja7 ht h.1 h.2
theorem x_mn2{i j:Int}(h:ga fs=.ok [.t (.int i),.t (.int j)] ae):Ad Js ga fs=.ok (.t (.int (if j<i then j else i))) ae:=Bf h rfl
theorem Nj{α:Type}{xs:List α}{b:α->Int}(h:f fs=.ok (.t (.lst us)) ae)(e:us=xs.map λa=>T.int (b a)):Ad Qo (Ab f Af) fs=.ok (.t (.int (xs.map b).sum)) ae:=by subst e;refine Bf (CL h True.intro A2) ?_;have:=CH (xs.map b);rw[om]at this;simp only[Qo,Bw,oH];rw[show(λa=>T.int (b a))=T.int∘b from rfl,this];rfl
theorem Tr{i:Nat}(h:fs[i]?=some (some (.own (.lst ts)))):Zr (Aa i) fs=.ok (.nw (.lst ts.reverse)) fs:=by unfold Zr;rw[Cf h,BG (x:=.x i) True.intro,TN h]
theorem Vy{a j b:Int}(h:ga fs=.ok [.t (.int a),.t (.int j),.t (.int b)] ae)(a0:0<=a)(a1:a<=1000)(j0:0<=j)(j1:j<=63)(b0:1<=b)(b1:b<=1000):∃n:Nat,n<=63/\(∀k<n,a+k*b<j)/\itR3 ga fs=.ok ((List.range n).map λk=>T.int (a+(k:Nat)*b)) ae :=
 ⟨_,IW (by lia) a0 j1,λk hk=>QV (by lia) hk,by unfold itR3;rw[h];exact if_pos ⟨by lia,by lia,NF a0 a1 j0 j1 b0 b1,Lj (by lia)⟩⟩
theorem q_ex{β:Type}{A:β->Prop}{r:β->Rv}{n:Nat}(k:Sat (Rr λx=>∃b,x=r b/\A b) (s (args++List.replicate n none))):∃b,A b/\∃τ,AX n s args=.ok (r b) τ:=let⟨_,τ,e,b,h,a⟩:=Zw k;⟨b,a,τ,h▸e⟩
theorem mul_M{c:Int}:BQ (.t (.int (c*c+c+1))) (.t (.int 982451653)) fs=.ok (.t (.int (Nm.M c))) fs:=O7 ⟨by decide,by decide⟩
theorem Fh{n k:Nat}{P R:List Nat}(e:P++k::R=List.range n):k=P.length/\k<n:=by
 have h:=congrArg (·[P.length]?) e;have l:=congrArg List.length e;simp at h l;rw[pO (by lia)]at h;injection h with h
 lia
theorem ZE{n:Nat}(k:Sat (Ro (·=o)) (s (args++List.replicate n none))):∃τ,AX n s args=.ok (.nw o) τ:=let⟨_,τ,e,h⟩:=Ll k;⟨τ,h▸e⟩
theorem JaE{g:Nat->Nat}{js:List Nat}(h:f fs=.ok (.t (.lst us)) fs)(e:us=js.map λj=>T.str ⟨#[g j]⟩)(hl:js.length<=1000):Rq KA (gc (.str ("":Str))) (Ab f Af) fs=.ok (.t (.str (Txt.join (⟨#[]⟩:Str) (js.map λj=>(⟨#[g j]⟩:Str))))) fs:=by subst e;show((Ab f Af fs).bind _)=_;rw[Br h (show Af fs=.ok [] fs from rfl)];have:=WL (fs:=fs) (f:=g) hl;rwa[om]at this
theorem SD{f:Nat->T}{n k:Nat}:((List.range n).map f).drop k=(List.range (n-k)).map λj=>f (k+j):=List.ext_getElem (by simp) (by intros;simp)
theorem x_p4{i:Nat}(h0:ga fs=.ok [.t a1,.t a2,.t a3,.x i] ae)(hi:ae[i]?=some (some s))(hs:s=.own o\/s=.bor o)(hf:Fn [vl a1,vl a2,vl a3,some (.bor o)]=.ok (.t t) τ)(ht:τ[3]?=some (some (.bor o'))):Ad (Ae 4 Fn) ga fs=.ok (.t t) (ae.set i (some (s.put o'))):=J3 (as:=[a1,a2,a3]) (bs:=[]) h0 rfl hi hs hf ht
theorem NO{α:Type}(I:α->FS->Prop)(μ:α->Nat)(st:∀a fs,I a fs->(c fs=.ok false fs/\Sat Q (h fs))\/(c fs=.ok true fs/\Sat (λy=>∃aq,y=.nx aq/\∃a',μ a'<μ a/\I a' aq) (b fs))):∀(n:Nat)(a:α)(fs:FS),I a fs->μ a<n->Sat Q (Aj (BN c b n) h fs)
 |0,a,fs,_,l=>by lia
 |n+1,a,fs,i,l=>by
  rcases st a fs i with⟨e,k⟩|⟨e,k⟩
  .exact Bl (IJ e) k
  .obtain⟨aq,e2,a',m,i'⟩:=k;have:=NO I μ st n a' aq i' (by lia);unfold Sat Aj at this ⊢;rwa[K0 e e2]
theorem YY{i:Nat}(h:fs[i]?=some (vl (.lst ts)))(e:(!ts.isEmpty)=b):DL (Aa i) fs=.ok b fs:=by subst e;unfold DL;rw[Am h];rfl
theorem ZF{β:Type}{A:β->Prop}{r:β->FO}{n:Nat}(k:Sat (Ro λx=>∃b,x=r b/\A b) (s (args++List.replicate n none))):∃b,A b/\∃τ,AX n s args=.ok (.nw (r b)) τ:=let⟨_,τ,e,b,h,a⟩:=Ll k;⟨b,a,τ,h▸e⟩
theorem x_ext{i:Nat}(h0:fs[i]?=some (some (.own (.lst ts))))(h:f fs=.ok (.t (.tup us)) fs)(hl:ts.length+us.length<=big):Au (Aw MS (Aa i) (Ab f Af)) fs=.nx (fs.set i (some (.own (.lst (ts++us))))):=ext_t h0 h hl rfl
theorem Tt{α:Type}{xs:List α}{b:α->Int}(h:f fs=.ok (.t (.lst us)) ae)(e:us=xs.map λa=>T.int (b a)):maxD 0 (Ab f Af) fs=.ok (.t (.int (mxD 0 (xs.map b)))) ae:=by subst e;have:=CH (xs.map b);rw[om]at this;unfold maxD;rw[CL h True.intro A2];simp only[Out.bind,Bw,oH];rw[show(λa=>T.int (b a))=T.int∘b from rfl,this];rfl
theorem q_rc(k:Sat Q (.exc c fs)):Sat Q (Aj (B4 c (Ab (gc t) Af)) h fs):=q_sX rfl k
theorem q_exS{n:Nat}(k:Sat (λy=>∃τ,y=.ret (.nw o) (z::τ)) (s ([x,vl y]++List.replicate n none))):∃τ,AX n s [x,vl y]=.ok (.nw o) (z::τ):=by obtain⟨τ,e⟩:=k;exact⟨_,NI e⟩
section
variable{cR:Addr}{P t:T}{a b:Addr}{n n' n1:Int}{w W w' W' w1 W1:List T}{rest cf az τ ae:FS}{e:sT}{Fn:sT}{fa:sU}{x y z:T}{o:FO}{c:Str}
theorem popW:HD cR "waiting" 0 (bO cR P a b n (w++[t]) W::rest)=.ok (.t t) (bO cR P a b n w W::rest):=by unfold HD;rw[HI rfl];simp only[Yh,FC,qp,pU];rfl
theorem popS:HD cR "worths" 0 (bO cR P a b n w (W++[t])::rest)=.ok (.t t) (bO cR P a b n w W::rest):=by unfold HD;rw[HI rfl];simp only[Yh,E8,qp,pU];rfl
theorem a_wait(he:e (bO cR P a b n w W::rest)=.ok (.t t) (bO cR P a b n' w' W'::cf))(hl:w'.length<100000):Au (C1 cR "waiting" 0 e) (bO cR P a b n w W::rest)=.nx (bO cR P a b n' (w'++[t]) W'::cf):=Qj rfl FC he rfl FC hl (by rw[TQ];rfl)
theorem a_wor(he:e (bO cR P a b n w W::rest)=.ok (.t t) (bO cR P a b n' w' W'::cf))(hl:W'.length<100000):Au (C1 cR "worths" 0 e) (bO cR P a b n w W::rest)=.nx (bO cR P a b n' w' (W'++[t])::cf):=Qj rfl E8 he rfl E8 hl (by rw[QK];rfl)
theorem a_worX(he:e (bO cR P a b n w W::rest)=.exc c ae):Au (C1 cR "worths" 0 e) (bO cR P a b n w W::rest)=.exc c ae:=Yc rfl E8 he
theorem m_tk(ha:fa (bO cR P a b n w W::rest)=.ok [.t x] (bO cR P a b n1 w1 W1::az))(hf:Fn [bO cR P a b n1 w1 W1,vl x]=.ok (.nw o) (bO cR P a b n' w' W'::τ)):Bd cR "taken" 2 Fn (Aa 0) fa (bO cR P a b n w W::rest)=.ok (.nw o) (bO cR P a b n' w' W'::az):=Ru (ts:=[x]) QQ.2.1 ha rfl hf
theorem m_aa(ha:fa (bO cR P a b n w W::rest)=.ok [.t x,.t y,.t z] (bO cR P a b n1 w1 W1::az))(hf:Fn [bO cR P a b n1 w1 W1,vl x,vl y,vl z]=.ok (.t t) (bO cR P a b n' w' W'::τ)):Bd cR "await_arguments" 4 Fn (Aa 0) fa (bO cR P a b n w W::rest)=.ok (.t t) (bO cR P a b n' w' W'::az):=Ov (ts:=[x,y,z]) QQ.1 ha rfl hf
theorem m_ab(ha:fa (bO cR P a b n w W::rest)=.ok [.t x,.t y,.t z] (bO cR P a b n1 w1 W1::az))(hf:Fn [bO cR P a b n1 w1 W1,vl x,vl y,vl z]=.ok (.t t) (bO cR P a b n' w' W'::τ)):Bd cR "await_body" 4 Fn (Aa 0) fa (bO cR P a b n w W::rest)=.ok (.t t) (bO cR P a b n' w' W'::az):=Ov (ts:=[x,y,z]) QQ.2.2.1 ha rfl hf
theorem m_abX(ha:fa (bO cR P a b n w W::rest)=.ok [.t x,.t y,.t z] (bO cR P a b n1 w1 W1::az))(hf:Fn [bO cR P a b n1 w1 W1,vl x,vl y,vl z]=.exc c (bO cR P a b n' w' W'::τ)):Bd cR "await_body" 4 Fn (Aa 0) fa (bO cR P a b n w W::rest)=.exc c (bO cR P a b n' w' W'::az):=Ox (ts:=[x,y,z]) QQ.2.2.1 ha rfl hf
theorem f_cl:Cg cR "calls_left" (Aa 0) (bO cR P a b n w W::rest)=.ok (.t (.int n)) (bO cR P a b n w W::rest):=Jbm rfl Vc
theorem f_pr:Cg cR "program" (Aa 0) (bO cR P a b n w W::rest)=.ok (.t P) (bO cR P a b n w W::rest):=Jbm rfl YS
end
theorem ZG{n:Nat}(k:Sat (λy=>∃τ,y=.nx (z::τ)) (s (x::args++List.replicate n none))):∃τ,AX n s (x::args)=.ok (.t .l) (z::τ):=by obtain⟨τ,e⟩:=k;unfold AX;rw[e];exact⟨_,rfl⟩
theorem it_vt(h:f fs=.ok (.t (.tup ts)) ae):itVT f fs=.ok ts.reverse ae:=by unfold itVT;rw[h];rfl
theorem q_exX{n:Nat}(k:Sat (λy=>∃τ,y=.exc c (z::τ)) (s (x::args++List.replicate n none))):∃τ,AX n s (x::args)=.exc c (z::τ):=by obtain⟨τ,e⟩:=k;exact⟨_,Ff e⟩
theorem Ic:("call":Str)≠"make"/\("make":Str)≠"name"/\("call":Str)≠"name"/\("make":Str)≠"call":=by decide +kernel
@[irreducible] def Tn (cR:Addr) (P:T) (a b:Addr) (x1 x2:Option Sl) (n:Int) (w W:List T) (y:SO):Prop:=∃z3 z4 z5 z6,y=.nx (fr cR P a b x1 x2 n w W (vl z3) (vl z4) (vl z5) (vl z6))
theorem q_tn{n:Int}:Sat (Tn cR P a b x1 x2 n w W) (.nx (fr cR P a b x1 x2 n w W (vl z3) (vl z4) (vl z5) (vl z6))):=by unfold Sat Tn;exact⟨_,_,_,_,rfl⟩
theorem tn_o{n:Int}(h:Sat (Tn cR P a b x1 x2 n w W) y):∃z3 z4 z5 z6,y=.nx (fr cR P a b x1 x2 n w W (vl z3) (vl z4) (vl z5) (vl z6)):=by unfold Sat Tn at h;exact h
section
set_option tactic.hygienic false
seal Sat B4 Rr Src Aj Av ifS retS Au BB Et Ag Aa gc fz Ac Ab Af Ad Ae Ao Aw Bd Eg AL asB CJ DL GF orT tgN AD Ai AB itU itZ itD ES Cg slF chain Dl gEq Ap CK Cu GJ BX Az BQ fzR GH D6 BW DS A1 BF D5 dput2 DY fzD GI AW Be Bm IF DN
set_option hygiene false
nonrec def Zz7(y:String):Lean.MacroM Lean.Term:=match y with
|"!"=>`(by assumption)|"%"=>`(hr.mono (by first | decide | omega))|"&"=>`(JaX hr)|"#"=>`(by decide)|"$"=>`(by first | exact lk.lk | exact Lks.no)|"^"=>`(by decide +kernel)|"~"=>`(HI rfl)|"="=>`(⟨by omega,by omega⟩)|"+"=>`(by first | exact T.zP | exact T.zw | exact T.zT | exact T.zC | exact T.zK | exact T.zE | exact T.zB | exact T.zv)|"*"=>`(pv _)|"@"=>`(Uq T.yR ?_ ?_)|"<"=>`(by first | exact Or.inl rfl | exact Or.inr rfl)|">"=>`(T.xt.t1 (by decide +kernel))|"?"=>`(?_)|"_"=>`(_)|_=>return Lean.mkIdent y.toName
nonrec def Zz8(x:String):Lean.MacroM (Lean.TSyntax `Lean.Parser.Tactic.tacticSeq):=do
 let a<-((x.drop 1).toString.splitOn ",").toArray.mapM Zz7
 let t:=Lean.Syntax.mkApp a[0]! (a.extract 1)
 match x.front with
 |'a'=>`(Lean.Parser.Tactic.tacticSeq|apply $t)|'e'=>`(Lean.Parser.Tactic.tacticSeq|exact $t)|_=>`(Lean.Parser.Tactic.tacticSeq|refine $t)
nonrec def Zz9(s:String):Lean.MacroM Lean.Syntax:=do
 let l<-(s.splitOn " ").toArray.mapM Zz8
 `(tactic|first $[|$l]*)
local macro_rules|`(tactic|infer_instance)=>`(tactic|(first|(refine(?_:¬ _);focus (decide +kernel))|(refine(?_:((_:Nat):Int)<=_);focus (first | lia | (simp;lia)))|(refine(?_:By _ _ _=_);assumption)|(refine(?_:_=Out.ok _ _);assumption)))
local macro_rules|`(tactic|infer_instance)=>Zz9 "es_k0 es_k1 es_k2"
local macro_rules|`(tactic|infer_instance)=>`(tactic|exact(rfl:C7 _=_))
local macro_rules|`(tactic|infer_instance)=>Zz9 "ax_itZ ax_itD"
local macro_rules|`(tactic|infer_instance)=>`(tactic|(first|(refine(?_:Yt _=_);rfl)|(refine(?_:_/\List.length _ < 900);exact⟨rfl,Nat.le_of_ble_eq_true rfl⟩)|(refine(?_:List.Nodup (List.map Prod.fst _));assumption)))
local macro_rules|`(tactic|infer_instance)=>Zz9 "eJsOk.nil aJsOk.c,# aJsOk.r,rfl"
local macro_rules|`(tactic|infer_instance)=>`(tactic|(first|(refine(?_:¬ _∈([]:List Str));exact ph)|(refine(?_:¬ _);assumption)))
local macro_rules|`(tactic|infer_instance)=>Zz9 "aMg"
local macro_rules|`(tactic|infer_instance)=>`(tactic|(refine(?_:List.map _ _=List.map _ _);rfl))
local macro_rules|`(tactic|infer_instance)=>Zz9 "ex_noP aU2"
local macro_rules|`(tactic|infer_instance)=>`(tactic|(first|(refine(?_:List.length _<=List.length _);focus (first | lia | (simp;lia)))|(refine(?_:_<=big);focus (show _<=1000000;first | lia | (simp;lia)))|(refine(?_:_<=((_:Nat):Int));focus (first | lia | (simp;lia)))))
local macro_rules|`(tactic|infer_instance)=>Zz9 "aSN aOh"
local macro_rules|`(tactic|infer_instance)=>`(tactic|(first|exact .inr (.inl rfl)|exact .inr (.inr rfl)))
local macro_rules|`(tactic|infer_instance)=>Zz9 "eso0 aso1 aNv aso2,rfl"
local macro_rules|`(tactic|infer_instance)=>`(tactic|(refine(?_:(_:Bool)=false);focus (first | rfl | (simp [h1];done) | (simp [h];done) | (simp [hl];done))))
local macro_rules|`(tactic|infer_instance)=>Zz9 "eRG,^"
local macro_rules|`(tactic|infer_instance)=>`(tactic|(refine(?_:List.length _=_);first | rfl | focus (simp;done)))
local macro_rules|`(tactic|infer_instance)=>Zz9 "aZx"
local macro_rules|`(tactic|infer_instance)=>`(tactic|(first|(refine(?_:_ < 1000000);focus (first | omega | (simp;omega)))|(refine(?_:_ < 100000);focus (first | lia | (simp;lia)))|exact .inr rfl))
local macro_rules|`(tactic|infer_instance)=>Zz9 "aU4"
local macro_rules|`(tactic|infer_instance)=>`(tactic|(first|(refine(?_:_=Sl.own _∨_=Sl.bor _);first | exact .inl rfl | exact .inr rfl)|exact .inl rfl))
local macro_rules|`(tactic|infer_instance)=>`(tactic|(refine(?_:_=_->Sat _ _);first | (focus (intro hb;exfalso;simp [Ic] at hb;first | done | contradiction | omega)) | (focus (intro hb;exfalso;simp [h] at hb;done)) | (focus (intro hb;exfalso;simp [h1] at hb;done)) | (focus (intro hb;exfalso;simp [hv] at hb;done)) | intro hb))
local macro_rules|`(tactic|infer_instance)=>Zz9 "eTrue.intro aAF eA2 ax_asB aCL eNat.le_of_ble_eq_true,rfl"
local macro_rules|`(tactic|infer_instance)=>do
 let w1<-Zz9 "eTM,rfl,! ev_s0 ev_s1 ev_s2 ev_s3 ev_s4 ev_k1 ev_k2 ew_k0 ew_k1 ew_k2"
 `(tactic|(refine(?_:(_:Option _)=_);first|(refine(?_:atI _ _=_);assumption)|$(⟨w1⟩):tactic))
local macro_rules|`(tactic|infer_instance)=>do
 let w1<-Zz9 "ex_al0 ax_al1 eat0 ax_tgc"
 let w2<-Zz9 "eMf,rfl,True.intro eMf,rfl,! eEf,rfl,True.intro eat1 eat2 eEf,rfl,! eTM,rfl,True.intro ax_tup ex_tg0"
 let w3<-Zz9 "ex_sqt"
 `(tactic|(refine(?_:(_:Option _)=_);first|$(⟨w1⟩):tactic|(refine(?_:(_:FS)[(_:Nat)]?=_);rfl)|$(⟨w2⟩):tactic|(refine(?_:atI _ _=_);with_unfolding_all rfl)|$(⟨w3⟩):tactic))
local macro_rules|`(tactic|infer_instance)=>do
 let w1<-Zz9 "aII aYL aTs,rfl aYM aU5 aU6"
 `(tactic|(refine(?_:(_:SO)=_);$(⟨w1⟩):tactic))
local macro_rules|`(tactic|infer_instance)=>do
 let w1<-Zz9 "ax_set aa_wait aa_wor ax_app,rfl ax_asg"
 let w2<-Zz9 "ax_put eYy aTq aU3 aTp aYO aBz aTs,rfl ax_ext,rfl aKJ"
 `(tactic|(refine(?_:(_:SO)=_);first|$(⟨w1⟩):tactic|(refine(?_:A1 _ _ (gc (T.int 0)) _=_);apply set0)|$(⟨w2⟩):tactic))
local macro_rules|`(tactic|infer_instance)=>do
 let w1<-Zz9 "ax_fld aJcc eUx,# eUx,="
 let w2<-Zz9 "eO8,="
 let w3<-Zz9 "egLe_i eisN_n eisN_t eninT,!"
 `(tactic|(refine(?_:(_:Out Rv)=_);first|$(⟨w1⟩):tactic|exact O8 ⟨by decide,by decide⟩|$(⟨w2⟩):tactic|exact O7 ⟨by split <;> decide,by split <;> decide⟩|$(⟨w3⟩):tactic))
local macro_rules|`(tactic|infer_instance)=>do
 let w1<-Zz9 "ax_tpl ax_any ex_fzS ex_fzT aYw eYI,rfl eYK,rfl eYJ,rfl ax_m2 ex_fzD,rfl eYz eYA ax_slk ax_mk1 ax_mk2 ax_mk5"
 `(tactic|(refine(?_:(_:Out Rv)=_);$(⟨w1⟩):tactic))
local macro_rules|`(tactic|infer_instance)=>do
 let w1<-Zz9 "egNe_s egNe_i ein_t eUr"
 let w2<-Zz9 "eJaO,~ eUs,~ eJaP eYC eZh,rfl ax_slF aU7 aR0 aget_f ex_fzr,rfl ex_fzk"
 `(tactic|(refine(?_:(_:Out Rv)=_);first|$(⟨w1⟩):tactic|exact JaO (objO rfl)|$(⟨w2⟩):tactic))
local macro_rules|`(tactic|infer_instance)=>do
 let w1<-Zz9 "eHZ,rfl egLt_i ex_dl ex_dn ax_ixl eUw,#"
 let w2<-Zz9 "eneg1 ax_m0 ax_m1 aNk aYH ax_lst aYx,rfl ePf aX1"
 `(tactic|(refine(?_:(_:Out Rv)=_);first|$(⟨w1⟩):tactic|exact Uw (by omega)|$(⟨w2⟩):tactic))
local macro_rules|`(tactic|infer_instance)=>do
 let w1<-Zz9 "eU8,rfl"
 let w2<-Zz9 "ax_c1 ax_c2 ax_c3 ax_c4 ax_c5 ax_c6 elen_str,rfl,! ax_len ex_dt eCf,rfl eUv"
 `(tactic|(refine(?_:(_:Out Rv)=_);first|$(⟨w1⟩):tactic|(refine(?_:Ad (Ae 6 (AM _)) _ _=_);apply x_w6)|(refine(?_:Ad (Ae 7 (Bj _)) _ _=_);apply x_e7)|(refine(?_:Ad (Ae 4 BY) _ _=_);apply x_l4)|(refine(?_:Ad (Ae 3 BL) _ _=_);apply x_l3)|$(⟨w2⟩):tactic))
local macro_rules|`(tactic|infer_instance)=>do
 let w1<-Zz9 "aZA aq_X,hX"
 let w2<-Zz9 "aZy aVB aq_rc aq_ss"
 let w3<-Zz9 "aq_bad aq_if aq_ret eq_xx"
 `(tactic|(refine(?_:Sat _ _);first|(refine(?_:Sat _ (Aj _ _ (List.set _ _ _)));apply q_nrm;focus (dsimp only [List.set_cons_zero,List.set_cons_succ,List.cons_append,List.nil_append,List.replicate_succ,List.replicate_zero,List.append_nil];try exact rfl))|$(⟨w1⟩):tactic|((first | refine(?_:Sat _ (Aj (ifS (asB _) _ _) _ _)) | refine(?_:Sat _ (Aj (ifS (CJ _) _ _) _ _)));apply FR)|$(⟨w2⟩):tactic|((first | refine(?_:Sat _ (Aj (Av _ _) _ _)) | refine(?_:Sat _ (Aj (Au _) _ _)) | refine(?_:Sat _ (Aj (Et _ _) _ _)) | refine(?_:Sat _ (Aj (A1 _ _ _) _ _)) | refine(?_:Sat _ (Aj (DS _ _ _ _) _ _)) | refine(?_:Sat _ (Aj (BF _ _ _ _ _) _ _)) | refine(?_:Sat _ (Aj (D5 _ _ _ _) _ _)));apply Bl)|$(⟨w3⟩):tactic|(refine(?_:Sat _ (.ret _ _));first | exact q_rr True.intro rfl | (apply q_rr;exact True.intro))|(refine(?_:Sat _ (.nx _));first | exact q_tn | exact q_nxt | exact ZC | apply VD)|((first | refine(?_:Sat _ (Av _ _ _)) | refine(?_:Sat _ (Au _ _)) | refine(?_:Sat _ (Et _ _ _)) | refine(?_:Sat _ (A1 _ _ _ _)) | refine(?_:Sat _ (DS _ _ _ _ _)) | refine(?_:Sat _ (BF _ _ _ _ _ _)) | refine(?_:Sat _ (dput2 _ _ _ _ _ _ _)));apply ZD)))
local macro_rules|`(tactic|infer_instance)=>do
 let w1<-Zz9 "aYN egEqi eJa9 ex_fzl eYF,rfl aU1"
 `(tactic|(refine(?_:(_:Out Rv)=_);first|$(⟨w1⟩):tactic|(refine(?_:Ad (Ae 4 (DH _)) _ _=_);apply x_n4)|(refine(?_:Ad (Ae 4 Fo) _ _=_);apply x_p4)))
local macro_rules|`(tactic|infer_instance)=>do
 let w1<-Zz9 "eAm,rfl epopW epopS ef_cl ef_pr am_tk am_aa am_ab ax_bin eVM,rfl,rfl eVL,rfl,rfl ax_fz eEi ex_fzt"
 let w2<-Zz9 "ax_ixt"
 `(tactic|(refine(?_:(_:Out Rv)=_);first|$(⟨w1⟩):tactic|(refine(?_:Ap (Rv.x _) _ _=_);apply ix_rf rfl)|$(⟨w2⟩):tactic))
local macro_rules|`(tactic|infer_instance)=>`(tactic|(refine(?_:_=_);with_reducible assumption))
local macro_rules|`(tactic|trivial)=>`(tactic|repeat infer_instance)
theorem TX{A:FS->Prop}(k:Sat (λy=>∃τ,y=.nx τ/\A (τ.take args.length)) (s (args++List.replicate n none))):∃τ,AX n s args=.ok (.t .l) τ/\A τ:=by unfold Sat at k;obtain⟨τ,e,a⟩:=k;exact⟨_,by unfold AX;rw[e],a⟩
theorem Wq{K:Kd}(e:D++kd::R=K)(nd:(K.map (·.1)).Nodup):(.inr kd.1:Key)∉D.map λkd=>(.inr kd.1:Key):=λm=>by obtain⟨z,mz,ez⟩:=oo.mp m;rw[<- e,nU,nQ]at nd;exact(oU.mp nd).2.2 z.1 (oo.mpr ⟨z,mz,rfl⟩) kd.1 n4 (Sum.inr.inj ez)
theorem MG(e:D++a::R=xs):D.length<xs.length/\a∈xs:=by rw[<- e];simp
theorem JG(W:Well K):∃τ,CV [vl (.lst (K.map BP))]=.ok (.t .l) τ:=by
 have h1:=W.lo;have h4:=W.hi;apply IX;trivial;apply EN (I:=λ(D:Kd) fs=>∃(vs:List T)(y2 y3:Option Sl),fs=[vl (.lst (K.map BP)),some (.own (.n (D.map λkd=>.inr kd.1) vs)),y2,y3]/\Fre y2/\Fre y3)
 case hi=>trivial
 case h0=>exact⟨_,_,_,rfl,True.intro,True.intro⟩
 case st =>
  rintro D kd R _ e ⟨vs,y2,y3,rfl,f2,f3⟩
  have le:=MG e;have hn:=W.nm kd le.2;have hr:=W.rw kd le.2;have nk:=Wq e W.nd;have nv:=C9 (ts:=vs) nk;trivial
  .simp[nv]
  trivial;exact⟨_,_,_,by rw[nU];rfl,Ak,Ak⟩
 case k =>intro fs h;trivial
theorem JF{ps names:List Str}(hn:AY [vl (.str m)]=.ok (.t (.v true)) [vl (.str m)])(hk:(.inr m:Key)∉ks)(h2:ps.length<=2)(hp:∀p∈ps,p∈names):∃τ,BY [vl (.str m),vl (.tup (ps.map .str)),some (.bor (.n ks vs)),vl (.lst (names.map .str))]=.ok (.t .l) τ/\τ[2]?=some (some (.bor (.n ks vs))):=by
 have nv:=C9 (ts:=vs) hk;apply TX;trivial
 .simp[nv]
 trivial
 .simp;lia
 trivial;apply TY (Pe:=λu=>∃p,u=.str p/\p∈names) (I:=λfs=>∃y4,fs=[vl (.str m),vl (.tup (ps.map .str)),some (.bor (.n ks vs)),vl (.lst (names.map .str)),y4]/\Fre y4)
 case hi=>trivial
 case h0=>exact λu mu=>let⟨p,mp,e⟩:=oo.mp mu;⟨p,e.symm,hp p mp⟩
 case h1=>exact⟨_,rfl,True.intro⟩
 case st =>
  rintro _ _ ⟨p,rfl,mp⟩ ⟨y4,rfl,f4⟩
  trivial
  .simp[mp]
  trivial;exact⟨_,rfl,Ak⟩
 case k =>
  rintro _ ⟨y4,rfl,f4⟩
  apply VD;rfl
section
variable{K:Kd}
theorem Iq{ps names:List Str}(hp:∀p∈ps,p∈names):∃τ,BL [vl (.str m),vl (.tup (ps.map .str)),some (.bor (.lst (names.map .str)))]=.ok (.t .l) τ/\τ[2]?=some (some (.bor (.lst (names.map .str)))):=by
 apply TX;apply TY (Pe:=λu=>∃p,u=.str p/\p∈names) (I:=λfs=>∃y4,fs=[vl (.str m),vl (.tup (ps.map .str)),some (.bor (.lst (names.map .str))),y4]/\Fre y4)
 case hi=>trivial
 case h0=>exact λu mu=>let⟨p,mp,e⟩:=oo.mp mu;⟨p,e.symm,hp p mp⟩
 case h1=>exact⟨_,rfl,True.intro⟩
 case st =>
  rintro _ _ ⟨p,rfl,mp⟩ ⟨y4,rfl,f4⟩
  trivial
  .simp[mp]
  trivial;exact⟨_,rfl,Ak⟩
 case k =>
  rintro _ ⟨y4,rfl,f4⟩
  apply VD;rfl
theorem Ip(W:Well K):∃τ,Cq [vl (.lst (K.map BP))]=.ok (.t .l) τ:=by
 have h4:=W.hi;apply IX;trivial
 .apply KN
  .trivial
  .trivial
  .exact λ_=>rfl
  .intro r mr;trivial
  .lia
 rw[show(K.map λkd=>T.str kd.1)=(K.map (·.1)).map T.str by rw[om];rfl];trivial;apply EN (I:=λD  fs=> ∃(vs:List T)(y4 y5 y6 y7 y8:Option Sl),fs=[vl (.lst (K.map BP)),vl (.lst ((K.map (·.1)).map .str)),some (.own (.lst ((D.map (·.1)).map .str))),some (.own (.n (BU D) vs)),y4,y5,y6,y7,y8]/\Fre y4/\Fre y5/\Fre y6/\Fre y7/\Fre y8)
 case hi=>trivial
 case h0=>exact⟨[],none,none,none,none,none,rfl,True.intro,True.intro,True.intro,True.intro,True.intro⟩
 case st =>
  rintro D kd R _ e ⟨vs,y4,y5,y6,y7,y8,rfl,f4,f5,f6,f7,f8⟩
  obtain⟨w1,w2,w3,w4⟩:=W.part e;have le:=MG e;obtain⟨r0,rt,er⟩:=pN (W.rw kd w3).1;have a0:atI (kd.2.map IV) 0=some (IV r0):=by rw[er];exact at0
  trivial;apply Bb (I:=λ(Z:List (Str×List Str)) fs=>∃(vs:List T)(y7 y8:Option Sl),fs=[vl (.lst (K.map BP)),vl (.lst ((K.map (·.1)).map .str)),some (.own (.lst ((D.map (·.1)).map .str))),some (.own (.n (BU D++Z.map Uo) vs)),vl (.str kd.1),vl (.lst (kd.2.map IV)),vl (.str r0.1),y7,y8]/\Fre y7/\Fre y8)
  case hi=>trivial
  case h0=>exact⟨vs,y7,y8,by rw[pF,oN],f7,f8⟩
  case st =>
   rintro Z r Y _ e2 ⟨vs,y7,y8,rfl,f7,f8⟩
   have eE:=MG e2;have nk:=by rw[<- e2,nU,nQ,<- oV]at w1;exact λm=>(oU.mp w1).2.2 _ m _ n4 rfl
   obtain⟨_,c1,c2⟩:=JF (W.xy _ (Wz w3 eE.2)) nk (W.two kd w3 r eE.2) (W.yK kd w3 r eE.2);have cg:=λh=>Iq (m:=r.1) (W.gr D kd R e.symm r (by rw[er,QP w4 eE.2 (by rw[er];exact n4) (oj h)];rfl))
   trivial
   .exact(cg hb).choose_spec.1
   .exact(cg hb).choose_spec.2
   trivial
   .exact⟨_,_,_,by rw[nU,<- oV];rfl,Ak,Ak⟩
   trivial;exact⟨_,_,_,by rw[nU,<- oV];rfl,Ak,Ak⟩
  case k =>
   rintro _ ⟨vs,y7,y8,rfl,f7,f8⟩
   trivial;exact⟨vs,_,_,_,_,_,by rw[nU,nU,Ew];rfl,Ak,Ak,Ak,f7,f8⟩
 case k =>intro fs h;trivial
end
theorem WD(h:Th)(hz:h.sz<=900):∃cs:List Int,(cs.sum=(h.sz:Int)/\cs.length=h.dp)/\∃τ,Co [vl h.t]=.ok (.nw (.lst (cs.map T.int))) τ:=by
 apply ZF;trivial;apply NO (α:=List Th×List Int) (λp fs=>∃x y z,fs=[vl h.t,some (.own (.lst (p.2.map T.int))),vl (.lst (p.1.map Th.t)),x,y,z]/\p.2.sum+Th.szs p.1=h.sz/\p.2.length+Th.dps p.1=h.dp/\p.2.length+Th.szs p.1<=900/\Fre x/\Fre y/\Fre z) (λp=>Th.szs p.1) (a:=([h],[]))
 case a=>exact⟨none,none,none,rfl,by simp[Th.szs],by simp[Th.dps],by simpa[Th.szs],True.intro,True.intro,True.intro⟩
 case a=>simp[Th.szs];lia
 rintro⟨L,cs⟩ _ ⟨x,y,z,rfl,hs,hd,hl,fx,fy,fz⟩
 dsimp only at *;cases L with
 |nil =>refine .inl ⟨YY rfl rfl,?_⟩;trivial;exact Yj rfl ⟨cs,rfl,by simpa[Th.szs]using hs,by simpa[Th.dps]using hd⟩
 |cons g L =>
  refine .inr ⟨YY rfl rfl,?_⟩;have hf:=Hw (g::L);have ba:=LX g L;generalize hL:g::L=LL at *;trivial;apply Bb (I:=λD fs=>∃y z,fs=[vl h.t,some (.own (.lst (cs.map T.int++[T.int (LL.map Th.t).length]))),vl (.lst (LL.map Th.t)),some (.own (.lst ((D.flatMap Th.ps).map Th.t))),y,z]/\Fre y/\Fre z)
  case hi=>trivial
  case h0=>exact⟨y,z,rfl,fy,fz⟩
  case st =>
   rintro D g R _ e ⟨y,z,rfl,fy,fz⟩
   have hg:=Ke (LL.flatMap Th.ps);rw[<- e,qa,pR,oi,oi,<- pR,<- qa,e]at hg;have hg:((D.flatMap Th.ps).map Th.t).length+(g.ps.map Th.t).length<=1000000:=by rw[nX,nX];lia
   obtain⟨m,et⟩:=g.t_eq;rw[et];trivial;exact⟨_,_,by rw[qa,nU,List.flatMap_singleton];rfl,Ak,Ak⟩
  case k =>
   rintro _ ⟨y,z,rfl,fy,fz⟩
   trivial;have hn:=congrArg List.length hL;simp at hn;exact⟨(LL.flatMap Th.ps,cs++[(LL.length:Int)]),by dsimp only;lia,_,_,_,by rw[nU,nX];rfl,by simp;lia,by simp;lia,by simp;lia,Ak,fy,fz⟩
theorem K1(h:Th)(hz:h.sz<=900):∃τ,CB [vl h.t]=.ok (.t (wt h)) τ:=by
 obtain⟨cs,⟨hs,hd⟩,_,e⟩:=WD h hz;apply Cd;trivial
 .exact TK (Am rfl)
 trivial;simp[wt,hs,hd]
theorem wt_c{hs:List Th}{k:Int}(h1:fs[1]?=some (vl (.lst (hs.map wt))))(hq:∀h:Th,atI [h.t,.int h.sz,.int h.dp] k=some (q h))(hl:hs.length<=1000):AL false [none] (itU (fz (Aa 1))) (tgN 0) C7 (Ag Ap (Aa 0) (gc (.int k))) fs=.ok (.t (.lst (hs.map q))) fs:=by
 apply Nk
 .have:=Am h1;trivial
 .trivial
 .apply Dw
  .trivial
  .intro h _;have:=hq h;trivial
  .exact hl
theorem Jau(m:Str)(hs:List Th)(hl:hs.length<=1000):if fits (.mk m hs)=true then ∃τ,Jx [vl (.str m),vl (.lst (hs.map wt))]=.ok (.t (wt (.mk m hs))) τ else ∃τ,Jx [vl (.str m),vl (.lst (hs.map wt))]=.exc "TooLong" τ:=by
 have es:=Kc hs;have ed:=Py hs;have ef:fits (.mk m hs)=true↔1+Th.szs hs<=300/\1+Th.dps hs<=40:=by unfold fits;rw[decide_eq_true_iff,Th.sz,Th.dp]
 split<;>rename_i h<;>rw[ef]at h
 .apply Cd;trivial
  .exact Nj (wt_c rfl (λh=>at1) hl) rfl
  trivial
  .exact Tt (wt_c rfl (λh=>at2) hl) rfl
  trivial;rw[es,ed];apply FR
  .apply Ha<;>trivial
  .intro hb;simp at hb
   lia
  intro _;trivial
  .apply Dw
   .trivial
   .intro h _;trivial
   .exact hl
  trivial;simp[wt,Th.t,Th.AR,Th.sz,Th.dp]
 .apply Zv;trivial
  .exact Nj (wt_c rfl (λh=>at1) hl) rfl
  trivial
  .exact Tt (wt_c rfl (λh=>at2) hl) rfl
  trivial;apply FR
  .apply Ha<;>trivial
  .trivial
  .intro hb;simp at hb
   lia
section
variable{n:Int}
theorem K6{k:Nat}(vs:List T)(hk:k=vs.length)(hl:k<=900):∃τ,B9 cR [bO cR P a b n w (W++vs),iv k]=.ok (.nw (.lst vs)) (bO cR P a b n w W::τ):=by
 subst hk;apply q_exS;trivial;apply Bb (I:=λD fs=>∃x,fs=[bO cR P a b n w (W++vs.take (vs.length-D.length)),iv vs.length,some (.own (.lst (vs.drop (vs.length-D.length)).reverse)),x]/\Fre x)
 case hi=>exact Mg (by trivial) rfl (by lia)
 case h0=>exact⟨none,by simp,True.intro⟩
 case st =>
  rintro D k R _ e ⟨x,rfl,fx⟩
  obtain⟨rfl,hk⟩:=Fh e;obtain⟨j,hj⟩:∃j,vs.length-D.length=j+1:=⟨vs.length-D.length-1,by lia⟩
  rw[hj,pH (by lia),<- oV];trivial;rw[show vs.length-(D++[D.length]).length=j by simp;lia,pV (i:=j) (by lia),List.reverse_cons];exact⟨_,rfl,Ak⟩
 case k =>
  rintro _ ⟨x,rfl,fx⟩
  rw[o8,Nat.sub_self,List.take_zero,oN,List.drop_zero];trivial
  .exact Tr rfl
  rw[List.reverse_reverse];exact q_i ⟨_,rfl⟩
theorem E5{d:Int}(hl:w.length+as.length<=80000):∃τ,AS cR [bO cR P a b n w W,vl (.tup [f,h,.tup as]),vl ρ,iv d]=.ok (.t .l) (bO cR P a b n (w++[wi (.tup [f,h,.tup as]) ρ d true]++as.reverse.map λt=>wi t ρ d false) W::τ):=by
 apply ZG;trivial;apply EN (I:=λD fs=>∃x,fs=[bO cR P a b n (w++[wi (.tup [f,h,.tup as]) ρ d true]++D.map λt=>wi t ρ d false) W,vl (.tup [f,h,.tup as]),vl ρ,iv d,x]/\Fre x)
 case hi =>rw[List.map_id];exact it_vt (by trivial)
 case h0=>exact⟨none,by rw[pF,oN];rfl,True.intro⟩
 case st =>
  rintro D t R _ e ⟨x,rfl,fx⟩
  have:=congrArg List.length e;simp at this;trivial;exact⟨_,by rw[nU,<- oV];rfl,Ak⟩
 case k =>
  rintro _ ⟨x,rfl,fx⟩
  exact q_i ⟨_,rfl⟩
theorem X3{hs:List Th}{d:Int}(h:n<=0\/20<d):∃τ,A8 cP cR [bO cR P a b n w W,vl (.str f),vl (.lst (hs.map wt)),iv d]=.exc "TooLong" (bO cR P a b n w W::τ):=by
 apply q_exX;rcases h with h|h
 .trivial
  .exact q_i ⟨_,rfl⟩
  trivial
 .trivial
  .exact q_i ⟨_,rfl⟩
  trivial
  .exact q_i ⟨_,rfl⟩
  trivial
theorem KY{ps rest:List Th}{d:Int}(hn:0<n)(hd:d<=20)(hP:∀fs,DR cP "row" fs (.t P)=true)(bw:A5 cP [vl P,vl (.str f),vl (.str m)]=.ok (.t (.tup [.tup (xs.map T.str),body])) [vl P,vl (.str f),vl (.str m)])
  (hx:xs.Nodup) (iL:xs.length=ps.length+rest.length) (hz:∀h∈ps,h.sz<=900) (hl:ps.length+rest.length<=100) (hw:w.length<=80000) :
  ∃τ,A8 cP cR [bO cR P a b n w W,vl (.str f),vl (.lst ((Th.mk m ps::rest).map wt)),iv d]=.ok (.t .l) (bO cR P a b (n-1) (w++[wi body (Es xs (ps++rest)) (d+1) false]) W::τ):=by
 rw[show Es xs (ps++rest)=.n (xs.map λx=>(.inr x:Key)) (ps.map wt++rest.map wt) by unfold Es;rw[nU],nQ,show wt (.mk m ps)=.tup [.tup [.str m,.tup (ps.map Th.t)],.int (Th.mk m ps).sz,.int (Th.mk m ps).dp] by simp[wt,Th.t,Th.AR]];apply ZG;trivial;refine Bl Vl ?_;trivial
 .exact hP _
 trivial
 .apply Dw
  .trivial
  .intro h mh;obtain⟨_,e⟩:=K1 h (hz h mh);trivial
  .lia
 trivial
 .exact hx
 .simpa using iL
 trivial
end
section
variable{cP cR:Addr}{P:T}{a b:Addr}{n:Int}{w W:List T}{x1 x2 y3 y4 y5 y6:Option Sl}
theorem Mo{d:Int}(f3:Fre y3)(f4:Fre y4)(f5:Fre y5)(f6:Fre y6)(hl:W.length<100000)(hx:By (xs.map λx=>(.inr x:Key)) (hs.map wt) (.inr x:Key)=some (wt h)):Sat (Tn cR P a b x1 x2 n w (W++[wt h])) (wB cP cR (fr cR P a b x1 x2 n (w++[wi (Ex.nm x).t (Es xs hs) d r]) W y3 y4 y5 y6)):=by trivial
theorem Mn{aS m:Str}{d:Int}(f3:Fre y3)(f4:Fre y4)(f5:Fre y5)(f6:Fre y6)(h:aS≠"name")(hl:w.length+as.length<=80000):Sat (Tn cR P a b x1 x2 n (w++[wi (.tup [.str aS,.str m,.tup as]) ρ d true]++as.reverse.map λt=>wi t ρ d false) W) (wB cP cR (fr cR P a b x1 x2 n (w++[wi (.tup [.str aS,.str m,.tup as]) ρ d false]) W y3 y4 y5 y6)):=by obtain⟨_,e⟩:=E5 (ρ:=ρ) hl;trivial
section
variable{f m:Str}{as:List T}{hs ps rest:List Th}{ρ:T}{d:Int}(f3:Fre y3)(f4:Fre y4)(f5:Fre y5)(f6:Fre y6)
include f3 f4 f5 f6
theorem Mq(hl:hs.length<=900)(hW:W.length<100000)(ha:as.length=hs.length)(hf:fits (.mk m hs)=true):Sat (Tn cR P a b x1 x2 n w (W++[wt (.mk m hs)])) (wB cP cR (fr cR P a b x1 x2 n (w++[wi (.tup [.str "make",.str m,.tup as]) ρ d true]) (W++hs.map wt) y3 y4 y5 y6)):=by obtain⟨_,e1⟩:=K6 (hs.map wt) (by simpa) (by lia);have e2:=Jau m hs (by lia);rw[if_pos hf]at e2;obtain⟨_,e2⟩:=e2;trivial
theorem Mp(hl:hs.length<=900)(ha:as.length=hs.length)(hf:¬fits (.mk m hs)=true):Sat (λy=>∃τ,y=.exc "TooLong" τ) (wB cP cR (fr cR P a b x1 x2 n (w++[wi (.tup [.str "make",.str m,.tup as]) ρ d true]) (W++hs.map wt) y3 y4 y5 y6)):=by obtain⟨_,e1⟩:=K6 (hs.map wt) (by simpa) (by lia);have e2:=Jau m hs (by lia);rw[if_neg hf]at e2;obtain⟨_,e2⟩:=e2;have hX:=a_worX (rest:=[x1,x2,vl (.tup [.str "make",.str m,.tup as]),vl ρ,iv d,vl (.v true)]) (Uy (JM (fa:=Ac (Ag Ap (Aa 3) (gc (.int 1))) (Ac (tkF cR) Af)) (rs:=[.t (.str m),.t (.lst (hs.map wt))]) (by trivial) rfl rfl e2));trivial
theorem Mt(h:n<=0\/20<d)(hl:hs.length<=900)(ha:as.length=hs.length):Sat (λy=>∃τ,y=.exc "TooLong" τ) (wB cP cR (fr cR P a b x1 x2 n (w++[wi (.tup [.str "call",.str f,.tup as]) ρ d true]) (W++hs.map wt) y3 y4 y5 y6)):=by obtain⟨_,e1⟩:=K6 (hs.map wt) (by simpa) (by lia);obtain⟨_,e2⟩:=X3 h;have hX:=Jy (m_abX (rest:=[x1,x2,vl (.tup [.str "call",.str f,.tup as]),vl ρ,iv d,vl (.v true)]) (fa:=Ac (Ag Ap (Aa 3) (gc (.int 1))) (Ac (tkF cR) (Ac (fz (Aa 5)) Af))) (x:=.str f) (y:=.lst (hs.map wt)) (z:=.int d) (by trivial) e2);trivial
theorem Ms(ha:as.length=(Th.mk m ps::rest).length)(hn:0<n)(hd:d<=20)(hP:∀fs,DR cP "row" fs (.t P)=true)(bw:A5 cP [vl P,vl (.str f),vl (.str m)]=.ok (.t (.tup [.tup (xs.map T.str),body])) [vl P,vl (.str f),vl (.str m)])
  (hx:xs.Nodup) (iL:xs.length=ps.length+rest.length) (hz:∀h∈ps,h.sz<=900) (hl:ps.length+rest.length<=100) (hw:w.length<=80000):Sat (Tn cR P a b x1 x2 (n-1) (w++[wi body (Es xs (ps++rest)) (d+1) false]) W) (wB cP cR (fr cR P a b x1 x2 n (w++[wi (.tup [.str "call",.str f,.tup as]) ρ d true]) (W++(Th.mk m ps::rest).map wt) y3 y4 y5 y6)):=by
 obtain⟨_,e1⟩:=K6 ((Th.mk m ps::rest).map wt) (by simpa using ha) (by simp at ha;lia);obtain⟨_,e2⟩:=KY hn hd hP bw hx iL hz hl hw;trivial
end
end
structure RC where
 cP:Addr
 cR:Addr
 P:T
 a:Addr
 b:Addr
 x1:Option Sl
 x2:Option Sl
abbrev RC.f(c:RC)(n:Int)(w W:List T)(y3 y4 y5 y6:Option Sl):FS:=fr c.cR c.P c.a c.b c.x1 c.x2 n w W y3 y4 y5 y6
abbrev RC.lp(c:RC):Nat->FS->SO:=BN (wC c.cR) (wB c.cP c.cR)
def Go(c:RC)(k:Nat)(n:Int)(w W:List T)(n':Int)(w' W':List T):Prop:=∀y3 y4 y5 y6,Fre y3->Fre y4->Fre y5->Fre y6->∀j,∃z3 z4 z5 z6,Fre z3/\Fre z4/\Fre z5/\Fre z6/\c.lp (j+k) (c.f n w W y3 y4 y5 y6)=c.lp j (c.f n' w' W' z3 z4 z5 z6)
def No(c:RC)(k:Nat)(n:Int)(w W:List T):Prop:=∀y3 y4 y5 y6,Fre y3->Fre y4->Fre y5->Fre y6->∀j,∃τ,c.lp (j+k) (c.f n w W y3 y4 y5 y6)=.exc "TooLong" τ
section
variable{c:RC}{k k1 k2:Nat}{n n1 n2:Int}{w W:List T}
theorem Go.refl:Go c 0 n w W n w W:=λy3 y4 y5 y6 f3 f4 f5 f6 j=>⟨y3,y4,y5,y6,f3,f4,f5,f6,rfl⟩
theorem Go.then(h:Go c k1 n w W n1 w1 W1)(h2:Go c k2 n1 w1 W1 n2 w2 W2):Go c (k2+k1) n w W n2 w2 W2:=λy3 y4 y5 y6 f3 f4 f5 f6 j=>by obtain⟨z3,z4,z5,z6,g3,g4,g5,g6,e⟩:=h y3 y4 y5 y6 f3 f4 f5 f6 (j+k2);obtain⟨u3,u4,u5,u6,q3,q4,q5,q6,e2⟩:=h2 z3 z4 z5 z6 g3 g4 g5 g6 j;exact⟨u3,u4,u5,u6,q3,q4,q5,q6,by rw[<- Nat.add_assoc,e,e2]⟩
theorem Go.no(h:Go c k1 n w W n1 w1 W1)(h2:No c k2 n1 w1 W1):No c (k2+k1) n w W:=λy3 y4 y5 y6 f3 f4 f5 f6 j=>by obtain⟨z3,z4,z5,z6,g3,g4,g5,g6,e⟩:=h y3 y4 y5 y6 f3 f4 f5 f6 (j+k2);obtain⟨τ,e2⟩:=h2 z3 z4 z5 z6 g3 g4 g5 g6 j;exact⟨τ,by rw[<- Nat.add_assoc,e,e2]⟩
theorem YR:wC c.cR (c.f n (w++[i]) W y3 y4 y5 y6)=.ok true (c.f n (w++[i]) W y3 y4 y5 y6):=by have:=TJ (i:=0) (fs:=c.f n (w++[i]) W y3 y4 y5 y6) rfl FC;exact this.trans (by simp)
theorem go1(h:∀y3 y4 y5 y6,Fre y3->Fre y4->Fre y5->Fre y6->Sat (Tn c.cR c.P c.a c.b c.x1 c.x2 n1 w1 W1) (wB c.cP c.cR (c.f n (w++[i]) W y3 y4 y5 y6))):Go c 1 n (w++[i]) W n1 w1 W1:=λy3 y4 y5 y6 f3 f4 f5 f6 j=>by obtain⟨z3,z4,z5,z6,e⟩:=tn_o (h y3 y4 y5 y6 f3 f4 f5 f6);exact⟨_,_,_,_,Ak,Ak,Ak,Ak,K0 YR e⟩
theorem no1(h:∀y3 y4 y5 y6,Fre y3->Fre y4->Fre y5->Fre y6->Sat (λy=>∃τ,y=.exc "TooLong" τ) (wB c.cP c.cR (c.f n (w++[i]) W y3 y4 y5 y6))):No c 1 n (w++[i]) W:=λy3 y4 y5 y6 f3 f4 f5 f6 j=>by obtain⟨τ,e⟩:=q_o (h y3 y4 y5 y6 f3 f4 f5 f6);refine⟨τ,?_⟩;show BN _ _ (j+1) _=_;rw[BN,YR];show(match wB c.cP c.cR _ with|.nx fs=>_|.cnt fs=>_|.brk fs=>_|o=>o)=_;rw[e]
end
section
variable(c:RC)(s:Nat)(xs:List Str)(hs:List Th)(d:Nat)(n:Int)
def Ev(e:Ex)(v:Th)(n':Int)(k:Nat):Prop:=∀w W,w.length+W.length<=200*d+s->Go c k n (w++[wi e.t (Es xs hs) d false]) W n' w (W++[wt v])
def EvN(e:Ex)(k:Nat):Prop:=∀w W,w.length+W.length<=200*d+s->No c k n (w++[wi e.t (Es xs hs) d false]) W
def EvL(es:List Ex)(vs:List Th)(n':Int)(k:Nat):Prop:=∀w W,w.length+W.length+es.length<=200*d+s->Go c k n (w++(es.map λe=>wi e.t (Es xs hs) d false).reverse) W n' w (W++vs.map wt)
def EvLN(es:List Ex)(k:Nat):Prop:=∀w W,w.length+W.length+es.length<=200*d+s->No c k n (w++(es.map λe=>wi e.t (Es xs hs) d false).reverse) W
end
section
variable{c:RC}{s:Nat}{xs ys:List Str}{hs ps rest:List Th}{d:Nat}{n n1 n2:Int}{v:Th}{body:Ex}{es:List Ex}{k k1 k2:Nat}{f m:Str}
theorem ev_nm(hx:By (xs.map λx=>(.inr x:Key)) (hs.map wt) (.inr x:Key)=some (wt v))(hd:d<=30)(bK:s<=1000):Ev c s xs hs d n (.nm x) v n 1:=λw W hl=>go1 λy3 y4 y5 y6 f3 f4 f5 f6=>Mo f3 f4 f5 f6 (by lia) hx
theorem XB:EvL c s xs hs d n [] [] n 0:=λw W _=>by simpa using Go.refl
theorem Sz(h1:Ev c s xs hs d n e v n1 k1)(h2:EvL c s xs hs d n1 es vs n2 k2):EvL c s xs hs d n (e::es) (v::vs) n2 (k2+k1):=λw W hl=>by
 rw[n8]at hl;have:=(h1 (w++(es.map λe=>wi e.t (Es xs hs) d false).reverse) W (by simp;lia)).then (h2 w (W++[wt v]) (by simp;lia))
 simpa using this
theorem XA(h1:EvN c s xs hs d n e k1):EvLN c s xs hs d n (e::es) k1:=λw W hl=>by rw[n8]at hl;simpa using (h1 (w++(es.map λe=>wi e.t (Es xs hs) d false).reverse) W (by simp;lia))
theorem Xz(h1:Ev c s xs hs d n e v n1 k1)(h2:EvLN c s xs hs d n1 es k2):EvLN c s xs hs d n (e::es) (k2+k1):=λw W hl=>by rw[n8]at hl;have:=(h1 (w++(es.map λe=>wi e.t (Es xs hs) d false).reverse) W (by simp;lia)).no (h2 w (W++[wt v]) (by simp;lia));simpa using this
theorem EB{aS h:Str}(hf:aS≠"name")(hl:w.length+es.length<=80000):Go c 1 n (w++[wi (.tup [.str aS,.str h,.tup (Ex.ts es)]) (Es xs hs) d false]) W n (w++[wi (.tup [.str aS,.str h,.tup (Ex.ts es)]) (Es xs hs) d true]++(es.map λe=>wi e.t (Es xs hs) d false).reverse) W :=
 go1 λy3 y4 y5 y6 f3 f4 f5 f6=>by have:=Mn (cP:=c.cP) (cR:=c.cR) (P:=c.P) (a:=c.a) (b:=c.b) (n:=n) (w:=w) (W:=W) (x1:=c.x1) (x2:=c.x2) (m:=h) (as:=Ex.ts es) (ρ:=Es xs hs) (d:=d) f3 f4 f5 f6 hf (by rwa[Ex.AR,nX]);simp only[Ex.AR,<- List.map_reverse,om]at this ⊢;exact this
theorem ev_mk(h:EvL c (s+1+es.length) xs hs d n es vs n1 k)(hv:vs.length=es.length)(hf:fits (.mk m vs)=true)(hd:d<=30)(bK:s+es.length<=500):Ev c s xs hs d n (.mk m es) (.mk m vs) n1 (1+(k+1)):=λw W hl=>by
 have et:(Ex.mk m es).t=.tup [.str "make",.str m,.tup (Ex.ts es)]:=by simp[Ex.t]
 refine((EB Ic.2.1 (by lia)).then (h _ W (by simp;lia))).then (go1 λy3 y4 y5 y6 f3 f4 f5 f6=>Mq f3 f4 f5 f6 (by lia) (by lia) (by rw[Ex.AR,nX];lia) hf)
theorem JbY(h:EvLN c (s+1+es.length) xs hs d n es k)(bK:s+es.length<=500)(hd:d<=30):EvN c s xs hs d n (.mk m es) (k+1):=λw W hl=>by
 have et:(Ex.mk m es).t=.tup [.str "make",.str m,.tup (Ex.ts es)]:=by simp[Ex.t]
 exact(EB Ic.2.1 (by lia)).no (h _ W (by simp;lia))
theorem JbZ(h:EvL c (s+1+es.length) xs hs d n es vs n1 k)(hv:vs.length=es.length)(hf:fits (.mk m vs)=false)(hd:d<=30)(bK:s+es.length<=500):EvN c s xs hs d n (.mk m es) (1+(k+1)):=λw W hl=>by
 have et:(Ex.mk m es).t=.tup [.str "make",.str m,.tup (Ex.ts es)]:=by simp[Ex.t]
 refine((EB Ic.2.1 (by lia)).then (h _ W (by simp;lia))).no (no1 λy3 y4 y5 y6 f3 f4 f5 f6=>Mp f3 f4 f5 f6 (by lia) (by rw[Ex.AR,nX];lia) (by rw[hf];simp))
structure Row(c:RC)(f m:Str)(ys:List Str)(body:Ex):Prop where
 ins:∀fs,DR c.cP "row" fs (.t c.P)=true
 row:A5 c.cP [vl c.P,vl (.str f),vl (.str m)]=.ok (.t (.tup [.tup (ys.map T.str),body.t])) [vl c.P,vl (.str f),vl (.str m)]
 nd:ys.Nodup
theorem O3(R:Row c f m ys body)(h:EvL c (s+1+es.length) xs hs d n es (.mk m ps::rest) n1 k)(hv:(Th.mk m ps::rest).length=es.length)(hn:0<n1)(hd:d<=20)(gi:ys.length=ps.length+rest.length)(hz:∀h∈ps,h.sz<=900)(bu:ps.length+rest.length<=100)(bK:s+es.length<=200){w W:List T}(hl:w.length+W.length<=200*d+s):
  Go c (1+(k+1)) n (w++[wi (Ex.cl f es).t (Es xs hs) d false]) W (n1-1) (w++[wi body.t (Es ys (ps++rest)) ((d+1:Nat):Int) false]) W:=by
 have et:(Ex.cl f es).t=.tup [.str "call",.str f,.tup (Ex.ts es)]:=by simp[Ex.t]
 refine((EB Ic.2.2.1 (by lia)).then (h _ W (by simp at hv ⊢;lia))).then (go1 λy3 y4 y5 y6 f3 f4 f5 f6=>Ms (d:=(d:Int)) f3 f4 f5 f6 (by rw[Ex.AR,nX];lia) hn (by lia) R.ins R.row R.nd gi hz bu (by lia))
theorem ev_cl(R:Row c f m ys body)(h:EvL c (s+1+es.length) xs hs d n es (.mk m ps::rest) n1 k)(hv:(Th.mk m ps::rest).length=es.length)(hn:0<n1)(hd:d<=20)(gi:ys.length=ps.length+rest.length)(hz:∀h∈ps,h.sz<=900)(bu:ps.length+rest.length<=100)(bK:s+es.length<=200)
  (hb:Ev c 0 ys (ps++rest) (d+1) (n1-1) body v n2 k2):Ev c s xs hs d n (.cl f es) v n2 (k2+(1+(k+1))):=λw W hl=>(O3 R h hv hn hd gi hz bu bK hl).then (hb w W (by lia))
theorem Jb0(R:Row c f m ys body)(h:EvL c (s+1+es.length) xs hs d n es (.mk m ps::rest) n1 k)(hv:(Th.mk m ps::rest).length=es.length)(hn:0<n1)(hd:d<=20)(gi:ys.length=ps.length+rest.length)(hz:∀h∈ps,h.sz<=900)(bu:ps.length+rest.length<=100)(bK:s+es.length<=200)
  (hb:EvN c 0 ys (ps++rest) (d+1) (n1-1) body k2):EvN c s xs hs d n (.cl f es) (k2+(1+(k+1))):=λw W hl=>(O3 R h hv hn hd gi hz bu bK hl).no (hb w W (by lia))
theorem UI(h:EvL c (s+1+es.length) xs hs d n es vs n1 k)(hv:vs.length=es.length)(hx:n1<=0\/20<d)(hd:d<=30)(bK:s+es.length<=200):EvN c s xs hs d n (.cl f es) (1+(k+1)):=λw W hl=>by
 have et:(Ex.cl f es).t=.tup [.str "call",.str f,.tup (Ex.ts es)]:=by simp[Ex.t]
 refine((EB Ic.2.2.1 (by lia)).then (h _ W (by simp;lia))).no (no1 λy3 y4 y5 y6 f3 f4 f5 f6=>Mt f3 f4 f5 f6 (by lia) (by lia) (by rw[Ex.AR,nX];lia))
end
mutual
def Ex.sz:Ex->Nat
 |.nm _=>1
 |.mk _ es=>2+Ex.szs es
 |.cl _ es=>2+Ex.szs es
def Ex.szs:List Ex->Nat
 | []=>0
 |e::es=>e.sz+Ex.szs es
end
mutual
def Ex.dp:Ex->Nat
 |.nm _=>1
 |.mk _ es=>1+Ex.dps es
 |.cl _ es=>1+Ex.dps es
def Ex.dps:List Ex->Nat
 | []=>0
 |e::es=>max e.dp (Ex.dps es)
end
def lkp{α:Type}:List Str->List α->Str->Option α
 |x::xs,a::as,y=>if x=y then some a else lkp xs as y
 |_,_,_=>none
theorem Ht{α:Type}{f:α->T}:∀(xs:List Str)(as:List α),By (xs.map λx=>(.inr x:Key)) (as.map f) (.inr y:Key)=(lkp xs as y).map f
 | [],_=>by simp[By,lkp]
 |x::xs,[]=>by simp[By,lkp]
 |x::xs,a::as=>by
  have:=Ht (f:=f) (y:=y) xs as;by_cases h:x=y
  .simp[By,lkp,h]
  .simp[By,lkp,h,this]
section
variable(K:Kd)
mutual
def Tk:Th->Str->Prop
 |.mk m ps,k=>∃kd∈K,kd.1=k/\∃qs,(m,qs)∈kd.2/\Tks ps qs
def Tks:List Th->List Str->Prop
 | [],[]=>True
 |p::ps,q::qs=>Tk p q/\Tks ps qs
 |_,_=>False
end
variable(hd:Str->Option (List Str×Str))(xs ks:List Str)
mutual
def Xk:Ex->Str->Prop
 |.nm x,k=>lkp xs ks x=some k
 |.mk m es,k=>∃kd∈K,kd.1=k/\∃qs,(m,qs)∈kd.2/\Xks es qs
 |.cl f es,k=>∃qs,hd f=some (qs,k)/\Xks es qs
def Xks:List Ex->List Str->Prop
 | [],[]=>True
 |e::es,q::qs=>Xk e q/\Xks es qs
 |_,_=>False
end
end
theorem Tks.app:∀{a b:List Th}{x y:List Str},Tks K a x->Tks K b y->Tks K (a++b) (x++y)
 | [],_,[],_,_,h=>h
 |_::_,_,_::_,_,h,k=>⟨h.1,Tks.app h.2 k⟩
 | [],_,_::_,_,h,_=>h.elim
 |_::_,_,[],_,h,_=>h.elim
theorem Tks.len:∀{a:List Th}{x:List Str},Tks K a x->a.length=x.length
 | [],[],_=>rfl
 |_::_,_::_,h=>congrArg (·+1) (Tks.len h.2)
 | [],_::_,h=>h.elim
 |_::_,[],h=>h.elim
theorem Tks.at:∀{xs:List Str}{hs:List Th}{ks:List Str},Tks K hs ks->lkp xs ks x=some k->∃h,lkp xs hs x=some h/\Tk K h k/\h∈hs
 | [],_,_,_,e=>by simp[lkp]at e
 |_::_,[],[],_,e=>by simp[lkp]at e
 |y::ys,h::hs,q::qs,t,e=>by
  unfold lkp at e ⊢;by_cases c:y=x
  .rw[if_pos c]at e ⊢;cases e;exact⟨h,rfl,t.1,by simp⟩
  .rw[if_neg c]at e ⊢;obtain⟨g,e1,e2,e3⟩:=Tks.at t.2 e;exact⟨g,e1,e2,by simp[e3]⟩
 |_,[],_::_,h,_=>h.elim
 |_,_::_,[],h,_=>h.elim
section
variable(rw:Str->Str->Option (List Str×Ex))
mutual
noncomputable def wE(B:List Str->List Th->Ex->Nat->Option (Th×Nat))(ok:Bool)(xs:List Str)(hs:List Th):Ex->Nat->Option (Th×Nat)
 |.nm x,n=>(lkp xs hs x).map (·,n)
 |.mk m es,n=>match wL B ok xs hs es n with|some (vs,n')=>if fits (.mk m vs)=true then some (.mk m vs,n')else none|none=>none
 |.cl f es,n=>match wL B ok xs hs es n with
  |some (.mk m ps::r,n'+1)=>if ok=true then match rw f m with
   |some (ys,b)=>B ys (ps++r) b n'
   |none=>none
   else none
  |_=>none
noncomputable def wL(B:List Str->List Th->Ex->Nat->Option (Th×Nat))(ok:Bool)(xs:List Str)(hs:List Th):List Ex->Nat->Option (List Th×Nat)
 | [],n=>some ([],n)
 |e::es,n=>match wE B ok xs hs e n with
  |some (v,n1)=>match wL B ok xs hs es n1 with|some (vs,n2)=>some (v::vs,n2)|none=>none
  |none=>none
end
def wW:Nat->List Str->List Th->Ex->Nat->Option (Th×Nat)
 |0=>wE rw (λ_ _ _ _=>none) false
 |l+1=>wE rw (wW l) true
end
structure Te(K:Kd)(hd:Str->Option (List Str×Str))(rw:Str->Str->Option (List Str×Ex))(S:Nat):Prop where
 two:∀kd∈K,∀r∈kd.2,r.2.length<=2
 arg:∀f qs k,hd f=some (qs,k)->qs≠[]/\qs.length<=3
 row:∀f q qs k kd m ps,hd f=some (q::qs,k)->kd∈K->kd.1=q->(m,ps)∈kd.2->∃ys b,rw f m=some (ys,b)/\ys.Nodup/\ys.length=(ps++qs).length/\Xk K hd ys (ps++qs) b k/\b.sz<=S/\b.dp<=7
theorem Th.szm:∀{hs:List Th},h∈hs->h.sz<=Th.szs hs
 |g::gs,m=>by
  rw[Th.szs];rcases oh.mp m with rfl|m
  .lia
  .have:=Th.szm m;lia
theorem Th.dpm:∀{hs:List Th},h∈hs->h.dp<=Th.dps hs
 |g::gs,m=>by
  rw[Th.dps];rcases oh.mp m with rfl|m
  .lia
  .have:=Th.dpm m;lia
abbrev Ft(h:Th):Prop:=h.sz<=300/\h.dp<=40
section
variable(K:Kd)(c:RC)(S s:Nat)(xs:List Str)(hs:List Th)(d n:Nat)
def ME(e:Ex)(k:Str):Option (Th×Nat)->Prop
 |some (v,n')=>Tk K v k/\Ft v/\n'<=n/\∃j,Ev c s xs hs d n e v n' j/\j+S*n'<=e.sz+S*n
 |none=>∃j,EvN c s xs hs d n e j/\j<=e.sz+S*n
def ML(es:List Ex)(ks:List Str):Option (List Th×Nat)->Prop
 |some (vs,n')=>Tks K vs ks/\(∀v∈vs,Ft v)/\vs.length=es.length/\n'<=n/\∃j,EvL c s xs hs d n es vs n' j/\j+S*n'<=Ex.szs es+S*n
 |none=>∃j,EvLN c s xs hs d n es j/\j<=Ex.szs es+S*n
end
section
variable{S:Nat}{d:Nat}{B:List Str->List Th->Ex->Nat->Option (Th×Nat)}
theorem Xks.len:∀{es:List Ex}{qs:List Str},Xks K hd xs ks es qs->es.length=qs.length
 | [],[],_=>rfl
 |_::_,_::_,h=>congrArg (·+1) (Xks.len h.2)
 | [],_::_,h=>h.elim
 |_::_,[],h=>h.elim
mutual
theorem mE(P:Te K hd rw S)(R:∀f m ys b,rw f m=some (ys,b)->Row c f m ys b)(hT:Tks K hs ks)(hz:∀h∈hs,Ft h)(d1:d<=21)(ho:ok=true↔d<=20)
  (IH:ok=true->∀ys gs qs b n k,Tks K gs qs->(∀h∈gs,Ft h)->Xk K hd ys qs b k->b.sz<=S->b.dp<=7->ME K c S 0 ys gs (d+1) n b k (B ys gs b n)) :
  ∀(e:Ex)(k:Str)(n s:Nat),Xk K hd xs ks e k->s+4*e.dp<=100->ME K c S s xs hs d n e k (wE rw B ok xs hs e n)
 |.nm x,k,n,s,h,l=>by obtain⟨v,e,t,m⟩:=hT.at h;simp only[wE,e,pA];refine⟨t,hz v m,n9 _,1,ev_nm ?_ (by lia) (by lia),by rw[Ex.sz];lia⟩;rw[Ht,e];rfl
 |.mk m es,k,n,s,h,l=>by
  obtain⟨kd,hk,rfl,qs,hm,hX⟩:=h;rw[Ex.dp]at l;have h2:=P.two kd hk _ hm;have hl:=hX.len;have q:=mL P R hT hz d1 ho IH es qs n (s+1+es.length) hX (by simp at h2;lia);simp only[wE];cases e:wL rw B ok xs hs es n with
  |none =>rw[e]at q;obtain⟨j,q,b⟩:=q;exact⟨_,JbY q (by simp at h2;lia) (by lia),by rw[Ex.sz];lia⟩
  |some p =>
   obtain⟨vs,n'⟩:=p;rw[e]at q;obtain⟨t,z,vl,nn,j,q,b⟩:=q;by_cases f:fits (.mk m vs)=true
   .simp only[f,if_true];exact⟨⟨kd,hk,rfl,qs,hm,t⟩,oj f,nn,_,ev_mk q vl f (by lia) (by simp at h2;lia),by rw[Ex.sz];lia⟩
   .simp only[f];exact⟨_,JbZ q vl (by simpa using f) (by lia) (by simp at h2;lia),by rw[Ex.sz];have:=pf (S*n');lia⟩
 |.cl f es,k,n,s,h,l=>by
  obtain⟨qs,hh,hX⟩:=h;rw[Ex.dp]at l;obtain⟨ne,h3⟩:=P.arg f qs k hh;have hl:=hX.len;have q:=mL P R hT hz d1 ho IH es qs n (s+1+es.length) hX (by lia);simp only[wE];cases e:wL rw B ok xs hs es n with
  |none =>
   rw[e]at q;obtain⟨j,q,b⟩:=q;refine⟨j+1,λw W hl=>?_,by rw[Ex.sz];lia⟩;have et:(Ex.cl f es).t=.tup [.str "call",.str f,.tup (Ex.ts es)]:=by simp[Ex.t]
   rw[et];exact(EB Hj.2.1 (by lia)).no (q _ W (by simp;lia))
  |some p =>
   obtain⟨vs,n'⟩:=p;rw[e]at q;obtain⟨t,z,vl,nn,j,q,b⟩:=q;cases vs with
   |nil=>exact absurd (t.len.symm) (by cases qs with|nil=>exact absurd rfl ne|cons _ _=>simp)
   |cons v r =>
    cases qs with
    |nil=>exact absurd rfl ne
    |cons q0 qs =>
    obtain⟨m,ps⟩:=v;obtain⟨⟨kd,hk,hq,pk,hm,tp⟩,tr⟩:=t;cases n' with
    |zero =>simp only;exact⟨_,UI q vl (.inl (by simp)) (by lia) (by lia),by rw[Ex.sz];lia⟩
    |succ n' =>
     simp only;by_cases o:ok=true
     .have yF:=ho.mp o;obtain⟨ys,bd,er,nd,yl,bX,bS,bD⟩:=P.row f q0 qs k kd m pk hh hk hq hm;have mz:=z (.mk m ps) (by simp);unfold Ft at mz;rw[Th.sz,Th.dp]at mz;have pz:∀h∈ps++r,Ft h:=λh m=>by
       rcases oM.mp m with m|m
       .have:=Th.szm m;have:=Th.dpm m;unfold Ft
        lia
       .exact z h (by simp[m])
      have tt:=tp.app tr;have I:=IH o ys (ps++r) (pk++qs) bd n' k tt pz bX bS bD;have el:ys.length=ps.length+r.length:=by rw[yl,<- tt.len,oi]
      have h2:=P.two kd hk _ hm;have pl:=tp.len;have rl:=tr.len;have e1:((n'+1:Nat):Int)-1=(n':Int):=by lia
      simp only[n8]at vl h3 hl;simp only[o,if_true,er];cases eb:B ys (ps++r) bd n' with
      |none =>
       rw[eb]at I;obtain⟨j2,I,b2⟩:=I;refine⟨_,Jb0 (R f m ys bd er) q (by simpa using vl) (by lia) yF el (λh m=>oB (pz h (by simp[m])).1 (by lia)) (by simp at h2;lia) (by lia) (e1.symm▸I),?_⟩;rw[Ex.sz];have:S*(n'+1)=S*n'+S:=Nat.mul_succ ..
       lia
      |some p =>
       obtain⟨w,n2⟩:=p;rw[eb]at I;obtain⟨t1,t2,t3,j2,I,b2⟩:=I;refine⟨t1,t2,by lia,_,ev_cl (R f m ys bd er) q (by simpa using vl) (by lia) yF el (λh m=>oB (pz h (by simp[m])).1 (by lia)) (by simp at h2;lia) (by lia) (e1.symm▸I),?_⟩;rw[Ex.sz];have:S*(n'+1)=S*n'+S:=Nat.mul_succ ..
       lia
     .simp only[o];exact⟨_,UI q vl (.inr (by have:=mt ho.mpr o;lia)) (by lia) (by lia),by rw[Ex.sz];have:=pf (S*(n'+1));lia⟩
theorem mL(P:Te K hd rw S)(R:∀f m ys b,rw f m=some (ys,b)->Row c f m ys b)(hT:Tks K hs ks)(hz:∀h∈hs,Ft h)(d1:d<=21)(ho:ok=true↔d<=20)
  (IH:ok=true->∀ys gs qs b n k,Tks K gs qs->(∀h∈gs,Ft h)->Xk K hd ys qs b k->b.sz<=S->b.dp<=7->ME K c S 0 ys gs (d+1) n b k (B ys gs b n)) :
  ∀(es:List Ex)(qs:List Str)(n s:Nat),Xks K hd xs ks es qs->s+4*Ex.dps es<=100->ML K c S s xs hs d n es qs (wL rw B ok xs hs es n)
 | [],[],n,s,_,_=>by simp only[wL];exact⟨True.intro,(λ_ m=>nomatch m),rfl,n9 _,0,XB,by rw[Ex.szs];lia⟩
 |e::es,q::qs,n,s,h,l=>by
  rw[Ex.dps]at l;have h1:=mE P R hT hz d1 ho IH e q n s h.1 (by lia);simp only[wL];cases e1:wE rw B ok xs hs e n with
  |none =>rw[e1]at h1;obtain⟨j,a,b⟩:=h1;exact⟨_,XA a,by rw[Ex.szs];lia⟩
  |some p =>
   obtain⟨v,n1⟩:=p;rw[e1]at h1;obtain⟨t1,z1,l1,j1,a1,b1⟩:=h1;have h2:=mL P R hT hz d1 ho IH es qs n1 s h.2 (by lia);cases e2:wL rw B ok xs hs es n1 with
   |none =>rw[e2]at h2;obtain⟨j,a,b⟩:=h2;simp only[e2];exact⟨_,Xz a1 a,by rw[Ex.szs];lia⟩
   |some p =>
    rw[e2]at h2;obtain⟨t2,z2,vl,l2,j2,a2,b2⟩:=h2;simp only[e2];refine⟨⟨t1,t2⟩,λv m=>?_,by simp[vl],by lia,_,Sz a1 a2,by rw[Ex.szs];lia⟩;rcases oh.mp m with rfl|m
    .exact z1
    .exact z2 v m
end
theorem mW(P:Te K hd rw S)(R:∀f m ys b,rw f m=some (ys,b)->Row c f m ys b):∀(l:Nat)(d:Nat),d+l=21->∀(xs:List Str)(hs:List Th)(ks:List Str)(e:Ex)(n:Nat)(k:Str),Tks K hs ks->(∀h∈hs,Ft h)->Xk K hd xs ks e k->e.dp<=20->ME K c S 0 xs hs d n e k (wW rw l xs hs e n)
 |0,d,dl,xs,hs,ks,e,n,k,t,z,x,q=>mE P R t z (by lia) (by simp;lia) (λh=>by cases h) e k n 0 x (by lia)
 |l+1,d,dl,xs,hs,ks,e,n,k,t,z,x,q=>mE P R t z (by lia) (by simp;lia) (λ_ ys gs qs b n k t z x _ hb=>mW P R l (d+1) (by lia) ys gs qs b n k t z x (by lia)) e k n 0 x (by lia)
end
section
unseal Sat B4 Rr Src Aj Av ifS retS Au BB Et Ag Aa gc fz Ac Ab Af Ad Ae Ao Aw Bd Eg AL asB CJ DL GF orT tgN AD Ai AB itU itZ itD ES Cg slF chain Dl gEq Ap CK Cu GJ BX Az BQ fzR GH D6 BW DS A1 BF D5 dput2 DY fzD GI AW Be Bm IF DN
section
variable{cP cR:Addr}{P:T}{a b:Addr}{n n1:Int}{xs:List Str}{hs:List Th}{e:Ex}{v:Th}{k:Nat}
abbrev rc(cP cR:Addr)(P:T)(xs:List Str)(hs:List Th)(e:Ex)(a b:Addr):RC:=⟨cP,cR,P,a,b,vl (Es xs hs),vl e.t⟩
theorem Ju:Au (C1 cR "waiting" 0 (Ao AW (Ab (fz (Aa 2)) (Ab (fz (Aa 1)) (Ab (gc (.int 1)) (Ab (gc (.v false)) Af)))))) (fr cR P a b (vl (Es xs hs)) (vl e.t) n [] [] none none none none)=.nx (fr cR P a b (vl (Es xs hs)) (vl e.t) n ([]++[wi e.t (Es xs hs) ((1:Nat):Int) false]) [] none none none none) :=
 app_w (disp4 (Bh (Am rfl)) (Bh (Am rfl)) Ei) (by simp)
theorem Qw(h:Ev (rc cP cR P xs hs e a b) 0 xs hs 1 n e v n1 k)(hk:k<110000):∃τ,Bt cP cR [bO cR P a b n [] [],vl (Es xs hs),vl e.t]=.ok (.t v.t) τ:=by
 obtain⟨z3,z4,z5,z6,_,_,_,_,lp⟩:=h [] [] (by simp) none none none none Bi Bi Bi Bi (110000-k);rw[Nat.sub_add_cancel (by lia)]at lp;obtain⟨j,hj⟩:∃j,110000-k=j+1:=⟨110000-k-1,by lia⟩
 rw[hj]at lp;have we:(rc cP cR P xs hs e a b).lp (j+1) ((rc cP cR P xs hs e a b).f n1 [] ([]++[wt v]) z3 z4 z5 z6)=.nx ((rc cP cR P xs hs e a b).f n1 [] ([]++[wt v]) z3 z4 z5 z6) :=
  IJ (TJ (ts:=[]) rfl FC)
 rw[we]at lp;have rt:retS (Ag Ap (OP cR "worths" 0) (gc (.int 0))) ((rc cP cR P xs hs e a b).f n1 [] ([]++[wt v]) z3 z4 z5 z6)=.ret (.t v.t) ((rc cP cR P xs hs e a b).f n1 [] ([]++[wt v]) z3 z4 z5 z6):=by refine Bz (ix (ts:=[v.t,.int (v.sz:Int),.int (v.dp:Int)]) ?_ rfl);unfold OP;rw[HI rfl];simp only[Yh,if_true];rfl
 exact⟨_,EL (sq Ju (sq lp rt))⟩
theorem Qx(h:EvN (rc cP cR P xs hs e a b) 0 xs hs 1 n e k)(hk:k<110000):∃τ,Bt cP cR [bO cR P a b n [] [],vl (Es xs hs),vl e.t]=.exc "TooLong" τ:=by obtain⟨τ,lp⟩:=h [] [] (by simp) none none none none Bi Bi Bi Bi (110000-k);rw[Nat.sub_add_cancel (by lia)]at lp;exact⟨_,Ff (sq Ju (Ld lp))⟩
theorem Sg{i:Nat}{os bo:List FO}(hv:fv fs=.ok (.t t) ae)(h0:ae[i]?=some (some (.bor (.ins C gs os))))(hl:gs.length<900)(hp:De gs os f (.val t)=some (cJ,bo))(e:ae.set i (some (.bor (.ins C cJ bo)))=ak):DS C f i fv fs=.nx ak:=by unfold DS;rw[hv];simp only[SO.of,Yt,HI h0];rw[if_pos ⟨trivial,hl⟩,hp];simp only;rw[show FL.putAt ae i (.ins C cJ bo)=ak by unfold FL.putAt;rw[h0];exact e]
theorem QM{m:Int}:CD cR [some (.bor (.ins cR [] [])),vl P,iv m]=.ok (.t .l) [some (.bor (.ins cR RF [.val P,.val (.int m),.lst [],.lst []])),vl P,iv m]:=by
 have h1:("program":Str)≠"calls_left"/\("program":Str)≠"waiting"/\("program":Str)≠"worths"/\("calls_left":Str)≠"waiting"/\("calls_left":Str)≠"worths"/\("waiting":Str)≠"worths":=by decide +kernel
 have nl:∀fs,Ao Bm Af fs=.ok (.nw (.lst [])) fs:=λ_=>rfl
 have all:EJ cR [some (.bor (.ins cR [] [])),vl P,iv m]=.nx [some (.bor (.ins cR RF [.val P,.val (.int m),.lst [],.lst []])),vl P,iv m]:=by refine sq (Sg (Bh (Am rfl)) rfl (by simp) rfl rfl) ?_;refine sq (Sg (cJ:=["program","calls_left"]) (bo:=[.val P,.val (.int m)]) (Bh (Am rfl)) rfl (by simp) (by simp[De,h1]) rfl) ?_;refine sq (UD (cJ:=["program","calls_left","waiting"]) (bo:=[.val P,.val (.int m),.lst []]) (nl _) rfl (by simp) (by simp[De,h1]) rfl) ?_;exact UD (nl _) rfl (by simp) (by simp[De,h1]) rfl
 show AX 0 (EJ cR) _=_;unfold AX;rw[show [some (Sl.bor (.ins cR [] [])),vl P,iv m]++List.replicate 0 none=[some (.bor (.ins cR [] [])),vl P,iv m]from rfl,all];rfl
end
section
variable{cP cR:Addr}{P:T}{n n1:Int}{sx sy:Str}{hx hy:Th}{e:Ex}{v:Th}{k:Nat}
abbrev DX(sx sy:Str)(hx hy:Th):T:=.dF [.inr sx,.inr sy] [hx.t,hy.t]
abbrev Yi(P:T)(sx sy:Str)(hx hy:Th)(e:Ex)(n:Int):FS:=[vl P,vl (DX sx sy hx hy),vl e.t,iv n]
theorem Lg(ne:sx≠sy)(zx:hx.sz<=900)(zy:hy.sz<=900):BB (itI (Aa 1)) (AD 2 (Ai (tgN 5) (Ai (tgN 6) AB))) (A1 (fz (Ad (Ae 1 CB) (Ac (fz (Aa 6)) Af))) (Aa 4) (fz (Aa 5))) [vl P,vl (DX sx sy hx hy),vl e.t,iv n,some (.own (.n [] [])),none,none]=.nx [vl P,vl (DX sx sy hx hy),vl e.t,iv n,some (.own (.n [.inr sx,.inr sy] [wt hx,wt hy])),vl (.str sy),vl hy.t]:=by
 have hi:itI (Aa 1) [vl P,vl (DX sx sy hx hy),vl e.t,iv n,some (.own (.n [] [])),none,none]=.ok [.tup [.str sx,hx.t],.tup [.str sy,hy.t]] [vl P,vl (DX sx sy hx hy),vl e.t,iv n,some (.own (.n [] [])),none,none]:=rfl;have cw:∀(h:Th)(x4 x5:Option Sl),h.sz<=900->fz (Ad (Ae 1 CB) (Ac (fz (Aa 6)) Af)) [vl P,vl (DX sx sy hx hy),vl e.t,iv n,x4,x5,vl h.t]=.ok (.t (wt h)) [vl P,vl (DX sx sy hx hy),vl e.t,iv n,x4,x5,vl h.t]:=λh x4 x5 hz=>Bh (S6 (AF (Bh (Am rfl)) A2) rfl rfl (K1 h hz).choose_spec)
 unfold BB;rw[hi];simp only[SO.of];rw[LQ (Nq (by exact tg rfl Bi) (by exact tg rfl Bi)) (NS rfl (cw hx _ _ zx) (Bh (Am rfl)) rfl (by decide) rfl)];rw[LQ (Nq (by exact tg rfl Ak) (by exact tg rfl Ak)) (NS (ks:=[.inr sx]) rfl (cw hy _ _ zy) (Bh (Am rfl)) (by simp[ne]) (show 1<1000000 by decide) rfl)];rfl
abbrev nmF(cP cR:Addr):sT:=newMeth cR "worth" 3 (Bt cP cR) (Ad (BW cR 3 (CD cR)) (Ac (fz (Aa 0)) (Ac (fz (Aa 3)) Af))) (Ac (fz (Aa 4)) (Ac (fz (Aa 2)) Af))
theorem Uh(h:∀A:Nat->Addr,Ae 3 (Bt cP cR) [.nw (Yh cR P (A 2) (A 3) n [] []),.t (Es [sx,sy] [hx,hy]),.t e.t] [vl P,vl (DX sx sy hx hy),vl e.t,iv n,vl (Es [sx,sy] [hx,hy]),x5,x6]=r):
  nmF cP cR [vl P,vl (DX sx sy hx hy),vl e.t,iv n,some (.own (.n [.inr sx,.inr sy] [wt hx,wt hy])),x5,x6]=r:=by
 have mk:Ad (BW cR 3 (CD cR)) (Ac (fz (Aa 0)) (Ac (fz (Aa 3)) Af)) [vl P,vl (DX sx sy hx hy),vl e.t,iv n,some (.own (.n [.inr sx,.inr sy] [wt hx,wt hy])),x5,x6]=.ok (.nw (.ins cR RF [.val P,.val (.int n),.lst [],.lst []])) [vl P,vl (DX sx sy hx hy),vl e.t,iv n,some (.own (.n [.inr sx,.inr sy] [wt hx,wt hy])),x5,x6] :=
  Ey (AF (Bh (Am rfl)) (AF (Bh (Am rfl)) A2)) rfl rfl QM
 have fa:Ac (fz (Aa 4)) (Ac (fz (Aa 2)) Af) [vl P,vl (DX sx sy hx hy),vl e.t,iv n,some (.own (.n [.inr sx,.inr sy] [wt hx,wt hy])),x5,x6]=.ok [.t (Es [sx,sy] [hx,hy]),.t e.t] [vl P,vl (DX sx sy hx hy),vl e.t,iv n,vl (Es [sx,sy] [hx,hy]),x5,x6] :=
  AF rfl (AF (Bh (Am rfl)) A2)
 show newMeth cR "worth" 3 (Bt cP cR) _ _ _=_;unfold newMeth;rw[mk];simp only[Out.bind];exact(if_pos (λA=>Eq.trans (h A) (h (λi=>i)).symm)).trans (h (λi=>i))
theorem Zl(ne:sx≠sy)(zx:hx.sz<=900)(zy:hy.sz<=900)(h:∀a b,∃k n1,k<110000/\Ev (rc cP cR P [sx,sy] [hx,hy] e a b) 0 [sx,sy] [hx,hy] 1 n e v n1 k):∃τ,f_run cP cR (Yi P sx sy hx hy e n)=.ok (.t v.t) τ:=by exact⟨_,EL (sq (show Av 4 D3 _=.nx [vl P,vl (DX sx sy hx hy),vl e.t,iv n,some (.own (.n [] [])),none,none]from rfl) (sq (Lg ne zx zy) (Bz (Uh λA=>by obtain⟨k,n1,hk,h⟩:=h (A 2) (A 3);obtain⟨τ,e1⟩:=Qw h hk;exact S5 rfl rfl e1))))⟩
theorem Zm(ne:sx≠sy)(zx:hx.sz<=900)(zy:hy.sz<=900)(h:∀a b,∃k,k<110000/\EvN (rc cP cR P [sx,sy] [hx,hy] e a b) 0 [sx,sy] [hx,hy] 1 n e k):∃τ,f_run cP cR (Yi P sx sy hx hy e n)=.exc "TooLong" τ:=by exact⟨_,Ff (sq (show Av 4 D3 _=.nx [vl P,vl (DX sx sy hx hy),vl e.t,iv n,some (.own (.n [] [])),none,none]from rfl) (sq (Lg ne zx zy) (QT (Uh λA=>by obtain⟨k,hk,h⟩:=h (A 2) (A 3);obtain⟨τ,e1⟩:=Qx h hk;exact M4 rfl rfl e1))))⟩
end
theorem Dv:∀(ts:List T),(∀t∈ts,f t t=some true)->IG f ts ts=some true
 | [],_=>rfl
 |t::ts,h=>by rw[IG,h t n4,oH,Dv ts λt m=>h t (nZ _ m)];rfl
theorem PB:∀{hs:List Th},h∈hs->h.dp<=Th.dps hs
 | [],m=>nomatch m
 |a::hs,m=>by
  rw[Th.dps];rcases oh.mp m with rfl|m
  .lia
  .have:=PB m
   lia
theorem Pt:∀(n:Nat)(h:Th),2*h.dp<=n->eqT n h.t h.t=some true
 |0,h,hl=>by have:=SG h;lia
 |1,h,hl=>by have:=SG h;lia
 |n+2,.mk m ps,hl=>by
  have hd:(Th.mk m ps).dp=1+Th.dps ps:=by simp[Th.dp]
  have et:(Th.mk m ps).t=.tup [.str m,.tup (ps.map Th.t)]:=by simp[Th.t,Th.AR]
  rw[et,Ih,Dv]
  .simp
  .intro t mt;simp only[oh,ph,or_false]at mt;rcases mt with rfl|rfl
   .rw[KI];simp
   .rw[Ih,Dv]
    .simp
    .intro t mt;obtain⟨p,mp,rfl⟩:=oo.mp mt;have:=PB mp;exact Pt n p (by lia)
theorem XG{h:Th}(hd:h.dp<=80)(h1:fa fs=.ok (.t h.t) fs)(h2:fb fs=.ok (.t h.t) fs):Ag MT fa fb fs=.ok (.t (.v true)) fs:=by
 refine Bu h1 h2 ?_;have:=Pt 182 h (by lia);cases h with
 |mk m ps =>
  have et:(Th.mk m ps).t=.tup [.str m,.tup (ps.map Th.t)]:=by simp[Th.t,Th.AR]
  rw[et]at this ⊢;have e2:IG (eqT 180) [.str m,.tup (ps.map Th.t)] [.str m,.tup (ps.map Th.t)]=some true:=by
   refine Dv _ λt mt=>?_
   simp only[oh,ph,or_false]at mt;have ba:(Th.mk m ps).dp=1+Th.dps ps:=by simp[Th.dp]
   rcases mt with rfl|rfl
   .rw[KI];simp
   .rw[Ih,Dv]
    .simp
    .intro t mt;obtain⟨p,mp,rfl⟩:=oo.mp mt;have:=PB mp;exact Pt 179 p (by lia)
  unfold MT;simp only[Ki,e2];rfl
theorem Mh:Fm [vl (.ze "TooLong")]=.ok (.t (.int 10)) [vl (.ze "TooLong")]:=by rfl
section
variable{cP cR:Addr}{P:T}{sx sy:Str}{hx hy:Th}{e:Ex}{n:Int}{v:Th}
abbrev riA(P:T)(sx sy:Str)(hx hy:Th)(e:Ex)(n:Int)(kA:T):FS:=[vl P,vl (DX sx sy hx hy),vl e.t,iv n,vl kA]
theorem QN(h:f_run cP cR (Yi P sx sy hx hy e n)=.ok (.t v.t) τ):fz (Ad (Ae 4 (f_run cP cR)) (Ac (fz (Aa 0)) (Ac (fz (Aa 1)) (Ac (fz (Aa 2)) (Ac (fz (Aa 3)) Af))))) [vl P,vl (DX sx sy hx hy),vl e.t,iv n,x4,x5,x6,x7]=.ok (.t v.t) [vl P,vl (DX sx sy hx hy),vl e.t,iv n,x4,x5,x6,x7] :=
 Bh (S6 (AF (Bh (Am rfl)) (AF (Bh (Am rfl)) (AF (Bh (Am rfl)) (AF (Bh (Am rfl)) A2)))) rfl rfl h)
theorem Vx(h:f_run cP cR (Yi P sx sy hx hy e n)=.exc "TooLong" τ):fz (Ad (Ae 4 (f_run cP cR)) (Ac (fz (Aa 0)) (Ac (fz (Aa 1)) (Ac (fz (Aa 2)) (Ac (fz (Aa 3)) Af))))) [vl P,vl (DX sx sy hx hy),vl e.t,iv n,x4,x5,x6,x7]=.exc "TooLong" [vl P,vl (DX sx sy hx hy),vl e.t,iv n,x4,x5,x6,x7] :=
 Uy (JM (AF (Bh (Am rfl)) (AF (Bh (Am rfl)) (AF (Bh (Am rfl)) (AF (Bh (Am rfl)) A2)))) rfl rfl h)
theorem OS{i:Nat}(h:fs[i]?=some (vl t))(hb:Jp fs (.t t)=some b):Ag (LO false) (Aa i) (gc .l) fs=.ok (.t (.v b)) fs:=by refine Bu (Am h) Ei ?_;unfold LO;simp only[hb];rfl
theorem QR(hd:v.dp<=60)(hs:∃τ,DG 60 [vl v.t]=.ok (.t (.v true)) τ)(h:∃τ,f_run cP cR (Yi P sx sy hx hy e n)=.ok (.t v.t) τ):f_Lright cP cR (riA P sx sy hx hy e n v.t)=.ok (.t (.v true)) (riA P sx sy hx hy e n v.t):=by
 obtain⟨τ,h⟩:=h;obtain⟨_,hs⟩:=hs;have nv:∀fs,Jp fs (.t v.t)=some false:=λfs=>by obtain⟨m,et⟩:=v.t_eq;rw[et];rfl
 have s3:TH 7 (λc=>xrs.contains c&&GK c "SayError") (Av 6 (fz (Ad (Ae 4 (f_run cP cR)) (Ac (fz (Aa 0)) (Ac (fz (Aa 1)) (Ac (fz (Aa 2)) (Ac (fz (Aa 3)) Af))))))) (Av 5 (fz (Aa 7))) [vl P,vl (DX sx sy hx hy),vl e.t,iv n,vl v.t,vl .l,vl .l,none]=.nx [vl P,vl (DX sx sy hx hy),vl e.t,iv n,vl v.t,vl .l,vl v.t,none]:=by unfold TH;rw[Vu (ak:=[vl P,vl (DX sx sy hx hy),vl e.t,iv n,vl v.t,vl .l,vl v.t,none]) (QN h) rfl]
 refine(EL (sq (ak:=[vl P,vl (DX sx sy hx hy),vl e.t,iv n,vl v.t,vl .l,none,none]) rfl (sq (ak:=[vl P,vl (DX sx sy hx hy),vl e.t,iv n,vl v.t,vl .l,vl .l,none]) rfl (sq s3 (sq (MK (Hr (OS rfl (nv _))) rfl) (Bz (UW (OS rfl rfl) (UW (Bh (S6 (AF (Bh (Am rfl)) A2) rfl rfl hs)) (XG (by lia) (Am rfl) (Am rfl)))))))))).trans rfl
theorem QS(h:∃τ,f_run cP cR (Yi P sx sy hx hy e n)=.exc "TooLong" τ):f_Lright cP cR (riA P sx sy hx hy e n .l)=.ok (.t (.v true)) (riA P sx sy hx hy e n .l):=by
 obtain⟨τ,h⟩:=h;have hc:(λc=>xrs.contains c&&GK c "SayError") "TooLong"=true:=by decide +kernel
 have s3:TH 7 (λc=>xrs.contains c&&GK c "SayError") (Av 6 (fz (Ad (Ae 4 (f_run cP cR)) (Ac (fz (Aa 0)) (Ac (fz (Aa 1)) (Ac (fz (Aa 2)) (Ac (fz (Aa 3)) Af))))))) (Av 5 (fz (Aa 7))) [vl P,vl (DX sx sy hx hy),vl e.t,iv n,vl .l,vl .l,vl .l,none]=.nx [vl P,vl (DX sx sy hx hy),vl e.t,iv n,vl .l,vl (.ze "TooLong"),vl .l,none]:=by unfold TH;rw[QJ (Vx h)];show YW 7 (λc=>xrs.contains c&&GK c "SayError") (Av 5 (fz (Aa 7))) "TooLong" _=_;rfl
 have cw:fz (Ad (Ae 1 Fm) (Ac (fz (Aa 5)) Af)) [vl P,vl (DX sx sy hx hy),vl e.t,iv n,vl .l,vl (.ze "TooLong"),vl .l,none]=.ok (.t (.int 10)) [vl P,vl (DX sx sy hx hy),vl e.t,iv n,vl .l,vl (.ze "TooLong"),vl .l,none] :=
  Bh (S6 (AF (Bh (Am rfl)) A2) rfl rfl Mh)
 refine(EL (sq (ak:=[vl P,vl (DX sx sy hx hy),vl e.t,iv n,vl .l,vl .l,none,none]) rfl (sq (ak:=[vl P,vl (DX sx sy hx hy),vl e.t,iv n,vl .l,vl .l,vl .l,none]) rfl (sq s3 (Hz (JaR (Hr (OS rfl rfl)) (Bz (Bu cw Ei rfl)))))))).trans rfl
end
end
abbrev TF:List Str:=["makers_by_kind","parts_by_maker","home_by_maker"]
theorem Mv:(("parts_by_maker":Str) == "makers_by_kind")=false/\(("home_by_maker":Str) == "makers_by_kind")=false/\(("home_by_maker":Str) == "parts_by_maker")=false:=by decide +kernel
theorem v_k1:E7 TF [a,b,c] "parts_by_maker"=some b:=by simp[E7,Mv]
theorem v_k2:E7 TF [a,b,c] "home_by_maker"=some c:=by simp[E7,Mv]
theorem w_k0:AQ TF [x,y,z] "makers_by_kind"=some x:=by simp[AQ]
theorem w_k1:AQ TF [x,y,z] "parts_by_maker"=some y:=by simp[AQ,Mv]
theorem w_k2:AQ TF [x,y,z] "home_by_maker"=some z:=by simp[AQ,Mv]
theorem s_k0:BO TF [x,y,z] "makers_by_kind" w=[w,y,z]:=by simp[BO]
theorem s_k1:BO TF [x,y,z] "parts_by_maker" w=[x,w,z]:=by simp[BO,Mv]
theorem s_k2:BO TF [x,y,z] "home_by_maker" w=[x,y,w]:=by simp[BO,Mv]
theorem Kf(W:Well K):∃τ,Dp C [some (.bor (.ins C [] [])),vl (.lst (K.map BP))]=.ok (.t .l) (some (.bor (TL C K (Dk K)))::τ):=by
 obtain⟨_,k1⟩:=JG W;obtain⟨_,k2⟩:=Ip W;have h4:=W.hi;apply q_mk;trivial;apply EN (I:=λD  fs=> ∃y2 y3 y4 y5,fs=[some (.bor (.ins C TF [.n (Cc D) (HQ D),.n (BU D) (NX D),.n (BU D) (Dk D)])),vl (.lst (K.map BP)),y2,y3,y4,y5]/\Fre y2/\Fre y3/\Fre y4/\Fre y5)
 case hi=>trivial
 case h0=>exact⟨none,none,none,none,rfl,True.intro,True.intro,True.intro,True.intro⟩
 case st =>
  rintro D kd R _ e ⟨y2,y3,y4,y5,rfl,f2,f3,f4,f5⟩
  obtain⟨w1,w2,w3,w4⟩:=W.part e;have le:=MG e;have nk:=Wq e W.nd;have lk:(Cc D).length<1000:=by unfold Cc;rw[nX];lia
  trivial
  .apply KN
   .trivial
   .trivial
   .exact λ_=>rfl
   .intro r mr;trivial
   .lia
  trivial;apply EN (I:=λ(Z:List (Str×List Str)) fs=>∃y4 y5,fs=[some (.bor (.ins C TF [.n (Cc D++[.inr kd.1]) (HQ D++[.lst (kd.2.map λr=>.str r.1)]),.n (BU D++Z.map Uo) (NX D++Yk Z),.n (BU D++Z.map Uo) (Dk D++MM kd.1 Z)])),vl (.lst (K.map BP)),vl (.str kd.1),vl (.lst (kd.2.map IV)),y4,y5]/\Fre y4/\Fre y5)
  case hi=>trivial
  case h0=>exact⟨y4,y5,by unfold Yk MM;rw[pF,pF,pF,oN,oN,oN];rfl,f4,f5⟩
  case st =>
   rintro Z r Y _ e2 ⟨y4,y5,rfl,f4,f5⟩
   have eE:=MG e2;have nr:=by rw[<- e2,nU,nQ,<- oV]at w1;exact λm=>(oU.mp w1).2.2 _ m _ n4 rfl
   trivial;exact⟨_,_,by unfold Yk MM;rw[nU,nU,nU,<- oV,<- oV,<- oV];rfl,Ak,Ak⟩
  case k =>
   rintro _ ⟨y4,y5,rfl,f4,f5⟩
   trivial;exact⟨_,_,_,_,by rw[Ew,NW,show Dk (D++[kd])=Dk D++MM kd.1 kd.2 by simp[Dk],show Cc (D++[kd])=Cc D++[.inr kd.1]from nU,show HQ (D++[kd])=HQ D++[.lst (kd.2.map λr=>.str r.1)] by unfold HQ;rw[nU];simp],Ak,Ak,f4,f5⟩
 case k =>
  rintro _ ⟨y2,y3,y4,y5,rfl,f2,f3,f4,f5⟩
  exact ZC
theorem JaD(W:Well K)(hk:kd∈K)(mz:z∈K)(e:z.1=kd.1):z=kd:=by
 obtain⟨i,hi,rfl⟩:=pZ mz;obtain⟨j,hj,rfl⟩:=pZ hk;have nd:=List.pairwise_iff_getElem.mp W.nd;rcases Nat.lt_trichotomy i j with q|q|q
 .exact absurd (by rwa[qG,qG]) (nd i j (by simpa using hi) (by simpa using hj) q)
 .subst q;rfl
 .exact absurd (by rw[qG,qG];exact e.symm) (nd j i (by simpa using hj) (by simpa using hi) q)
def allQ(K:Kd):List (Str×Str×List Str):=K.flatMap λkd=>kd.2.map λr=>(kd.1,r)
theorem Ot(K:Kd):BU K=(allQ K).map λq=>Uo q.2:=by rw[F0];unfold allQ allR;rw[pW,pW];simp only[om];rfl
theorem WQ(K:Kd):Dk K=(allQ K).map λq=>T.str q.1:=by unfold Dk MM allQ;rw[pW];simp only[om];rfl
theorem TB(W:Well K)(m:kd∈K)(m2:r∈kd.2):By (BU K) (Dk K) (.inr r.1:Key)=some (.str kd.1):=by have h:(BU K).Nodup:=B8 W.yE;rw[Ot]at h;rw[Ot,WQ];exact B3 (qF.mpr ⟨kd,m,oo.mpr ⟨r,m2,rfl⟩⟩) h
abbrev stT(C:Addr)(K:Kd):T:=A7 C K (Dk K)
theorem UE(h:fs[i]?=some (vl (A7 C K hs))):Cg C "home_by_maker" (Aa i) fs=.ok (.t (.n (BU K) hs)) fs:=by unfold Cg;rw[Am h];obtain⟨hJ,hU,hV⟩:=HL;unfold A7;generalize ("makers_by_kind":Str)=A at *;generalize ("parts_by_maker":Str)=B at *;generalize ("home_by_maker":Str)=H at *;simp[Out.bnd,Out.bind,W7,E7,okT,Ne.symm hU,Ne.symm hV]
theorem Vp(W:Well K)(m:kd∈K)(m2:r∈kd.2):Dq C [vl (stT C K),vl (.str r.1)]=.ok (.t (.str kd.1)) [vl (stT C K),vl (.str r.1)]:=by
 exact(EL (by
  refine sq (MK (Hr (Bu (Bh (Am rfl)) (UE rfl) ?_)) rfl) ?_
  .rw[in_t,TB W m m2];rfl
  exact Bz (Bu (UE rfl) (Bh (Am rfl)) (R0 (TB W m m2))))).trans rfl
theorem F2.prs(h:F2 R ts ps):∀u∈FL.pairs ts (ps.map .str),∃t k,u=.tup [t,.str k]/\R t k:=by
 induction h with
 |nil=>exact λ_ m=>nomatch m
 |cons h _ ih =>
  intro u m;rcases oh.mp m with rfl|m
  .exact⟨_,_,rfl,h⟩
  .exact ih u m
section
variable(K:Kd)(kn:Str->Str->Prop)(cl:Str->List Str->Str->List T->Prop)
def Ty:Nat->T->Str->Prop
 |0,_,_=>False
 |n+1,t,k=>(∃x,kn x k/\t=exN x)\/(∃m ps ts,(∃kd∈K,kd.1=k/\(m,ps)∈kd.2)/\F2 (Ty n) ts ps/\t=exP "make" m ts)\/∃f ps ts,cl f ps k ts/\F2 (Ty n) ts ps/\t=exP "call" f ts
end
abbrev SF:List Str:=["stock","heads","kinds_by_name","own","lessers"]
theorem QI:(("heads":Str) == "stock")=false/\(("kinds_by_name":Str) == "stock")=false/\(("kinds_by_name":Str) == "heads")=false/\(("own":Str) == "stock")=false/\(("own":Str) == "heads")=false/\(("own":Str) == "kinds_by_name")=false /\
  (("lessers":Str) == "stock")=false/\(("lessers":Str) == "heads")=false/\(("lessers":Str) == "kinds_by_name")=false/\(("lessers":Str) == "own")=false:=by decide +kernel
theorem v_s0:E7 SF [a,b,c,d,e] "stock"=some a:=by simp[E7]
theorem v_s1:E7 SF [a,b,c,d,e] "heads"=some b:=by simp[E7,QI]
theorem v_s2:E7 SF [a,b,c,d,e] "kinds_by_name"=some c:=by simp[E7,QI]
theorem v_s3:E7 SF [a,b,c,d,e] "own"=some d:=by simp[E7,QI]
theorem v_s4:E7 SF [a,b,c,d,e] "lessers"=some e:=by simp[E7,QI]
structure Sco where
 zF:Addr
 z0:Addr
 K:Kd
 hk:List Key
 hv:List T
 xk:List Key
 xv:List T
 own:Str
 ls:List Str
abbrev Sco.t(s:Sco):T:=.ins s.zF SF [stT s.z0 s.K,.n s.hk s.hv,.n s.xk s.xv,.str s.own,.lst (s.ls.map exN)]
structure SOk(s:Sco)(kn:Str->Str->Prop)(cl:Str->List Str->Str->List T->Prop):Prop where
 W:Well s.K
 nm:∀x k,kn x k->By s.xk s.xv (.inr x:Key)=some (.str k)
 hd:∀f ps k ts,cl f ps k ts->By s.hk s.hv (.inr f:Key)=some (.tup [.tup (ps.map .str),.str k])/\(f=s.own->∃x∈s.ls,ts[0]?=some (exN x))
section
variable{s:Sco}{kn:Str->Str->Prop}{cl:Str->List Str->Str->List T->Prop}
theorem Di(h:By s.xk s.xv (.inr x:Key)=some t):∃τ,Cp s.zF [vl s.t,vl (.str x)]=.ok (.t t) τ:=by apply Cd;trivial
theorem WT(W:Well s.K)(hk:kd∈s.K)(hr:(m,ps)∈kd.2):∃τ,Bg s.zF s.z0 [vl s.t,vl (.str "make"),vl (.str m)]=.ok (.t (.tup [.tup (ps.map .str),.str kd.1])) τ:=by have h1:=K9 (C:=s.z0) (hs:=Dk s.K) W hk hr;have h2:=Vp (C:=s.z0) W hk hr;apply Cd;trivial
theorem WU(h:By s.hk s.hv (.inr f:Key)=some t):∃τ,Bg s.zF s.z0 [vl s.t,vl (.str "call"),vl (.str f)]=.ok (.t t) τ:=by apply Cd;trivial
theorem Jq(x:Str):∀ls:List Str,Ut (exN x) (ls.map exN)=some (decide (x∈ls))
 | []=>by simp[Ut]
 |y::ls=>by
  have e:eqT 9 (exN y) (exN x)=some (decide (y=x)):=by unfold exN;rw[Ih];simp only[IG,KI];by_cases h:y=x<;>simp[h]
  rw[nQ,Ut,e,Jq x ls];by_cases h:y=x
  .simp[h]
  .have h2:¬x=y:=λz=>h z.symm
   simp[h,h2]
theorem ninT{ls:List Str}(h:x∈ls):MP (.t (exN x)) (.t (.lst (ls.map exN))) fs=.ok (.t (.v false)) fs:=by unfold MP;simp only[Bw,oH,Jq,h];rfl
theorem CQ(O:SOk s kn cl):∀(n:Nat)(t:T)(k:Str),Ty s.K kn cl n t k->∃τ,BC s.zF s.z0 n [vl s.t,vl t]=.ok (.t (.str k)) τ
 |n+1,t,k,h=>by
  have key:(∃x,kn x k/\t=exN x)\/∃f m ps ts,(∃τ,Bg s.zF s.z0 [vl s.t,vl (.str f),vl (.str m)]=.ok (.t (.tup [.tup (ps.map .str),.str k])) τ)/\f≠"name"/\(f="call"->m=s.own->∃x∈s.ls,ts[0]?=some (exN x))/\F2 (λt k=>∃τ,BC s.zF s.z0 n [vl s.t,vl t]=.ok (.t (.str k)) τ) ts ps/\t=exP f m ts:=by
   have lp:=λt k=>CQ O n t k
   rcases h with h|⟨m,ps,ts,⟨kd,m1,rfl,m2⟩,b,rfl⟩|⟨f,ps,ts,a,b,rfl⟩
   .exact .inl h
   .exact .inr ⟨_,m,ps,ts,WT O.W m1 m2,Ic.2.1,λh=>absurd h Ic.2.2.2,b.imp lp,rfl⟩
   .exact .inr ⟨_,f,ps,ts,WU (O.hd f ps k ts a).1,Ic.2.2.1,λ_=>(O.hd f ps k ts a).2,b.imp lp,rfl⟩
  apply Cd;rcases key with⟨x,a,rfl⟩|⟨f,m,ps,ts,⟨_,e⟩,hf,ho,b,rfl⟩
  .obtain⟨_,e⟩:=Di (O.nm x k a);trivial
  .have hl:=b.len;trivial
   .by_cases h1:f="call"
    .apply Nl;trivial
     .simp[h1]
     by_cases h2:m=s.own
     .obtain⟨x,mx,ex⟩:=ho h1 h2;have e1:=AZ ex;apply Nl;trivial
      .simp[h2]
      trivial
     .apply Tw;trivial
      .simp[h2]
    .apply Tw;trivial
   trivial;apply Kn (I:=λfs=>∃y7 y8,fs=[vl s.t,vl (exP f m ts),vl (.str f),vl (.str m),vl (.tup ts),vl (.tup (ps.map .str)),vl (.str k),y7,y8]/\Fre y7/\Fre y8)
   .trivial
   .exact b.prs
   .exact⟨_,_,rfl,True.intro,True.intro⟩
   .rintro _ _ ⟨t,z,rfl,_,h⟩ ⟨y7,y8,rfl,f7,f8⟩
    trivial;exact⟨_,_,rfl,True.intro,True.intro⟩
   .rintro _ ⟨y7,y8,rfl,f7,f8⟩
    trivial
end
abbrev Nf(x:Str):Prop:=AY [vl (.str x)]=.ok (.t (.v true)) [vl (.str x)]
abbrev ky(x:Str):Key:=.inr x
theorem Uj(e:D++a::R=xs)(nd:xs.Nodup):a∉D:=λm=>(oU.mp (e▸nd)).2.2 a m a n4 rfl
theorem mem_mid(e:D++a::R=xs):a∈xs:=by rw[<- e];simp
theorem D1(e:D++a::R=xs):D.length<xs.length:=by rw[<- e];simp
theorem D9{xs:List Str}(nd:xs.Nodup)(hn:∀x∈xs,Nf x)(hl:xs.length<=1000):∃τ,CU [vl (.lst (xs.map .str))]=.ok (.t .l) τ:=by
 apply IX;trivial;apply EN (I:=λD  fs=> ∃(vs:List T)(y2:Option Sl),fs=[vl (.lst (xs.map .str)),some (.own (.n (D.map ky) vs)),y2]/\Fre y2)
 .trivial
 .exact⟨_,_,rfl,True.intro⟩
 .rintro D x R _ e ⟨vs,y2,rfl,f2⟩
  have hx:=hn x (mem_mid e);have nx:=OU (Uj e nd);have nv:=C9 (ts:=vs) nx;have:=D1 e;trivial
  .simp[nv]
  trivial;exact⟨_,_,by rw[nU];rfl,Ak⟩
 .intro fs h;trivial
section
variable(W:Well K)
include W
theorem HW(hx:x∉mks K):∃τ,EE z0 [vl (stT z0 K),vl (.str x)]=.ok (.t (.v false)) τ:=by
 have h1:=La (C:=z0) (K:=K) (hs:=Dk K);have h2:=λkd (m:kd∈K)=>FN (C:=z0) (hs:=Dk K) W m
 simp only[om]at h1;have hl:=W.hi;apply Cd;trivial;apply Dw
 .trivial
 .intro kd m;have h2:=h2 kd m;trivial
 .exact oB hl (by decide)
 trivial;congr 2;refine qA.mpr λkd m=>?_
 have:x∉kd.2.map (·.1):=λh=>hx (qF.mpr ⟨kd,m,h⟩)
 simp[this]
end
structure Fd where
 nm:Str
 ks:List Str
 k:Str
 zZ:List Str
 rows:List (Str×List Str×T)
def rwT(r:Str×List Str×T):T:=.tup [.tup (r.2.1.map .str),r.2.2]
abbrev Fd.t(g:Fd):T:=.tup [.str g.nm,.tup (g.ks.map .str),.str g.k,.tup (g.zZ.map .str),.tup (g.rows.map rwT)]
section
variable(W:Well K)
include W
theorem EI{g:Fd}(b9:kd∈K)(hn:Nf g.nm)(jH:ky g.nm∉hk)(jJ:g.nm∉mks K)(fB:g.ks=kd.1::ks)(ho:g.zZ.length=ks.length)(h2:ks.length<=2)(hr:g.rows.length=kd.2.length)(fR:∀x∈g.ks++[g.k],x∈K.map (·.1)):
  ∃τ,Dm z0 [vl (stT z0 K),vl (.n hk hv),vl g.t]=.ok (.t .l) τ:=by
 have h1:=La (C:=z0) (K:=K) (hs:=Dk K);have h3:=FN (C:=z0) (hs:=Dk K) W b9;obtain⟨_,h4⟩:=HW W jJ;have nv:=C9 (ts:=hv) jH;obtain⟨nm,ny,k,zZ,rows⟩:=g;simp only at hn jH jJ fB ho hr fR h4 nv;subst fB;apply IX;trivial
 .apply YB;trivial
  .simp[nv]
  trivial
 trivial;apply Kn (Pe:=λu=>∃x,u=.str x/\x∈K.map (·.1)) (I:=λfs=>∃y8,fs=[vl (stT z0 K),vl (.n hk hv),vl (Fd.t ⟨nm,kd.1::ks,k,zZ,rows⟩),vl (.str nm),vl (.tup ((kd.1::ks).map .str)),vl (.str k),vl (.tup (zZ.map .str)),vl (.tup (rows.map rwT)),y8]/\Fre y8)
 .trivial
 .intro u m;have m:u∈((kd.1::ks)++[k]).map T.str:=by rwa[nU]
  obtain⟨x,mx,rfl⟩:=oo.mp m;exact⟨x,rfl,fR x mx⟩
 .exact⟨_,rfl,True.intro⟩
 .rintro _ _ ⟨x,rfl,mx⟩ ⟨y8,rfl,f8⟩
  trivial
  .simp only[mx];rfl
  trivial;exact⟨_,rfl,True.intro⟩
 .rintro _ ⟨y8,rfl,f8⟩
  trivial
  .simp[ho]
  trivial
  .simp[hr]
  trivial
end
theorem Mw{A B D E F:T}:∃τ,Dt c [some (.bor (.ins c [] [])),vl A,vl B,vl D,vl E,vl F]=.ok (.t .l) (some (.bor (.ins c SF [.val A,.val B,.val D,.val E,.val F]))::τ):=by apply q_mk;trivial
section
variable{zF z0:Addr}{K:Kd}{nm k:Str}{ks zZ:List Str}{rows:List T}{hk:List Key}{hv:List T}{kd:Str×List (Str×List Str)}{m:Str}{ys ps:List Str}{body:T}{kn:Str->Str->Prop}{cl:Str->List Str->Str->List T->Prop}{kf:Str->Str}
theorem Gs(O:SOk ⟨zF,z0,K,hk,hv,(ys++zZ).map ky,ps.map .str++ks.map .str,nm,ys.filter λx=>decide (kf x=kd.1)⟩ kn cl)(iA:∀x∈ys,By ((ys++zZ).map ky) (ps.map .str++ks.map .str) (ky x)=some (.str (kf x)))(b9:kd∈K)(hm:(m,ps)∈kd.2)(hl:ys.length=ps.length)(ho:zZ.length=ks.length)(nd:(ys++zZ).Nodup)(hn:∀x∈ys++zZ,Nf x)(hb:ys.length<=2/\zZ.length<=2)(ht:Ty K kn cl 20 body k):
  ∃τ,D4 zF z0 [vl (stT z0 K),vl (.n hk hv),vl (.tup [.str nm,.tup ((kd.1::ks).map .str),.str k,.tup (zZ.map .str),.tup rows]),vl (.str m),vl (.tup [.tup (ys.map .str),body])]=.ok (.t .l) τ:=by
 have h1:=K9 (C:=z0) (hs:=Dk K) O.W b9 hm;obtain⟨_,h2⟩:=D9 nd hn (by simp;lia);obtain⟨_,h3⟩:=Mw;obtain⟨_,h4⟩:=CQ O 20 body k ht;rw[nU]at h2;apply IX;trivial
 .exact congrArg some nU.symm
 trivial
 .exact nd
 .simp[hl,ho]
 trivial
 .apply PV
  .trivial
  .intro x mx;have:=iA x mx;trivial
  .intro x mx _;trivial
  .lia
 trivial
end
abbrev PF:List Str:=["stock","heads","rows_by_function"]
abbrev hkD(D:List Fd):List Key:=D.map λg=>ky g.nm
abbrev hvT(g:Fd):T:=.tup [.tup (g.ks.map .str),.str g.k]
abbrev hvD(D:List Fd):List T:=D.map hvT
def rvT(g:Fd)(r:Str×List Str×T):T:=.tup [.tup (r.2.1.map .str++g.zZ.map .str),r.2.2]
abbrev kyR(r:Str×List Str×T):Key:=ky r.1
def rwD(g:Fd):FO:=.n (g.rows.map kyR) (g.rows.map (rvT g))
structure ROk(K:Kd)(D:List Fd)(g:Fd)(kd:Str×List (Str×List Str))(ks:List Str)(r:Str×List Str×T):Prop where
 two:r.2.1.length<=2
 nd:(r.2.1++g.zZ).Nodup
 nm:∀x∈r.2.1++g.zZ,Nf x
 ex:∃(ps:List Str)(kn:Str->Str->Prop)(cl:Str->List Str->Str->List T->Prop)(kf:Str->Str),(r.1,ps)∈kd.2/\r.2.1.length=ps.length/\(∀zF z0,SOk ⟨zF,z0,K,hkD (D++[g]),hvD (D++[g]),(r.2.1++g.zZ).map ky,ps.map .str++ks.map .str,g.nm,r.2.1.filter λx=>decide (kf x=kd.1)⟩ kn cl)/\(∀x∈r.2.1,By ((r.2.1++g.zZ).map ky) (ps.map .str++ks.map .str) (ky x)=some (.str (kf x)))/\Ty K kn cl 20 r.2.2 g.k
structure FOk(K:Kd)(D:List Fd)(g:Fd):Prop where
 nm:Nf g.nm
 new:g.nm∉D.map Fd.nm
 xx:g.nm∉mks K
 ind:∀x∈g.ks++[g.k],x∈K.map (·.1)
 ex:∃kd ks,kd∈K/\g.ks=kd.1::ks/\g.zZ.length=ks.length/\ks.length<=2/\g.rows.map (·.1)=kd.2.map (·.1)/\∀r∈g.rows,ROk K D g kd ks r
theorem G9:∀R:List (Str×List Str×T),FL.pairs ((R.map (·.1)).map .str) (R.map rwT)=R.map λr=>.tup [.str r.1,rwT r]
 | []=>rfl
 |r::R=>by simp only[nQ,FL.pairs,G9 R]
theorem kyD(h:x∉D.map Fd.nm):ky x∉hkD D:=by have:=OU h;rwa[om]at this
theorem Ja(W:Well K)(hF:F=.lst (G.map Fd.t)\/F=.tup (G.map Fd.t)\/F=.zX (G.map Fd.t))(hl:G.length<=100)(aW:G≠[])(hG:∀A g B,A++g::B=G->FOk K A g):
  ∃τ,Cr cP zF z0 [some (.bor (.ins cP [] [])),vl (stT z0 K),vl F]=.ok (.t .l) (some (.bor (.ins cP PF [.val (stT z0 K),.n (hkD G) (hvD G),.dO (hkD G) (G.map rwD)]))::τ):=by
 apply q_mk;unfold DW;trivial;apply EN (I:=λD fs=>∃RO y3 y4 y5 y6 y7 y8 y9 bC,fs=[some (.bor (.ins cP PF [.val (stT z0 K),.n (hkD D) (hvD D),RO])),vl (stT z0 K),vl F,y3,y4,y5,y6,y7,y8,y9,bC]/\Jch RO=some (hkD D,D.map rwD)/\(D≠[]->RO=.dO (hkD D) (D.map rwD))/\Fre y3/\Fre y4/\Fre y5/\Fre y6/\Fre y7/\Fre y8/\Fre y9/\Fre bC)
 .apply U4;trivial;exact hF
 .exact⟨_,_,_,_,_,_,_,_,_,rfl,rfl,λh=>absurd rfl h,True.intro,True.intro,True.intro,True.intro,True.intro,True.intro,True.intro,True.intro⟩
 .rintro D g R _ e ⟨RO,y3,y4,y5,y6,y7,y8,y9,bC,rfl,hR,_,f3,f4,f5,f6,f7,f8,f9,f10⟩
  have hD:=D1 e;have O:=hG D g R e;obtain⟨kd,ks,b9,fB,ho,h2,hr,gd⟩:=O.ex;have nk:=kyD O.new;have ly:=by simpa using congrArg List.length hr
  obtain⟨_,c1⟩:=EI W b9 O.nm nk O.xx fB ho h2 ly O.ind;have h3:=FN (C:=z0) (hs:=Dk K) W b9;trivial;apply EN (I:=λQ fs=>∃y9 bC,fs=[some (.bor (.ins cP PF [.val (stT z0 K),.n (hkD D++[ky g.nm]) (hvD D++[hvT g]),.dO (hkD D++[ky g.nm]) (D.map rwD++[.n (Q.map kyR) (Q.map (rvT g))])])),vl (stT z0 K),vl F,vl g.t,vl (.str g.nm),vl (.tup (g.ks.map .str)),vl (.str g.k),vl (.tup (g.zZ.map .str)),vl (.tup (g.rows.map rwT)),y9,bC]/\Fre y9/\Fre bC)
  case hi =>
   rw[<- G9,hr];have h0:atI (g.ks.map T.str) 0=some (.str kd.1):=by rw[fB];exact at0
   trivial
  case h0=>exact⟨_,_,rfl,f9,f10⟩
  case st =>
   rintro Q r Z _ e2 ⟨y9,bC,rfl,f9,f10⟩
   obtain⟨m,ys,body⟩:=r;have hq:=D1 e2;have Or:=gd _ (mem_mid e2);obtain⟨ps,kn,cl,kf,hm,bu,hS,iA,ht⟩:=Or.ex;have h4:=W.rw kd b9;have hy:ys.length<=2:=Or.two;have nr:=by
    have nd:(g.rows.map (·.1)).Nodup:=by rw[hr];exact(W.part (oY b9).choose_spec.choose_spec.symm).2.2.2
    rw[<- e2,nU,nQ]at nd;have:=OU (Uj rfl nd);rwa[om]at this
   have hS:=hS zF z0;rw[show hkD (D++[g])=hkD D++[ky g.nm]from nU,show hvD (D++[g])=hvD D++[hvT g]from nU]at hS;obtain⟨_,c2⟩:=Gs hS iA b9 hm bu ho Or.nd Or.nm ⟨Or.two,by lia⟩ ht;rw[<- fB]at c2;trivial;exact⟨_,_,by rw[nU,nU];rfl,Ak,Ak⟩
  case k =>
   rintro _ ⟨y9,bC,rfl,f9,f10⟩
   trivial;exact⟨_,_,_,_,_,_,_,_,_,by simp only[hkD,hvD,nU];rfl,by simp only[hkD,hvD,nU];rfl,λ_=>by simp only[hkD,hvD,nU];rfl,Ak,Ak,Ak,Ak,Ak,Ak,f9,f10⟩
 .rintro _ ⟨RO,y3,y4,y5,y6,y7,y8,y9,bC,rfl,hR,h,f3,f4,f5,f6,f7,f8,f9,f10⟩
  rw[h aW];trivial
theorem size_of:∀(n:Nat)(h:Th),h.dp<=n->h.sz<=900->∃τ,DE n [vl h.t]=.ok (.t (.int h.sz)) τ
 |n+1,.mk m ps,d,z=>by
  rw[Th.dp]at d;rw[Th.sz]at z;have hl:=Ke ps;apply Cd;rw[Th.t,Th.AR];trivial
  .apply TK;rw[om];trivial;apply Dw
   .trivial
   .intro h mh;obtain⟨_,e⟩:=(λh m=>size_of n h (by have:=Th.dpm m;lia) (by have:=Th.szm m;lia)) h mh;trivial
   .lia
  trivial;rw[Kc,Th.sz];simp
 |0,.mk m ps,d,z=>by rw[Th.dp]at d;lia
theorem Jat(h:f fs=.ok (.t (.lst (cs.map T.int))) ae):maxD 0 (Ab f Af) fs=.ok (.t (.int (mxD 0 cs))) ae:=by unfold maxD;rw[CL h True.intro A2];simp only[Out.bind,Bw,oH,CH];rfl
theorem LY:∀(n:Nat)(h:Th),h.dp<=n->h.sz<=900->∃τ,CY n [vl h.t]=.ok (.t (.int h.dp)) τ
 |n+1,.mk m ps,d,z=>by
  rw[Th.dp]at d;rw[Th.sz]at z;have hl:=Ke ps;apply Cd;rw[Th.t,Th.AR];trivial
  .apply Jat;rw[om];trivial;apply Dw
   .trivial
   .intro h mh;obtain⟨_,e⟩:=(λh m=>LY n h (by have:=Th.dpm m;lia) (by have:=Th.szm m;lia)) h mh;trivial
   .lia
  trivial;rw[Py,Th.dp];simp
 |0,.mk m ps,d,z=>by rw[Th.dp]at d;lia
theorem Ui:∀{G:List α},(G.map f).Nodup->∀{a b:α},a∈G->b∈G->f a=f b->a=b
 |x::G,nd,a,b,ma,mb,e=>by
  rw[nQ,oK]at nd;rcases oh.mp ma with rfl|ma<;>rcases oh.mp mb with rfl|mb
  .rfl
  .exact absurd (oo.mpr ⟨b,mb,e.symm⟩) nd.1
  .exact absurd (e▸oo.mpr ⟨a,‹a∈G›,rfl⟩) nd.1
  .exact Ui nd.2 ma mb e
theorem JaT{ss:List Str}(h:f fs=.ok (.t (.lst (ss.map T.str))) ae)(h2:ae[i]?=some (vl (.str z)))(hj:ss.findIdx? (·==z)=some j):Aw MR f (Ab (Aa i) Af) fs=.ok (.t (.int j)) ae:=by have hs:=DK ss;unfold Aw;rw[h];show(Ab (Aa i) Af ae).bind _=_;rw[CL (Am h2) True.intro A2];show MR (.t (.lst (ss.map T.str))) [.t (.str z)] ae=_;unfold MR;simp only[Bw,oH,hs,hj];rfl
theorem Kl(W:Well K)(hk:kd∈K):(kd.2.map (·.1)).Nodup:=by obtain⟨A,B,rfl⟩:=oY hk;have:=W.yE;simp only[mks,qa]at this;exact(oU.mp (oU.mp this).2.1).1
abbrev tF(K:Kd):T:=.dF (Cc K) (NJ K)
theorem Zo{K:Kd}(W:Well K){G:List Fd}{i:Nat}(nd:(G.map Fd.nm).Nodup)(mg:g∈G)(lG:G.length<=100)(hk:kd∈K)(e1:g.ks=kd.1::ks)(er:g.rows.map (·.1)=kd.2.map (·.1))(hr:g.rows[i]?=some r)(hl:r.2.1.length+g.zZ.length<=100):
  ∃τ,CF [vl (.lst (G.map Fd.t)),vl (tF K),vl (.str g.nm),vl (.str r.1)]=.ok (.t (rvT g r)) τ:=by
 have h0:=DA W hk;have hx:(kd.2.map (·.1)).findIdx? (·==r.1)=some i:=by
  have hi:(kd.2.map (·.1))[i]?=some r.1:=by rw[<- er,ou,hr];rfl
  obtain⟨h1,h2⟩:=n6.mp hi;refine qg.mpr ⟨h1,by simp only[h2,beq_self_eq_true],λj hj=>?_⟩;have:=List.pairwise_iff_getElem.mp (Kl W hk) j i (by lia) h1 hj;rw[h2]at this;simpa using this
 apply Cd;apply VC (p:=Fd.t) (ok:=λa=>if a.nm=g.nm then some "" else none) (I:=λfs=>∃y4 y5 y6 y7 y8,fs=[vl (.lst (G.map Fd.t)),vl (tF K),vl (.str g.nm),vl (.str r.1),y4,y5,y6,y7,y8,none]/\Fre y4/\Fre y5/\Fre y6/\Fre y7/\Fre y8) (E:=λ_ y=>∃τ,y=.ret (.t (rvT g r)) τ)
 case hi=>trivial
 case hE=>rintro _ _ ⟨_,rfl⟩;trivial
 case h1=>exact⟨_,_,_,_,_,rfl,True.intro,True.intro,True.intro,True.intro,True.intro⟩
 case s0 =>
  rintro a ma ho _ ⟨y4,y5,y6,y7,y8,rfl,f4,f5,f6,f7,f8⟩
  have h:¬a.nm=g.nm:=λh=>by rw[if_pos h]at ho;cases ho
  trivial;exact⟨_,_,_,_,_,rfl,Ak,Ak,Ak,Ak,Ak⟩
 case s1 =>
  rintro a ma _ ho _ ⟨y4,y5,y6,y7,y8,rfl,f4,f5,f6,f7,f8⟩
  have h:a.nm=g.nm:=by by_cases h:a.nm=g.nm;exact h;rw[if_neg h]at ho;cases ho
  cases Ui nd ma mg h;have i0:atI (g.ks.map T.str) 0=some (.str kd.1):=by rw[e1];exact at0
  have i1:atI (g.rows.map rwT) i=some (rwT r):=AZ (by rw[ou,hr];rfl);trivial
  .apply JaT (hj:=hx)
   .trivial;rw[om];apply Dw
    .trivial
    .intro h mh;unfold IV;trivial
    .have:=(W.rw kd hk).2
     lia
   .rfl
  trivial
  .exact q_i ⟨_,rfl⟩
  .intro h;simp at h
 case k0 =>intro e;have:=List.findSome?_eq_none_iff.mp e g mg;simp at this
 case k1=>rintro _ _ _ ⟨_,rfl⟩;exact q_o (q_rr True.intro rfl)
abbrev bn(n:Int):Option Sl:=some (.bor (.lst [.int n]))
def UM(xs:List Str)(hs:List Th):T:=.n (xs.map λx=>(.inr x:Key)) (hs.map Th.t)
def RO:Option (Th×Nat)->T->Int->Prop
 |some (v,n'),t,m=>t=v.t/\m=n'
 |none,t,_=>t=.l
def LE(FT:T)(K:Kd)(N:Nat)(xs:List Str)(hs:List Th)(aZ:Nat)(e:Ex)(n:Nat)(r:Option (Th×Nat)):Prop :=
 ∃t τ m,AM N [vl FT,vl (tF K),vl (UM xs hs),vl e.t,iv aZ,bn n]=.ok (.t t) τ/\τ[5]?=some (bn m)/\RO r t m
def RT(A:T->FS->Prop)(y:SO):Prop:=∃t τ,y=.ret (.t t) τ/\A t τ
theorem IY(a:A t fs):Sat (RT A) (.ret (.t t) fs):=q_i ⟨t,fs,rfl,a⟩
seal RT
theorem EM{A:T->FS->Prop}(k:Sat (RT λt τ=>A t (τ.take args.length)) (s (args++List.replicate n none))):∃t τ,AX n s args=.ok (.t t) τ/\A t τ:=by unfold Sat RT at k;obtain⟨t,τ,e,a⟩:=k;exact⟨t,_,EL e,a⟩
theorem NQ(hi:it fs=.ok ts ae)(hl:(∃ak,Dl gt s ts ae=.nx ak/\Sat Q (h ak))\/∃t τ,Dl gt s ts ae=.ret (.t t) τ/\Sat Q (.ret (.t t) τ)):Sat Q (Aj (BB it gt s) h fs):=by
 rcases hl with⟨ak,e,k⟩|⟨t,τ,e,k⟩
 .exact Bl (II hi e) k
 .unfold Sat;have e1:=II hi e;rw[Stop.seq (by rw[e1];exact True.intro),e1];exact q_o k
abbrev wrB(rec:sT):FS->SO:=(Aj (Av 8 (fz (Ad (Ae 6 rec) (Ac (fz (Aa 0)) (Ac (fz (Aa 1)) (Ac (fz (Aa 2)) (Ac (fz (Aa 7)) (Ac (fz (Aa 4)) (Ac (Aa 5) Af)))))))))
  (Aj (ifS (asB (Ag (LO false) (Aa 8) (gc .l))) (retS (gc .l)) nxS)
  (Au (Aw ET (Aa 6) (Ab (fz (Aa 8)) Af)))))
section
variable{FT:T}{K:Kd}{rw:Str->Str->Option (List Str×Ex)}{B:List Str->List Th->Ex->Nat->Option (Th×Nat)}{ok:Bool}{xs:List Str}{hs:List Th}{aZ N:Nat}{x3:Option Sl}
def LL(FT:T)(K:Kd)(xs:List Str)(hs:List Th)(aZ:Nat)(x3:Option Sl)(n:Int)(ar:List T)(y7 y8:Option Sl):FS:=[vl FT,vl (tF K),vl (UM xs hs),x3,iv aZ,bn n,some (.own (.lst ar)),y7,y8,none,none,none,none]
theorem J4:∀(es:List Ex)(n:Nat)(ar:List T)(y7 y8:Option Sl),Fre y7->Fre y8->ar.length+es.length<=1000->(∀e∈es,∀n,LE FT K N xs hs aZ e n (wE rw B ok xs hs e n)) ->
  (∃vs n' z7 z8,wL rw B ok xs hs es n=some (vs,n')/\Fre z7/\Fre z8/\Dl (tgN 7) (wrB (AM N)) (es.map Ex.t) (LL FT K xs hs aZ x3 n ar y7 y8)=.nx (LL FT K xs hs aZ x3 n' (ar++vs.map Th.t) z7 z8))\/
  (wL rw B ok xs hs es n=none/\∃τ m,Dl (tgN 7) (wrB (AM N)) (es.map Ex.t) (LL FT K xs hs aZ x3 n ar y7 y8)=.ret (.t .l) τ/\τ[5]?=some (bn m))
 | [],n,ar,y7,y8,f7,f8,hl,H=>.inl ⟨[],n,y7,y8,rfl,f7,f8,by simp[Dl]⟩
 |e::es,n,ar,y7,y8,f7,f8,hl,H=>by
  rw[n8]at hl;obtain⟨t,τ,m,e1,e2,r⟩:=H e n4 n;have g1:tgN 7 e.t (LL FT K xs hs aZ x3 n ar y7 y8)=some (LL FT K xs hs aZ x3 n ar (vl e.t) y8):=by unfold tgN LL;exact Ef rfl f7
  cases ew:wE rw B ok xs hs e n with
  |none =>
   rw[ew]at r;cases r;refine .inr ⟨by simp only[wL,ew],?_⟩;have:Sat (RT λt τ=>t=.l/\∃m,τ[5]?=some (bn m)) (wrB (AM N) (LL FT K xs hs aZ x3 n ar (vl e.t) y8)):=by
    unfold wrB LL;trivial
    .exact IY ⟨rfl,m,rfl⟩
    .intro h;cases h
   unfold Sat RT at this;obtain⟨_,bq,e3,rfl,m2,e4⟩:=this;exact⟨bq,m2,Xd g1 e3,e4⟩
  |some p =>
   obtain⟨v,n1⟩:=p;rw[ew]at r;obtain⟨rfl,rfl⟩:=r;have:Sat (λy=>∃τ,y=.nx τ/\τ=LL FT K xs hs aZ x3 n1 (ar++[v.t]) (vl e.t) (vl v.t)) (wrB (AM N) (LL FT K xs hs aZ x3 n ar (vl e.t) y8)):=by unfold wrB LL;obtain⟨m,ps⟩:=v;trivial;rfl
   obtain⟨_,this,rfl⟩:=q_o this;rw[nQ,LQ g1 this];rcases J4 es n1 (ar++[v.t]) (vl e.t) (vl v.t) Ak Ak (by simp;lia) (λe m=>H e (nZ _ m))with⟨vs,n',z7,z8,h1,h2,h3,h4⟩|⟨h1,h2⟩
   .exact .inl ⟨v::vs,n',z7,z8,by simp only[wL,ew,h1],h2,h3,by rw[h4];simp⟩
   .exact .inr ⟨by simp only[wL,ew,h1],h2⟩
variable{S:Nat}
mutual
theorem tE(P:Te K hd rw S)(hT:Tks K hs ks)(hz:∀h∈hs,Ft h)(IH:∀ys gs qs b n k v n',Tks K gs qs->(∀h∈gs,Ft h)->Xk K hd ys qs b k->B ys gs b n=some (v,n')->Tk K v k/\Ft v):
  ∀(e:Ex)(k:Str)(n:Nat)(v:Th)(n':Nat),Xk K hd xs ks e k->wE rw B ok xs hs e n=some (v,n')->Tk K v k/\Ft v
 |.nm x,k,n,v,n',h,e=>by obtain⟨u,e1,t,m⟩:=hT.at h;simp only[wE,e1,pA,Option.some.injEq,Prod.mk.injEq]at e;obtain⟨rfl,rfl⟩:=e;exact⟨t,hz u m⟩
 |.mk m es,k,n,v,n',h,e=>by
  obtain⟨kd,hk,rfl,qs,hm,hX⟩:=h;simp only[wE]at e;cases e1:wL rw B ok xs hs es n with
  |none=>rw[e1]at e;cases e
  |some p =>
   obtain⟨vs,n1⟩:=p;rw[e1]at e;have q:=tL P hT hz IH es qs n vs n1 hX e1;by_cases f:fits (.mk m vs)=true
   .simp only[f,if_true,Option.some.injEq,Prod.mk.injEq]at e;obtain⟨rfl,rfl⟩:=e;exact⟨⟨kd,hk,rfl,qs,hm,q.1⟩,oj f⟩
   .simp[f]at e
 |.cl f es,k,n,v,n',h,e=>by
  obtain⟨qs,hh,hX⟩:=h;simp only[wE]at e;cases e1:wL rw B ok xs hs es n with
  |none=>rw[e1]at e;cases e
  |some p =>
   obtain⟨vs,n1⟩:=p;rw[e1]at e;have q:=tL P hT hz IH es qs n vs n1 hX e1;cases vs with
   |nil=>cases e
   |cons u r =>
    cases qs with
    |nil=>exact q.1.elim
    |cons q0 qs =>
    obtain⟨m,ps⟩:=u;obtain⟨⟨⟨kd,hk,hq,pk,hm,tp⟩,tr⟩,z⟩:=q;cases n1 with
    |zero=>cases e
    |succ n1 =>
     simp only at e;by_cases o:ok=true
     .obtain⟨ys,bd,er,nd,yl,bX,bS,bD⟩:=P.row f q0 qs k kd m pk hh hk hq hm;simp only[o,if_true,er]at e;have mz:=z (.mk m ps) (by simp);unfold Ft at mz;rw[Th.sz,Th.dp]at mz;exact IH ys (ps++r) (pk++qs) bd n1 k v n' (tp.app tr) (λh m=>by
       rcases oM.mp m with m|m
       .have:=Th.szm m;have:=Th.dpm m;unfold Ft
        lia
       .exact z h (by simp[m])) bX e
     .simp[o]at e
theorem tL(P:Te K hd rw S)(hT:Tks K hs ks)(hz:∀h∈hs,Ft h)(IH:∀ys gs qs b n k v n',Tks K gs qs->(∀h∈gs,Ft h)->Xk K hd ys qs b k->B ys gs b n=some (v,n')->Tk K v k/\Ft v):
  ∀(es:List Ex)(qs:List Str)(n:Nat)(vs:List Th)(n':Nat),Xks K hd xs ks es qs->wL rw B ok xs hs es n=some (vs,n')->Tks K vs qs/\∀v∈vs,Ft v
 | [],[],n,vs,n',_,e=>by obtain⟨rfl,rfl⟩:=e;exact⟨True.intro,λ_ m=>nomatch m⟩
 |e::es,q::qs,n,vs,n',h,e0=>by
  simp only[wL]at e0;cases e1:wE rw B ok xs hs e n with
  |none=>rw[e1]at e0;cases e0
  |some p =>
   obtain⟨v,n1⟩:=p;rw[e1]at e0;cases e2:wL rw B ok xs hs es n1 with
   |none=>simp only[e2]at e0;cases e0
   |some p =>
    obtain⟨us,n2⟩:=p;simp only[e2,Option.some.injEq,Prod.mk.injEq]at e0;obtain⟨rfl,rfl⟩:=e0;have h1:=tE P hT hz IH e q n v n1 h.1 e1;have h2:=tL P hT hz IH es qs n1 us n2 h.2 e2;refine⟨⟨h1.1,h2.1⟩,λu m=>?_⟩;rcases oh.mp m with rfl|m
    .exact h1.2
    .exact h2.2 u m
end
theorem tW(P:Te K hd rw S):∀(l:Nat)(xs:List Str)(hs:List Th)(ks:List Str)(e:Ex)(n:Nat)(k:Str)(v:Th)(n':Nat),Tks K hs ks->(∀h∈hs,Ft h)->Xk K hd xs ks e k->wW rw l xs hs e n=some (v,n')->Tk K v k/\Ft v
 |0,xs,hs,ks,e,n,k,v,n',t,z,x,q=>tE P t z (λ_ _ _ _ _ _ _ _ _ _ _ h=>by cases h) e k n v n' x q
 |l+1,xs,hs,ks,e,n,k,v,n',t,z,x,q=>tE P t z (λys gs qs b n k v n' t z x q=>tW P l ys gs qs b n k v n' t z x q) e k n v n' x q
end
theorem Cj(ns:List Int)(k:Nat):∃τ,AJ [vl (.zX (ns.map T.int)),iv k]=.ok (.t (.int (ns.getD k 0))) τ:=by
 apply Cd;trivial
 .exact YG (.inl rfl) (by simp at hb;lia)
 trivial;simp at hb;simp[hb]
theorem Gm{ns:List Int}(ht:IsI t ns){a b:Int}(a0:0<=a)(a1:a<=1000)(b0:1<=b)(b1:b<=1000):
  ∃ds:List Int,ds.length=150/\∃τ,BR [vl t,iv a,iv b]=.ok (.nw (.lst (ds.map T.int))) τ:=by
 obtain⟨j,j0,j1,jn,ej⟩:∃j:Int,0<=j/\j<=63/\j<=ns.length/\Ad Js (Ab (Ad AK (Ab (Aa 0) Af)) (Ab (gc (.int 63)) Af)) [vl t,iv a,iv b,none,none,none,none,none]=.ok (.t (.int j)) [vl t,iv a,iv b,none,none,none,none,none]:=by
  refine⟨if(63:Int)<(ns.map T.int).length then 63 else(ns.map T.int).length,?_,?_,?_,?_⟩
  .split<;>lia
  .split<;>lia
  .simp;split<;>lia
  .rcases ht with rfl|rfl<;>(apply x_mn2;trivial)
 obtain⟨n,n1,hn,er⟩:=Vy (ga:=Ab (Aa 1) (Ab (Ad Js (Ab (Ad AK (Ab (Aa 0) Af)) (Ab (gc (.int 63)) Af))) (Ab (Aa 2) Af))) (fs:=[vl t,iv a,iv b,none,none,none,none,none]) (by trivial) a0 a1 j0 j1 b0 b1;have hz:∀D r f:Int,∃z,atI [T.int r,T.int f] (D%2)=some (T.int z):=λD r f=>by
  rcases(show D%2=0\/D%2=1 by lia)with h|h<;>rw[h]
  .exact⟨_,at0⟩
  .exact⟨_,at1⟩
 apply q_ex;trivial
 .apply Nj
  .apply Nk
   .exact er
   .trivial
   .apply Dw
    .trivial
    .intro k mk;have:=hn k (pw.mp mk);have:=Int.mul_nonneg (show 0<=(k:Int) by lia) (show 0<=b by lia);trivial;exact YG ht (by lia)
    .simp;lia
  .rfl
 trivial;apply Bb (I:=λP fs=>∃(ds:List Int)(D f r:Int)(x:Option Sl),fs=[vl t,iv a,iv b,iv D,some (.own (.lst (ds.map T.int))),iv f,iv r,x]/\0<=f/\f<2147483629/\ds.length=P.length/\Fre x)
 case hi=>exact Mg (by trivial) rfl (by decide)
 case h0=>exact⟨[],_,_,_,_,rfl,pd _ (by decide),oZ _ (by decide),rfl,True.intro⟩
 case st =>
  rintro P k R _ e ⟨ds,D,f,r,x,rfl,f0,f1,hl,fx⟩
  have hP:=congrArg List.length e;simp at hP;have g0:=pd (f*f+D+k) (b:=2147483629) (by decide);have g1:=oZ (f*f+D+k) (b:=2147483629) (by decide);obtain⟨z,ez⟩:=hz D r ((f*f+D+k)%2147483629*((f*f+D+k)%2147483629)%2147483587);trivial;exact⟨ds++[z%1000003],D,_,_,_,by rw[nU];rfl,g0,g1,by simp[hl],Ak⟩
 case k =>
  rintro _ ⟨ds,D,f,r,x,rfl,f0,f1,hl,fx⟩
  trivial
  .exact Tr rfl
  exact q_rr True.intro ⟨ds.reverse,by rw[List.map_reverse],by simpa using hl⟩
theorem Jj{c:Int}{n:Nat}(hn:n<=12)(hb:Builtin.Int.intBits c<=2^20):∃τ,Ci [iv c,iv n]=.ok (.nw (.lst ((nms c n).map T.str))) τ:=by
 obtain⟨L,hL,bu,hl⟩:∃L:Str,("abcdefghijklmnopqrstuvwxyz":Str)=L/\L.length<=big/\∀x:Int,atI L.cps.toList (x%26)=some (Nm.DV x):=⟨ABC,rfl,Yd,Qf⟩
 have fm:=oB hb (show 2^20<=2^26 by decide);have w0:=Nm.W_lo c;have w1:=Nm.W_hi c;have a0:=Nm.At_lo c;have a1:=Nm.At_hi c;have eW:=qb (Int.le_trans (by decide) w0);apply ZE;unfold L8;rw[hL];trivial
 .exact W5 ⟨fm,fm⟩
 trivial
 .exact mul_M
 trivial
 .exact eW.symm
 .lia
 .trivial
 .apply Dw
  .trivial
  .intro k mk;have:=pw.mp mk;trivial;exact LM bu (hl _)
  .simp;lia
 trivial
 .exact Td c
 trivial;apply Bb (I:=λP fs=>∃x y,fs=[iv c,iv n,vl (.str L),iv (Nm.M c),iv (Nm.W c),iv (Nm.At c),vl (.lst ((List.range (Nm.W c).toNat).map λk=>.str ⟨#[Nm.base c k]⟩)),iv (Nm.step c),some (.own (.lst ((nms c P.length).map T.str))),x,y]/\Fre x/\Fre y)
 case hi=>exact Mg (by trivial) rfl (by lia)
 case h0=>exact⟨none,none,rfl,True.intro,True.intro⟩
 case k =>
  rintro _ ⟨x,y,rfl,fx,fy⟩
  trivial;exact Yj rfl (by rw[o8])
 case st =>
  rintro P k R _ e ⟨x,y,rfl,fx,fy⟩
  obtain⟨rfl,hk⟩:=Fh e;have en:∀z:Str,z.cps.toList=Nm.codes c P.length->(nms c P.length).map T.str++[T.str z]=(nms c (P++[P.length]).length).map T.str:=λz ez=>by have:z=nmS c P.length:=Vo (by rw[ez];simp[nmS]);simp[nms,List.range_succ,this]
  have ln:((nms c P.length).map T.str).length<1000000:=by simp[nms];lia
  trivial
  .exact LM bu (hl _)
  trivial
  .exact AZ (j:=0) (by rw[ou,pO (by lia)];rfl)
  trivial
  .exact W4 ⟨rfl,by lia,by lia⟩
  trivial
  .rw[en _ (by rw[Oj _ _ (by lia),Nm.codes,if_pos (oj hb),Nm.Hm])];exact⟨_,_,rfl,Ak,Ak⟩
  intro hb;trivial
  .exact JaE (QG (Am rfl) (Am rfl) a0 (by simp;lia)) (by rw[<- List.map_take,List.take_range,qd (by lia)]) (by simp;lia)
  trivial
  .exact Pd (by rw[HV];show _+1<=1000000;simp;lia)
  trivial
  .exact JaE (QH (Am rfl) (Bu (Am rfl) Ei Pf) (by lia) (by simp;lia)) SD (by simp;lia)
  trivial
  .exact Pd (by rw[strLen_append,HV,HV];show _+1+_<=1000000;simp;lia)
  trivial;rw[en _ (by show(((Txt.join (⟨#[]⟩:Str) _).cps++#[Nm.one c P.length])++(Txt.join (⟨#[]⟩:Str) _).cps).toList=_;rw[Array.toList_append,Array.toList_append,join_ones,join_ones (λj=>Nm.base c ((Nm.At c+1).toNat+j)),Nm.codes,if_neg (of_decide_eq_false hb),Nm.Hl,Int.toNat_add a0 (by decide)];rfl)];exact⟨_,_,rfl,Ak,Ak⟩
theorem Z5{names:List Str}{at':Nat}{z1 z2 z3:Int}(ha:at'<=names.length):
  ∃t τ,Fo [vl (.lst (names.map T.str)),iv at',vl (.v first),some (.bor (.lst (pu++[.int z3]++[.int z2]++[.int z1])))]=.ok (.t t) τ/\∃ps:List Str,t=.tup (ps.map T.str)/\ps.length<=2/\(∀x∈ps,x∈names.take (if first=true then at' else names.length))/\τ[3]?=some (some (.bor (.lst pu))):=by
 obtain⟨q,hq,eq⟩:∃q:Nat,q<=2/\atI [T.int 0,T.int 1,T.int 1,T.int 2] (z1%4)=some (T.int q):=by rcases(show z1%4=(0:Nat)\/z1%4=(1:Nat)\/z1%4=(2:Nat)\/z1%4=(3:Nat) by lia)with h|h|h|h<;>rw[h]<;>exact⟨_,by decide,AZ rfl⟩
 apply EM;trivial;apply NR (J:=λO:Nat=>[vl (.lst (names.map T.str)),iv at',vl (.v first),some (.bor (.lst pu)),iv q,vl (.lst [.int z2,.int z3]),iv O]) (P:=λO=>O=if first=true then at' else names.length)
 .trivial
 .rintro rfl
  exact⟨at',rfl,by trivial⟩
 .rintro rfl
  exact⟨names.length,rfl,by rw[nX];trivial⟩
 rintro O hO
 have hl:O<=names.length:=by rw[hO];split<;>lia
 rw[<- hO];trivial
 .exact IY ⟨[],rfl,by simp,by simp,rfl⟩
 intro hb;have hO:0<O:=by simp at hb;lia
 trivial
 .rfl
 .lia
 .trivial
 .apply Dw
  .trivial
  .intro k mk;have:=pw.mp mk;have:atI [T.int z2,T.int z3] k=some (T.int ([z2,z3].getD k 0)):=AZ (by rcases(show k=0\/k=1 by lia)with rfl|rfl<;>rfl);have:=(US hO hl ([z2,z3].getD k 0)).2;trivial
  .simp;lia
 trivial;exact IY ⟨(List.range q).map _,by rw[om];rfl,by simpa using hq,λx m=>by obtain⟨k,_,rfl⟩:=oo.mp m;exact(US hO hl _).1,rfl⟩
theorem Jay{ns:List Int}(h0:Builtin.Int.intBits (ns.getD 0 0)<=2^20)(h1:Builtin.Int.intBits (ns.getD 1 0)<=2^20):
  ∃K:Kd,(1<=K.length/\K.length<=4/\KOk (nms (ns.getD 0 0) K.length) (nms (ns.getD 1 0) 12) K/\used K<=12)/\∃τ,Fp [vl (.zX (ns.map T.int))]=.ok (.nw (.lst (K.map BP))) τ:=by
 obtain⟨ds,hd,_,ed⟩:=Gm (ns:=ns) (.inl rfl) (a:=0) (b:=3) (by decide) (by decide) (by decide) (by decide);obtain⟨ds,z,rfl,hz⟩:=OE (xs:=ds) (by lia);rw[nU]at ed;obtain⟨_,c0⟩:∃τ,AJ [vl (.zX (ns.map T.int)),iv 0]=.ok (.t (.int (ns.getD 0 0))) τ:=Cj ns 0;obtain⟨_,c1⟩:∃τ,AJ [vl (.zX (ns.map T.int)),iv 1]=.ok (.t (.int (ns.getD 1 0))) τ:=Cj ns 1;obtain⟨m,m0,m1,em⟩:∃m:Nat,1<=m/\m<=4/\atI [T.int 1,T.int 2,T.int 3,T.int 2,T.int 1,T.int 4,T.int 2,T.int 3] (z%8)=some (T.int m):=by rcases(show z%8=(0:Nat)\/z%8=(1:Nat)\/z%8=(2:Nat)\/z%8=(3:Nat)\/z%8=(4:Nat)\/z%8=(5:Nat)\/z%8=(6:Nat)\/z%8=(7:Nat) by lia)with h|h|h|h|h|h|h|h<;>rw[h]<;>exact⟨_,by decide,by decide,AZ rfl⟩
 obtain⟨w,w0,w4,wm,ew⟩:∃w:Nat,3<=w/\w<=4/\w*m<=12/\atI [T.int 4,T.int 3] (if decide ((m:Int)=4)=true then 1 else 0)=some (T.int w):=by
  by_cases h:(m:Int)=4
  .exact⟨3,by decide,by decide,by lia,by simp[h];exact at1⟩
  .exact⟨4,by decide,by decide,by lia,by simp[h];exact at0⟩
 obtain⟨_,n0⟩:=Jj (n:=m) (by lia) h0;obtain⟨_,n1⟩:∃τ,Ci [iv (ns.getD 1 0),iv 12]=_:=Jj (by decide) h1;have l0:=B6 (ns.getD 0 0) m;have l1:=B6 (ns.getD 1 0) 12
 suffices H:∃K:Kd,(K.length=m/\KOk (nms (ns.getD 0 0) m) (nms (ns.getD 1 0) 12) K/\used K<=12)/\∃τ,Fp [vl (.zX (ns.map T.int))]=.ok (.nw (.lst (K.map BP))) τ by obtain⟨K,⟨rfl,k1,k2⟩,e⟩:=H;exact⟨K,⟨m0,m1,k1,k2⟩,e⟩
 generalize nms (ns.getD 0 0) m=names at *;generalize nms (ns.getD 1 0) 12=makers at *;have hg:∀(xs:List Str)(i:Nat),i<xs.length->atI (xs.map T.str) (i:Int)=some (T.str (xs.getD i ⟨#[]⟩)):=λxs i h=>AZ (by simp[h])
 apply ZF;unfold Ma;trivial;apply Bb (I:=λP fs=>∃(K:Kd)(ds:List Int)(x y z:Option Sl),fs=[vl (.zX (ns.map T.int)),some (.own (.lst (ds.map T.int))),iv m,vl (.lst (names.map T.str)),vl (.lst (makers.map T.str)),some (.own (.lst (K.map BP))),iv (used K:Nat),x,y,z]/\K.length=P.length/\KOk names makers K/\used K<=w*P.length/\149<=ds.length+13*P.length/\Fre x/\Fre y/\Fre z)
 case hi=>exact Mg (by trivial) rfl (by lia)
 case h0=>exact⟨[],ds,none,none,none,rfl,rfl,.nil,by simp[used],by simp at hd;simp;lia,True.intro,True.intro,True.intro⟩
 case k =>
  rintro _ ⟨K,ds,x,y,z,rfl,hK,ko,hu,hd,fx,fy,fz⟩
  trivial;exact Yj rfl ⟨K,rfl,by simpa using hK,ko,by simp at hu;lia⟩
 case st =>
  rintro P k R _ e ⟨K,ds,x,y,z,rfl,hK,ko,hu,hd,fx,fy,fz⟩
  obtain⟨rfl,hk⟩:=Fh e;obtain⟨ds,v,rfl,hv⟩:=OE (xs:=ds) (by lia);rw[nU];have v0:=pd v (b:=w) (by lia);have v1:=oZ v (b:=w) (by lia);simp at hd hv;have hw:used K+w<=12:=oB (show used K+w<=w*(P.length+1) by rw[Nat.mul_succ];lia) (oB (Nat.mul_le_mul_left w hk) wm);trivial;apply Bb (I:=λQ fs=>∃(rows:List (Str×List Str))(es:List Int)(y:Option Sl),fs=[vl (.zX (ns.map T.int)),some (.own (.lst (es.map T.int))),iv m,vl (.lst (names.map T.str)),vl (.lst (makers.map T.str)),some (.own (.lst (K.map BP))),iv (used K+rows.length:Nat),iv P.length,some (.own (.lst (rows.map IV))),y]/\rows.length=Q.length/\Rows names makers P.length (used K) rows/\es.length+3*Q.length=ds.length/\Fre y) (xs:=List.range (1+(v%w).toNat)) (p:=λi=>T.int (i:Nat))
  case hi=>exact Mg (by trivial) (by lia) (by lia)
  case h0=>exact⟨[],ds,z,rfl,rfl,.nil,rfl,fz⟩
  case st =>
   rintro Q k R' _ e' ⟨rows,es,y,rfl,hr,ro,he,fy⟩
   obtain⟨rfl,dk⟩:=Fh e';obtain⟨es,z1,z2,z3,ee,le⟩:=last3 (ds:=es) (by lia);obtain⟨_,τ,ep,ps,rfl,p2,pm,pt⟩:=Z5 (names:=names) (at':=P.length) (first:=decide ((Q.length:Int)=0)) (pu:=es.map T.int) (z1:=z1) (z2:=z2) (z3:=z3) (by lia);have:=hg makers (used K+rows.length) (by lia);rw[ee];trivial;exact⟨rows++[(makers.getD (used K+rows.length) ⟨#[]⟩,ps)],es,_,by rw[nU,oi];rfl,by simp[hr],ro.snoc p2 (by simpa[hr]using pm),by simp;lia,Ak⟩
  case k =>
   rintro _ ⟨rows,es,y,rfl,hr,ro,he,fy⟩
   have:=hg names P.length (by lia);simp at hr he;trivial;have kk:=ko.snoc (rows:=rows) (by lia) (by lia) (by rw[hK];exact ro);rw[hK]at kk;exact⟨_,es,_,_,_,by rw[IM,nU];rfl,by simp[hK],kk,by simp[IM,Nat.mul_succ];lia,by simp at he ⊢;lia,Ak,Ak,fy⟩
theorem YZ(eA:(K.map (·.1)).Nodup)(hl:K.length<=100):∃τ,Ig [vl (.lst (K.map BP))]=.ok (.nw (.n (Cc K) (NJ K))) τ:=by
 apply ZE;trivial;apply Bb (I:=λD fs=>∃x y,fs=[vl (.lst (K.map BP)),some (.own (.n (Cc D) (NJ D))),x,y]/\Fre x/\Fre y)
 case hi=>trivial
 case h0=>exact⟨none,none,rfl,True.intro,True.intro⟩
 case k =>
  rintro _ ⟨x,y,rfl,fx,fy⟩
  trivial;exact Yj rfl rfl
 case st =>
  rintro D kd R _ e ⟨x,y,rfl,fx,fy⟩
  have h1:=Wq e eA;have h2:=(MG e).1;have h3:(Cc D).length<1000000:=by simp[Cc];lia
  trivial;exact⟨_,_,by unfold Cc NJ;rw[nU,nU];rfl,Ak,Ak⟩
theorem Ex.dpm:∀{es:List Ex},e∈es->e.dp<=Ex.dps es
 |g::gs,m=>by
  rw[Ex.dps];rcases oh.mp m with rfl|m
  .lia
  .have:=Ex.dpm m;lia
theorem Xks.mem{hd:Str->Option (List Str×Str)}:∀{es:List Ex}{qs:List Str},Xks K hd xs ks es qs->e∈es->∃q,Xk K hd xs ks e q
 |g::gs,q::qs,h,m=>by
  rcases oh.mp m with rfl|m
  .exact⟨q,h.1⟩
  .exact h.2.mem m
 | [],_,_,m=>nomatch m
 |_::_,[],h,_=>h.elim
theorem Th.Gk:∀{hs:List Th},(∀h∈hs,h.dp<=q)->Th.dps hs<=q
 | [],_=>by rw[Th.dps];lia
 |h::hs,H=>by
  rw[Th.dps];have:=H h n4;have:=Th.Gk λh m=>H h (nZ _ m)
  lia
theorem Th.FJ:∀{hs:List Th},(∀h∈hs,h.sz<=q)->Th.szs hs<=hs.length*q
 | [],_=>by rw[Th.szs];lia
 |h::hs,H=>by
  rw[Th.szs,n8,Nat.succ_mul];have:=H h n4;have:=Th.FJ λh m=>H h (nZ _ m)
  lia
section
variable{FT:T}{K:Kd}{rw:Str->Str->Option (List Str×Ex)}{B:List Str->List Th->Ex->Nat->Option (Th×Nat)}{ok:Bool}{xs:List Str}{hs:List Th}{aZ N M:Nat}{hd:Str->Option (List Str×Str)}{S:Nat}{ks:List Str}
theorem lE(P:Te K hd rw S)(bw:∀f m ys b,rw f m=some (ys,b)->∃τ,CF [vl FT,vl (tF K),vl (.str f),vl (.str m)]=.ok (.t (.tup [.tup (ys.map .str),b.t])) τ)(hT:Tks K hs ks)(hz:∀h∈hs,Ft h)(ho:ok=true↔aZ<=20)
  (It:∀ys gs qs b n k v n',Tks K gs qs->(∀h∈gs,Ft h)->Xk K hd ys qs b k->B ys gs b n=some (v,n')->Tk K v k/\Ft v)
  (IH:ok=true->∀ys gs qs b n k,Tks K gs qs->(∀h∈gs,Ft h)->Xk K hd ys qs b k->b.dp<=7->∀N,M<=N->LE FT K N ys gs (aZ+1) b n (B ys gs b n)) :
  ∀(N:Nat)(e:Ex)(k:Str)(n:Nat),M+e.dp<=N->Xk K hd xs ks e k->LE FT K N xs hs aZ e n (wE rw B ok xs hs e n)
 |N+1,.nm x,k,n,l,h=>by
  obtain⟨v,e,t,m⟩:=hT.at h;have h0:By (xs.map λx=>(.inr x:Key)) (hs.map Th.t) (.inr x:Key)=some v.t:=by rw[Ht,e];rfl
  simp only[wE,e,pA]
  suffices q:∃t τ,AM (N+1) [vl FT,vl (tF K),vl (UM xs hs),vl (Ex.nm x).t,iv aZ,bn n]=.ok (.t t) τ/\(t=v.t/\τ[5]?=some (bn n)) by obtain⟨_,τ,e1,rfl,e2⟩:=q;exact⟨_,τ,n,e1,e2,rfl,rfl⟩
  apply EM;unfold Fw UM;rw[Ex.t];trivial
  .exact IY ⟨rfl,rfl⟩
  .intro h;simp at h
 |N+1,.mk m es,k,n,l,h=>by
  obtain⟨kd,hk,rfl,qs,hm,hX⟩:=h;rw[Ex.dp]at l;have h2:=P.two kd hk _ hm;have hl:=hX.len;simp only at h2;have H:∀e∈es,∀n,LE FT K N xs hs aZ e n (wE rw B ok xs hs e n):=λe me n=>by obtain⟨q,hq⟩:=hX.mem me;exact lE P bw hT hz ho It IH N e q n (by have:=Ex.dpm me;lia) hq
  have h1:¬("make":Str)="name":=by decide +kernel
  suffices q:∃t τ,AM (N+1) [vl FT,vl (tF K),vl (UM xs hs),vl (Ex.mk m es).t,iv aZ,bn n]=.ok (.t t) τ/\∃m',τ[5]?=some (bn m')/\RO (wE rw B ok xs hs (.mk m es) n) t m' by obtain⟨t,τ,e1,m',e2,r⟩:=q;exact⟨t,τ,m',e1,e2,r⟩
  apply EM;unfold Fw;rw[Ex.t,Ex.AR];trivial;apply NQ
  .trivial
  rcases J4 es n [] none none True.intro True.intro (by simp;lia) H with⟨vs,n',z7,z8,w,f7,f8,lp⟩|⟨w,τ,m',lp,e5⟩
  .refine .inl ⟨_,lp,?_⟩;have tv:=tL P hT hz It es qs n vs n' hX w;have ja:=tv.1.len;have je:(Th.mk m vs).dp<=60:=by rw[Th.dp];have:=Th.Gk λv mv=>(tv.2 v mv).2;lia
   have gD:(Th.mk m vs).sz<=900:=by rw[Th.sz];have:=Th.FJ λv mv=>(tv.2 v mv).1;lia
   have sz:=size_of 60 (.mk m vs) je gD;obtain⟨_,s1⟩:=sz;have dz:=LY 60 (.mk m vs) je gD;obtain⟨_,s2⟩:=dz;rw[Th.t,Th.AR]at s1 s2;have key:(decide ((300:Int)<((Th.mk m vs).sz:Int))||decide ((40:Int)<((Th.mk m vs).dp:Int)))=!fits (.mk m vs):=by unfold fits;by_cases a:(Th.mk m vs).sz<=300<;>by_cases b:(Th.mk m vs).dp<=40<;>simp[a,b]<;>lia
   unfold LL;rw[qf];trivial
   .apply FR
    .apply Ha
     .trivial
     .trivial
    .intro hk;have f:=by rw[key]at hk;simpa using hk
     trivial;exact IY ⟨n',rfl,by simp only[wE,w,f];rfl⟩
    .intro hk;have f:=by rw[key]at hk;simpa using hk
     trivial;exact IY ⟨n',rfl,by simp only[wE,w,f,if_true];exact⟨by rw[Th.t,Th.AR],rfl⟩⟩
   .intro h;simp at h
  .refine .inr ⟨_,τ,lp,IY ⟨m',?_,?_⟩⟩
   .rw[pG];exact e5
   .simp only[wE,w];rfl
 |N+1,.cl f es,k,n,l,h=>by
  obtain⟨qs,hh,hX⟩:=h;rw[Ex.dp]at l;obtain⟨ne,h3⟩:=P.arg f qs k hh;have hl:=hX.len;have H:∀e∈es,∀n,LE FT K N xs hs aZ e n (wE rw B ok xs hs e n):=λe me n=>by obtain⟨q,hq⟩:=hX.mem me;exact lE P bw hT hz ho It IH N e q n (by have:=Ex.dpm me;lia) hq
  have h1:¬("call":Str)="name":=by decide +kernel
  have h2:¬("call":Str)="make":=by decide +kernel
  suffices q:∃t τ,AM (N+1) [vl FT,vl (tF K),vl (UM xs hs),vl (Ex.cl f es).t,iv aZ,bn n]=.ok (.t t) τ/\∃m',τ[5]?=some (bn m')/\RO (wE rw B ok xs hs (.cl f es) n) t m' by obtain⟨t,τ,e1,m',e2,r⟩:=q;exact⟨t,τ,m',e1,e2,r⟩
  apply EM;unfold Fw;rw[Ex.t,Ex.AR];trivial;apply NQ
  .trivial
  rcases J4 es n [] none none True.intro True.intro (by simp;lia) H with⟨vs,n',z7,z8,w,f7,f8,lp⟩|⟨w,τ,m',lp,e5⟩
  .refine .inl ⟨_,lp,?_⟩;have tv:=tL P hT hz It es qs n vs n' hX w;cases vs with
   |nil=>exact absurd tv.1.len.symm (by cases qs with|nil=>exact absurd rfl ne|cons _ _=>simp)
   |cons u r =>
    cases qs with
    |nil=>exact absurd rfl ne
    |cons q0 qs =>
    obtain⟨m,ps⟩:=u;obtain⟨⟨⟨kd,hk,hq,pk,hm,tp⟩,tr⟩,z⟩:=tv;obtain⟨ys,bd,er,nd,yl,bX,bS,bD⟩:=P.row f q0 qs k kd m pk hh hk hq hm;obtain⟨_,r1⟩:=bw f m ys bd er;unfold LL;rw[qf,nQ,Th.t,Th.AR];trivial;apply FR
    .apply Ha
     .trivial
     .trivial
    .intro hx;trivial;refine IY ⟨_,rfl,?_⟩;simp only[wE,w];cases n' with
     |zero=>rfl
     |succ n1 =>
      have o:¬ok=true:=λo=>by
       have:=ho.mp o;simp at hx
       lia
      simp only[o];rfl
    .intro hx;simp at hx;have o:=ho.mpr (by lia);obtain⟨n1,rfl⟩:∃n1,n'=n1+1:=⟨n'-1,by lia⟩
     have mz:=z (.mk m ps) (by simp);unfold Ft at mz;rw[Th.sz,Th.dp]at mz;obtain⟨t2,bq,m2,i1,i2,i3⟩:=IH o ys (ps++r) (pk++qs) bd n1 k (tp.app tr) (λh m=>by
       rcases oM.mp m with m|m
       .have:=Th.szm m;have:=Th.dpm m;unfold Ft
        lia
       .exact z h (by simp[m])) bX bD N (by lia)
     have el:ys.length=(ps++r).length:=by rw[yl,(tp.app tr).len]
     have e1:((n1+1:Nat):Int)-1=(n1:Int):=by lia
     unfold UM at i1;rw[nU]at i1;have p2:=P.two kd hk _ hm;have pl:=tp.len;have rl:=tr.len;simp only[n8]at h3 p2;rw[e1];trivial
     .exact nd
     .rw[el];simp
     trivial;refine IY ⟨m2,rfl,?_⟩;simp only[wE,w];simp only[o,if_true,er];exact i3
  .refine .inr ⟨_,τ,lp,IY ⟨m',?_,?_⟩⟩
   .rw[pG];exact e5
   .simp only[wE,w];rfl
 |0,e,k,n,l,h=>by cases e<;>(rw[Ex.dp]at l;lia)
theorem lW(P:Te K hd rw S)(bw:∀f m ys b,rw f m=some (ys,b)->∃τ,CF [vl FT,vl (tF K),vl (.str f),vl (.str m)]=.ok (.t (.tup [.tup (ys.map .str),b.t])) τ):∀(l aZ:Nat),aZ+l=21->∀(xs:List Str)(hs:List Th)(ks:List Str)(e:Ex)(n:Nat)(k:Str),Tks K hs ks->(∀h∈hs,Ft h)->Xk K hd xs ks e k->e.dp<=7->∀N,7*l+7<=N->LE FT K N xs hs aZ e n (wW rw l xs hs e n)
 |0,aZ,dl,xs,hs,ks,e,n,k,t,z,x,q,N,hN=>lE (M:=0) P bw t z (by simp;lia) (λ_ _ _ _ _ _ _ _ _ _ _ h=>by cases h) (λh=>by cases h) N e k n (by lia) x
 |l+1,aZ,dl,xs,hs,ks,e,n,k,t,z,x,q,N,hN=>lE P bw t z (by simp;lia) (λys gs qs b n k v n' t z x q=>tW P l ys gs qs b n k v n' t z x q) (λ_ ys gs qs b n k t z x hb N hN=>lW P bw l (aZ+1) (by lia) ys gs qs b n k t z x hb N hN) N e k n (by lia) x
end
mutual
def Ow(own:Str)(ls:List Str):Ex->Prop
 |.nm _=>True
 |.mk _ es=>Ows own ls es
 |.cl f es=>(f=own->∃x∈ls,es[0]?=some (.nm x))/\Ows own ls es
def Ows(own:Str)(ls:List Str):List Ex->Prop
 | []=>True
 |e::es=>Ow own ls e/\Ows own ls es
end
mutual
theorem Xk.ty:∀{e:Ex}{k:Str}{n:Nat},Xk K hd xs ks e k->Ow own ls e->e.dp<=n->Ty K (λx k=>lkp xs ks x=some k) (λf ps k ts=>hd f=some (ps,k)/\(f=own->∃x∈ls,ts[0]?=some (exN x))) n e.t k
 |.nm x,k,n+1,h,_,_=>.inl ⟨x,h,by rw[Ex.t];rfl⟩
 |.mk m es,k,n+1,h,o,l=>by obtain⟨kd,hk,e,qs,hm,hX⟩:=h;rw[Ex.dp]at l;exact .inr (.inl ⟨m,qs,es.map Ex.t,⟨kd,hk,e,hm⟩,Xks.ty hX o (by lia),by rw[Ex.t,Ex.AR];rfl⟩)
 |.cl f es,k,n+1,h,o,l=>by obtain⟨qs,hh,hX⟩:=h;rw[Ex.dp]at l;refine .inr (.inr ⟨f,qs,es.map Ex.t,⟨hh,λe=>?_⟩,Xks.ty hX o.2 (by lia),by rw[Ex.t,Ex.AR];rfl⟩);obtain⟨x,mx,e0⟩:=o.1 e;exact⟨x,mx,by rw[ou,e0];simp only[pA,Ex.t];rfl⟩
 |.nm x,_,0,_,_,l=>by rw[Ex.dp]at l;lia
 |.mk m es,_,0,_,_,l=>by rw[Ex.dp]at l;lia
 |.cl f es,_,0,_,_,l=>by rw[Ex.dp]at l;lia
theorem Xks.ty:∀{es:List Ex}{qs:List Str}{n:Nat},Xks K hd xs ks es qs->Ows own ls es->Ex.dps es<=n->F2 (Ty K (λx k=>lkp xs ks x=some k) (λf ps k ts=>hd f=some (ps,k)/\(f=own->∃x∈ls,ts[0]?=some (exN x))) n) (es.map Ex.t) qs
 | [],[],_,_,_,_=>.nil
 |e::es,q::qs,n,h,o,l=>by rw[Ex.dps]at l;exact .cons (Xk.ty h.1 o.1 (by lia)) (Xks.ty h.2 o.2 (by lia))
end
theorem Xks.of(h:F2 (λq e=>Xk K hd xs ks e q) qs es):Xks K hd xs ks es qs:=by induction h with|nil=>exact True.intro|cons h _ ih=>exact⟨h,ih⟩
theorem Ows.of:∀{es:List Ex},(∀e∈es,Ow own ls e)->Ows own ls es
 | [],_=>True.intro
 |e::es,h=>⟨h e n4,Ows.of λe m=>h e (nZ _ m)⟩
theorem F2.right(h:F2 R as bs):∀b∈bs,∃a∈as,R a b:=by
 induction h with
 |nil=>exact λ_ m=>nomatch m
 |cons h _ ih =>
  intro b m;rcases oh.mp m with rfl|m
  .exact⟨_,n4,h⟩
  .obtain⟨a,ma,r⟩:=ih b m;exact⟨a,nZ _ ma,r⟩
theorem Ex.Gk:∀{es:List Ex},(∀e∈es,e.dp<=q)->Ex.dps es<=q
 | [],_=>by rw[Ex.dps];lia
 |e::es,H=>by
  rw[Ex.dps];have:=H e n4;have:=Ex.Gk λe m=>H e (nZ _ m)
  lia
theorem Ex.FJ:∀{es:List Ex},(∀e∈es,e.sz<=q)->Ex.szs es<=es.length*q
 | [],_=>by rw[Ex.szs];lia
 |e::es,H=>by
  rw[Ex.szs,n8,Nat.succ_mul];have:=H e n4;have:=Ex.FJ λe m=>H e (nZ _ m)
  lia
def lsz:Nat->Nat
 |0=>2
 |d+1=>2+2*lsz d
theorem LA:∀{a b:Nat},a<=b->lsz a<=lsz b
 |0,0,_=>n9 _
 |0,b+1,_=>by show 2<=2+2*lsz b;lia
 |a+1,b+1,h=>by have:=LA (a:=a) (b:=b) (by lia);show 2+2*lsz a<=2+2*lsz b;lia
 |a+1,0,h=>absurd h (by lia)
theorem least(W:Well K):∀(d n:Nat),d<n->∀D kd R,D++kd::R=K->D.length<=d->∃e:Ex,(∃τ,El n [vl (tF K),vl (.str kd.1)]=.ok (.t e.t) τ)/\(∀hd xs ks,Xk K hd xs ks e kd.1)/\(∀own ls,Ow own ls e)/\e.sz<=lsz d/\e.dp<=d+1
 |d,n+1,hn,D,kd,R,e,hd=>by
  have hk:=mem_mid e;have h0:=DA W hk;obtain⟨r,rs,er⟩:=pN (W.rw kd hk).1;have hr:r∈kd.2:=by rw[er];exact n4
  have h2:=W.two kd hk r hr;obtain⟨vs,hv⟩:∃vs:List Ex,F2 (λp v=>(∃τ,El n [vl (tF K),vl (.str p)]=.ok (.t v.t) τ)/\(∀hd xs ks,Xk K hd xs ks v p)/\(∀own ls,Ow own ls v)/\2+2*v.sz<=lsz d/\v.dp<=d) r.2 vs:=JbW λp mp=>by
   have mp:=W.gr D kd R e.symm r (by rw[er];rfl) p mp;obtain⟨kp,mk,rfl⟩:=oo.mp mp;obtain⟨A,B,rfl⟩:=oY mk;rw[oi,n8]at hd;obtain⟨d,rfl⟩:∃e,d=e+1:=⟨d-1,by lia⟩
   obtain⟨v,a1,a2,a3,a4,a5⟩:=least W d n (by lia) A kp (B++kd::R) (by rw[<- e];simp) (by lia);exact⟨v,a1,a2,a3,by show 2+2*v.sz<=2+2*lsz d;lia,a5⟩
  have hlen:=hv.len;refine⟨.mk r.1 vs,?_,λhd xs ks=>⟨kd,hk,rfl,r.2,hr,Xks.of (hv.imp λ_ _ h=>h.2.1 hd xs ks)⟩,λown ls=>Ows.of λe m=>by obtain⟨p,_,h⟩:=hv.right e m;exact h.2.2.1 own ls,?_,?_⟩
  .rw[er]at h0;apply Cd;unfold L9;rw[Ex.t,Ex.AR];trivial
   .apply Jb7
    .trivial
    .exact(hv.imp λp v ⟨⟨_,h⟩,_⟩=>by trivial).map_r
    .lia
   trivial
  .rw[Ex.sz];have l2:=LA (pf d);have l2:2<=lsz d:=l2;have q:=Ex.FJ (q:=(lsz d-2)/2) λe m=>by obtain⟨p,_,h⟩:=hv.right e m;have:=h.2.2.2.1;lia
   have q2:=pT ((lsz d-2)/2) (show vs.length<=2 by lia)
   lia
  .rw[Ex.dp];have:=Ex.Gk λe m=>by obtain⟨p,_,h⟩:=hv.right e m;exact h.2.2.2.2
   lia
theorem U9(h1:it fs=.ok ts ae)(hs:Src ae src)(hc:A9 gt ft fe ts (Bx ae (src.map λo=>o.elim Ini.no Ini.slot)) []=some (us,τ)):AL true src it gt ft fe fs=.ok (.nw (.lst us)) ae:=by unfold Src at hs;unfold AL;rw[h1];show(if _ then _ else _)=_;rw[if_pos ⟨by rw[hs.1];exact oS,hs.2⟩,hc];show(match Cb _ τ ae with|some ak=>_|none=>_)=_;rw[AU hs.1];rfl
theorem neE:IF true (.t (.lst (ls.map T.str))) (.t (.lst [])) fs=.ok (.t (.v (decide (ls≠[])))) fs:=by with_unfolding_all (cases ls<;>rfl)
inductive Ch where
 |nm (x:Str)|mk (m:Str) (ps:List Str)|cl (f:Str) (ps:List Str)
def Ch.t:Ch->T
 |.nm x=>.tup [.str "name",.str x]
 |.mk m ps=>.tup [.str "make",.str m,.tup (ps.map .str)]
 |.cl f ps=>.tup [.str "call",.str f,.tup (ps.map .str)]
structure Dr where
 K:Kd
 N:List (Str×Str)
 C:List (Str×List Str×Str)
 CT:T
 on:Str
 yN:List Str
 ok:Str
 zp:List Str
abbrev pnT(p:Str×Str):T:=.tup [.str p.1,.str p.2]
abbrev cT(c:Str×List Str×Str):T:=.tup [.str c.1,.tup (c.2.1.map .str),.str c.2.2]
abbrev Dr.own(d:Dr):T:=.tup [.str d.on,.tup (d.yN.map .str),.str d.ok,.lst (d.zp.map .str)]
abbrev Dr.known(d:Dr):T:=.lst (d.N.map pnT)
def ChOk(d:Dr)(kd:Str×List (Str×List Str)):Ch->Prop
 |.nm x=>(x,kd.1)∈d.N
 |.mk m ps=>(m,ps)∈kd.2
 |.cl f ps=>(f,ps,kd.1)∈d.C\/f=d.on/\ps=d.yN/\d.ok=kd.1/\d.zp≠[]
def Chs(d:Dr)(kd:Str×List (Str×List Str))(n:Nat)(t:List T):Prop:=∃cs:List Ch,t=cs.map Ch.t/\(∀c∈cs,ChOk d kd c)/\cs.length<=n
theorem Chs.add(h:Chs d kd n t)(e:u=c.t)(hc:ChOk d kd c):Chs d kd (n+1) (t++[u]):=by
 obtain⟨cs,rfl,h1,h2⟩:=h;refine⟨cs++[c],by rw[nU,e];rfl,λx m=>?_,by simp;lia⟩;rcases oM.mp m with m|m
 .exact h1 x m
 .rwa[oE.mp m]
theorem Chs.mono(h:Chs d kd n t)(l:n<=m):Chs d kd m t:=by obtain⟨cs,e,h1,h2⟩:=h;exact⟨cs,e,h1,by lia⟩
theorem Chs.len(h:Chs d kd n t):t.length<=n:=by obtain⟨cs,rfl,_,h⟩:=h;simpa using h
theorem XQ(W:Well d.K)(hk:kd∈d.K)(lN:d.N.length<=100)(lC:d.C.length<=100)(hC:d.CT=.lst (d.C.map cT)\/d.CT=.tup (d.C.map cT)\/d.CT=.zX (d.C.map cT)):
  ∃o τ,EG [vl (tF d.K),vl d.known,vl d.CT,vl d.own,vl (.str kd.1)]=.ok (.nw o) τ/\∃cs,o=.lst cs/\Chs d kd 300 cs/\cs≠[]:=by
 have h0:=DA W hk;have h4:=W.rw kd hk;apply Ll;trivial
 .apply U9
  .trivial
  .trivial
  .apply KP (q:=λp=>(Ch.nm p.1).t)
   .trivial
   .trivial
   .exact λ_=>rfl
   .intro p mp;trivial
   .intro p mp hb;unfold Ch.t;trivial
   .lia
 trivial;apply Bb (I:=λD fs=>∃ts y6 y7,fs=[vl (tF d.K),vl d.known,vl d.CT,vl d.own,vl (.str kd.1),some (.own (.lst ts)),y6,y7,none,none,none]/\Chs d kd (100+D.length) ts/\(D≠[]->ts≠[])/\Fre y6/\Fre y7)
 case hi=>trivial
 case h0 =>
  refine⟨_,_,_,rfl,⟨(d.N.filter λp=>decide (p.2=kd.1)).map λp=>.nm p.1,by rw[om];rfl,λc m=>?_,?_⟩,λh=>absurd rfl h,True.intro,True.intro⟩
  .obtain⟨p,mp,rfl⟩:=oo.mp m;obtain⟨mp,hp⟩:=pL.mp mp;show(p.1,kd.1)∈d.N;rw[<- oj hp];exact mp
  .have:=List.length_filter_le (λp:Str×Str=>decide (p.2=kd.1)) d.N;simp
   lia
 case st =>
  rintro D r R _ e ⟨ts,y6,y7,rfl,hc,_,f6,f7⟩
  have hD:=D1 e;have hl:=hc.len;trivial;exact⟨_,_,_,rfl,(hc.add (c:=.mk r.1 r.2) rfl (mem_mid e)).mono (by simp;lia),by simp,Ak,Ak⟩
 case k =>
  rintro _ ⟨ts,y6,y7,rfl,hc,aW,f6,f7⟩
  have aW:=aW (by intro h;rw[h]at h4;simp at h4);have hl:=hc.len;apply Bb (I:=λD fs=>∃ts y8 y9 bC,fs=[vl (tF d.K),vl d.known,vl d.CT,vl d.own,vl (.str kd.1),some (.own (.lst ts)),y6,y7,y8,y9,bC]/\Chs d kd (110+D.length) ts/\ts≠[]/\Fre y8/\Fre y9/\Fre bC)
  case hi =>
   apply U4
   .trivial
   .exact hC
  case h0=>exact⟨_,_,_,_,rfl,hc.mono (by simp;lia),aW,True.intro,True.intro,True.intro⟩
  case st =>
   rintro D c R _ e ⟨ts,y8,y9,bC,rfl,hc,aW,f8,f9,f10⟩
   have hD:=D1 e;have hl:=hc.len;trivial
   .have hh:=oj ‹decide (c.2.2=kd.1)=true›;refine⟨_,_,_,_,rfl,(hc.add (c:=.cl c.1 c.2.1) rfl (.inl ?_)).mono (by simp;lia),by simp,Ak,Ak,Ak⟩;rw[<- hh];exact mem_mid e
   .intro _;trivial;exact⟨_,_,_,_,rfl,hc.mono (by simp),aW,Ak,Ak,Ak⟩
  case k =>
   rintro _ ⟨ts,y8,y9,bC,rfl,hc,aW,f8,f9,f10⟩
   have hl:=hc.len;apply NR (J:=λts=>[vl (tF d.K),vl d.known,vl d.CT,vl d.own,vl (.str kd.1),some (.own (.lst ts)),y6,y7,y8,y9,bC]) (P:=λts=>Chs d kd 300 ts/\ts≠[])
   .apply IB
    .trivial
    .trivial;exact neE
   .intro hh;simp at hh;refine⟨_,⟨(hc.add (c:=.cl d.on d.yN) rfl (.inr ⟨rfl,rfl,hh.1,hh.2⟩)).mono (by lia),by simp⟩,?_⟩;apply Eq.trans
    .trivial
    .rfl
   .intro _;exact⟨_,⟨hc.mono (by lia),aW⟩,rfl⟩
   .rintro ts ⟨hc,aW⟩
    trivial;exact Yj rfl ⟨_,rfl,hc,aW⟩
theorem eqE:IF false (.t (.lst (ls.map p))) (.t (.lst [])) fs=.ok (.t (.v (decide (ls=[])))) fs:=by with_unfolding_all (cases ls<;>rfl)
theorem JaI{L:List α}(hL:L≠[])(p:α->T)(x:Int):∃a∈L,atI (L.map p) (-1-x%((L.map p).length:Int))=some (p a):=by
 have h0:=o9.mpr hL;have h1:=pd x (show((L.map p).length:Int)≠0 by simp;lia);have h2:=oZ x (show(0:Int)<((L.map p).length:Int) by simp;lia);generalize x%((L.map p).length:Int)=m at h1 h2 ⊢;rw[nX]at h2;have hj:L.length-1-m.toNat<L.length:=by lia
 refine⟨L[L.length-1-m.toNat],pY hj,?_⟩;have e1:ixN (L.map p).length (-1-m)=some (L.length-1-m.toNat):=by
  unfold ixN;rw[nX,if_neg (by lia),if_pos (by lia)];congr 1
  lia
 unfold atI;rw[e1,oH,ou,nO hj];rfl
theorem neg1:Yl (gc (.int 1)) fs=.ok (.t (.int (-1))) fs:=by with_unfolding_all rfl
theorem Km(e:D++a::R=List.range n):a=D.length/\D.length<n:=by
 have l:=congrArg List.length e;rw[oi,n8,o8]at l;have h:D.length<n:=by lia
 have g:(D++a::R)[D.length]?=(List.range n)[D.length]?:=by rw[e]
 rw[List.getElem?_append_right (n9 _),Nat.sub_self,qC,pO h]at g;exact⟨Option.some.inj g,h⟩
def Ch.hd:Ch->Str
 |.nm _=>"name"
 |.mk _ _=>"make"
 |.cl _ _=>"call"
theorem Ch.t_hd(c:Ch):∃ts,c.t=.tup (.str c.hd::ts):=by cases c<;>exact⟨_,rfl⟩
theorem Ch.nm_of{c:Ch}(h:c.hd="name"):∃x,c=.nm x:=by cases c with|nm x=>exact⟨x,rfl⟩|mk _ _=>exact absurd h Hj.1|cl _ _=>exact absurd h Hj.2.1
def pp:Nat->Nat
 |0=>1
 |d+1=>1+3*pp d
def esz:Nat->Nat
 |0=>30
 |d+1=>2+3*esz d
theorem NY(d:Nat):1<=pp d:=by cases d<;>simp[pp]
theorem LU:∀d:Nat,30<=esz d
 |0=>n9 _
 |d+1=>by have:=LU d;show 30<=2+3*esz d;lia
structure DrOk(d:Dr)(hd:Str->Option (List Str×Str))(xs ks:List Str):Prop where
 W:Well d.K
 lN:d.N.length<=100
 lC:d.C.length<=100
 lO:d.zp.length<=100
 CT:d.CT=.lst (d.C.map cT)\/d.CT=.tup (d.C.map cT)\/d.CT=.zX (d.C.map cT)
 nN:∀p∈d.N,lkp xs ks p.1=some p.2
 cC:∀c∈d.C,hd c.1=some (c.2.1,c.2.2)/\c.1≠d.on/\c.2.1.length<=3/\∀q∈c.2.1,q∈d.K.map (·.1)
 oC:d.zp≠[]->hd d.on=some (d.yN,d.ok)/\d.yN.length<=3/\(∀q∈d.yN,q∈d.K.map (·.1))/\∃q qs,d.yN=q::qs/\∀x∈d.zp,lkp xs ks x=some q
def Dn(d:Dr)(hd:Str->Option (List Str×Str))(xs ks:List Str)(dn:Nat)(e:Ex)(k:Str):Prop:=Xk d.K hd xs ks e k/\Ow d.on d.zp e/\e.sz<=esz dn/\e.dp<=dn+4
theorem szA(h:F2 (λq e=>Dn d hd xs ks dn e q) ps args)(l:ps.length<=3):2+Ex.szs args<=esz (dn+1):=by
 have q:=Ex.FJ λe m=>by obtain⟨_,_,h⟩:=h.right e m;exact h.2.2.1
 have m3:args.length*esz dn<=3*esz dn:=pT _ (by rwa[<- h.len]);show 2+Ex.szs args<=2+3*esz dn
 lia
theorem dpA(h:F2 (λq e=>Dn d hd xs ks dn e q) ps args):1+Ex.dps args<=dn+1+4:=by
 have:=Ex.Gk λe m=>by obtain⟨_,_,h⟩:=h.right e m;exact h.2.2.2
 lia
theorem Px(O:DrOk d hd xs ks):∀(dn n:Nat),dn<n->∀kd∈d.K,∀ds:List Int,pp dn<=ds.length->∃t τ,Bj n [vl (tF d.K),vl d.known,vl d.CT,vl d.own,vl (.str kd.1),some (.bor (.lst (ds.map T.int))),iv dn]=.ok (.t t) τ/\∃es:List Int,τ[5]?=some (some (.bor (.lst (es.map T.int))))/\ds.length<=es.length+pp dn/\∃e,t=e.t/\Dn d hd xs ks dn e kd.1
 |dn,n+1,hn,kd,hk,ds,hp=>by
  obtain⟨_,_,c1,cs,rfl,⟨jd,rfl,cu,jT⟩,aW⟩:=XQ O.W hk O.lN O.lC O.CT;obtain⟨ds,x,rfl⟩:∃fj x,ds=fj++[x]:=⟨ds.dropLast,ds.getLast (by intro h;rw[h]at hp;cases dn<;>simp[pp]at hp),(oG _).symm⟩
  rw[nU];apply EM;unfold Eo;apply Bl
  .trivial
  apply Bl
  .trivial
  apply NR (J:=λcs:List Ch=>[vl (tF d.K),vl d.known,vl d.CT,vl d.own,vl (.str kd.1),some (.bor (.lst (ds.map T.int))),iv dn,vl (.lst (cs.map Ch.t)),iv x,none,none,none]) (P:=λcs=>(∀c∈cs,ChOk d kd c)/\cs.length<=300/\(dn=0->∀c∈cs,∃x,c=.nm x))
  .trivial
  .intro hh;have h0:=by simpa using hh
   refine⟨jd.filter λc=>decide (c.hd="name"),⟨λc m=>cu c (pL.mp m).1,oB (List.length_filter_le ..) jT,λ_ c m=>Ch.nm_of (oj (pL.mp m).2)⟩,?_⟩;apply Eq.trans
   .trivial
    .apply PV
     .trivial
     .intro c _;obtain⟨ts,e⟩:=c.t_hd;rw[e];trivial
     .intro c _ _;trivial
     .lia
    .trivial
   .rfl
  .intro hh;have h0:=by simpa using hh
   exact⟨jd,⟨cu,jT,λh=>absurd h h0⟩,rfl⟩
  rintro cs ⟨hc,lc,h0⟩
  rw[oi,oI]at hp;trivial
  .exact eqE
  .intro _;obtain⟨D,R,e⟩:=oY hk;have hD:D.length<=3:=by have:=O.W.hi;rw[e]at this;simp at this;lia
   obtain⟨e,⟨_,e1⟩,x1,o1,s1,d1⟩:=least O.W 3 4 (by lia) D kd R e.symm hD;trivial;refine IY ⟨ds,rfl,?_,e,rfl,x1 _ _ _,o1 _ _,?_,?_⟩
   .have:=NY dn;simp
    lia
   .have:=LU dn;have:e.sz<=30:=s1
    lia
   .lia
  .intro hh;have aW:=of_decide_eq_false hh;obtain⟨c,mc,ic⟩:=JaI aW Ch.t x;have g0:0<(cs.map Ch.t).length:=by rw[nX];exact o9.mpr aW
   have ok:=hc c mc;have key:(∃y,c=.nm y)\/∃aS f ps bf,dn=bf+1/\c.t=.tup [.str aS,.str f,.tup (ps.map .str)]/\¬aS="name"/\ps.length<=3/\(∀q∈ps,q∈d.K.map (·.1))/\(aS="call"/\f=d.on->d.zp≠[]/\∃q qs,ps=q::qs/\∀x∈d.zp,lkp xs ks x=some q) /\
     ∀args:List Ex,F2 (λq e=>Dn d hd xs ks bf e q) ps args->(aS="call"/\f=d.on->∃x∈d.zp,args[0]?=some (.nm x))->∃e,T.tup [.str aS,.str f,.tup (args.map Ex.t)]=e.t/\Dn d hd xs ks dn e kd.1:=by
    cases c with
    |nm y=>exact .inl ⟨y,rfl⟩
    |mk m ps =>
     cases dn with
     |zero=>obtain⟨_,e⟩:=h0 rfl _ mc;cases e
     |succ bf =>
      have two:=O.W.two kd hk _ ok;refine .inr ⟨"make",m,ps,bf,rfl,rfl,Hj.1,by simp at two;lia,O.W.yK kd hk _ ok,λh=>absurd h.1.symm Hj.2.2,λargs hF _=>⟨.mk m args,by rw[Ex.t,Ex.AR],⟨kd,hk,rfl,ps,ok,Xks.of (hF.imp λ_ _ h=>h.1)⟩,Ows.of λe m=>by obtain⟨_,_,h⟩:=hF.right e m;exact h.2.1,?_,?_⟩⟩
      .exact szA hF (by simp at two;lia)
      .exact dpA hF
    |cl f ps =>
     cases dn with
     |zero=>obtain⟨_,e⟩:=h0 rfl _ mc;cases e
     |succ bf =>
      have hx:hd f=some (ps,kd.1)/\ps.length<=3/\(∀q∈ps,q∈d.K.map (·.1))/\(f=d.on->d.zp≠[]/\∃q qs,ps=q::qs/\∀x∈d.zp,lkp xs ks x=some q):=by
       rcases ok with ok|⟨rfl,rfl,e,aW⟩
       .obtain⟨a1,a2,a3,a4⟩:=O.cC _ ok;exact⟨a1,a3,a4,λh=>absurd h a2⟩
       .obtain⟨a1,a2,a3,a4⟩:=O.oC aW;exact⟨e▸a1,a2,a3,λ_=>⟨aW,a4⟩⟩
      obtain⟨x1,x2,x3,x4⟩:=hx;refine .inr ⟨"call",f,ps,bf,rfl,rfl,Hj.2.1,x2,x3,λh=>x4 h.2,λargs hF ho=>⟨.cl f args,by rw[Ex.t,Ex.AR],⟨ps,x1,Xks.of (hF.imp λ_ _ h=>h.1)⟩,⟨λe=>ho ⟨rfl,e⟩,Ows.of λe m=>by obtain⟨_,_,h⟩:=hF.right e m;exact h.2.1⟩,?_,?_⟩⟩
      .exact szA hF x2
      .exact dpA hF
   rcases key with⟨y,rfl⟩|⟨aS,f,ps,bf,rfl,et,hf,lp,yT,hown,aN⟩
   .unfold Ch.t at ic;trivial
    .refine IY ⟨ds,rfl,?_,.nm y,by rw[Ex.t],O.nN (y,kd.1) ok,True.intro,?_,?_⟩
     .have:=NY dn;simp
      lia
     .have:=LU dn;rw[Ex.sz]
      lia
     .rw[Ex.dp]
      lia
    .intro h;simp at h
   .rw[et]at ic;trivial;apply Bb (I:=λD fs=>∃(args:List Ex)(es:List Int)(gU:Option Sl),fs=[vl (tF d.K),vl d.known,vl d.CT,vl d.own,vl (.str kd.1),some (.bor (.lst (es.map T.int))),iv ((bf+1:Nat):Int),vl (.lst (cs.map Ch.t)),iv x,vl (.tup [.str aS,.str f,.tup (ps.map .str)]),some (.own (.lst (args.map Ex.t))),gU]/\F2 (λq e=>Dn d hd xs ks bf e q) (ps.take D.length) args/\(aS="call"/\f=d.on->D≠[]->∃x∈d.zp,args[0]?=some (.nm x))/\ds.length<=es.length+D.length*pp bf/\Fre gU) (xs:=List.range ps.length)
    case hi =>
     trivial
     .simp
     .lia
    case h0=>exact⟨[],ds,none,rfl,.nil,λ_ h=>absurd rfl h,by simp,True.intro⟩
    case st =>
     rintro D a R _ e ⟨args,es,gU,rfl,hF,h1,hl,f11⟩
     obtain⟨rfl,ha⟩:=Km e;have lF:=hF.len;rw[oX,qd (by lia)]at lF;have e0:pp (bf+1)=1+3*pp bf:=rfl;have p1:=NY bf;have m2:D.length*pp bf<=2*pp bf:=pT _ (by lia);have fY:pp bf<=es.length:=by lia
     have tk:ps.take (D.length+1)=ps.take D.length++[ps[D.length]]:=by rw[pH ha]
     apply Zx
     .trivial
     apply q_if
     .apply IB
      .trivial
      .apply IB
       .trivial
       .trivial
     .intro hh;simp at hh;obtain⟨aW,q,qs,eq,hq⟩:=hown hh.2;obtain⟨es,y,rfl⟩:∃bp y,es=bp++[y]:=⟨es.dropLast,es.getLast (by intro h;rw[h]at fY;simp at fY;lia),(oG _).symm⟩
      obtain⟨z,mz,iz⟩:=Ge aW T.str y;have g1:0<(d.zp.map T.str).length:=by rw[nX];exact o9.mpr aW
      rw[nU];trivial;obtain⟨rfl,_⟩:=hh;have a0:=List.length_eq_zero_iff.mp (by rw[<- lF];rfl);subst a0;refine⟨[.nm z],es,_,by simp only[nQ,pF,Ex.t];rfl,?_,λ_ _=>⟨z,mz,rfl⟩,?_,Ak⟩
      .subst eq;refine .cons ⟨hq z mz,True.intro,?_,?_⟩ .nil
       .have:=LU bf;rw[Ex.sz]
        lia
       .rw[Ex.dp]
        lia
      .simp at hl ⊢
       lia
     .intro hh;obtain⟨kq,l7,ji⟩:=oo.mp (yT ps[D.length] (pY ha));obtain⟨_,e9,e1,kG,e2,l1,e',rfl,kr⟩:=Px O bf n (by lia) kq l7 es fY;have i0:atI (ps.map T.str) (D.length:Int)=some (.str kq.1):=AZ (by rw[ou,nO ha,ji];rfl);rw[show(bf:Int)=((bf+1:Nat):Int)-1 by lia]at e1;trivial;refine⟨args++[e'],kG,_,by rw[nU];rfl,?_,λhc _=>?_,?_,Ak⟩
      .rw[oi,oI,tk];exact hF.snoc (ji▸kr)
      .by_cases d0:D=[]
       .subst d0;simp[hc]at hh
       .obtain⟨z,mz,ez⟩:=h1 hc d0;have:=o9.mpr d0;exact⟨z,mz,by rw[qw (by lia)];exact ez⟩
      .rw[oi,oI,Nat.succ_mul]
       lia
    case k =>
     rintro _ ⟨args,es,gU,rfl,hF,h1,hl,f11⟩
     rw[o8,pQ]at hF;rw[o8]at hl;have e0:pp (bf+1)=1+3*pp bf:=rfl;have m3:ps.length*pp bf<=3*pp bf:=pT _ lp;have lF:=hF.len;obtain⟨e,te,ku⟩:=aN args hF λhc=>h1 hc (by obtain⟨_,q,qs,eq,_⟩:=hown hc;rw[eq];simp)
     trivial;refine IY ⟨es,rfl,?_,e,te,ku⟩;simp
     lia
theorem Yw(h1:fa fs=.ok (.t t) ae)(e1:Kk t=some ts)(h2:fb ae=.ok (.t u) aq)(e2:Kk u=some us):Yv fa fb fs=.ok (.nw (.lst (FL.pairs ts us))) aq:=by unfold Yv lstI itZ;rw[h1,BG (x:=.t t) True.intro,h2,BG (x:=.t u) True.intro];simp only[e1,e2];rfl
theorem U1(h:f fs=.ok (.t (tF K)) ae)(hl:K.length<64):Ad Jr (Ab f Af) fs=.ok (.nw (.lst ((So.srt (K.map (·.1))).map T.str))) ae:=by
 have e:CG ((Cc K).map J0)=some (K.map (·.1)):=by have:=DK (K.map (·.1));unfold Cc;rw[om];rwa[om]at this
 refine Bf (Bq h A2) ?_;show Vr (CG ((Cc K).map J0)) ae=_;rw[e];show(if _ then _ else _)=_;rw[if_pos (by rw[nX];exact hl)]
theorem CO:∀xs ys:List Str,FL.pairs (xs.map T.str) (ys.map T.str)=(xs.zip ys).map pnT
 | [],_=>by simp[FL.pairs]
 |_::_,[]=>by simp[FL.pairs]
 |x::xs,y::ys=>by simp only[nQ,FL.pairs,CO xs ys,List.zip_cons_cons]
theorem F9:∀{xs:List Str}{ks:List α},xs.Nodup->(x,k)∈xs.zip ks->lkp xs ks x=some k
 | [],_,_,m=>by simp at m
 |_::_,[],_,m=>by simp at m
 |y::ys,q::qs,nd,m=>by
  rw[oK]at nd;unfold lkp;rcases oh.mp m with e|m
  .cases e;rw[if_pos rfl]
  .rw[if_neg (λe=>nd.1 (by subst e;exact(qt m).1))];exact F9 nd.2 m
theorem YF(h:fs[i]?=some (some (.own (.lst ts)))):Ad AK (Ab (Aa i) Af) fs=.ok (.t (.int ts.length)) fs:=by
 refine Bf (CL (Cf h) True.intro A2) ?_;have e:Ja6 [.x i] fs=.ok (.t (.int ts.length)) fs:=by unfold Ja6;simp only[Bw,Aq,h];rfl
 unfold AK orC;rw[e]
theorem picks(iK:ss≠[])(lV:ss.length<=1000):∀(is:List T)(ds:List Int)(x:Option Sl)(ar:List T),Fre x->is.length<=ds.length->ar.length+is.length<=1000->∃us fj y,us.length=is.length/\(∀u∈us,u∈ss)/\ds.length=List.length fj+is.length/\A9 (tgN 0) C7 (Ag Ap (Aa 1) (Ag Cu (fz (Aw Gi (Aa 2) Af)) (Ad AK (Ab (Aa 1) Af)))) is [x,vl (.lst ss),some (.bor (.lst (ds.map T.int)))] ar=some (ar++us,[y,vl (.lst ss),some (.bor (.lst (List.map T.int fj)))])
 | [],ds,x,ar,_,_,_=>⟨[],ds,x,rfl,(λ_ m=>nomatch m),rfl,by simp[A9]⟩
 |i::is,ds,x,ar,fx,hd,ha=>by
  rw[n8]at hd ha;obtain⟨ds,z,rfl⟩:∃bp y,ds=bp++[y]:=⟨ds.dropLast,ds.getLast (by intro h;rw[h]at hd;simp at hd),(oG _).symm⟩
  obtain⟨u,mu,iu⟩:=Ge iK id z;rw[List.map_id]at iu;have g0:=o9.mpr iK;rw[oi,oI]at hd;have h1:tgN 0 i [x,vl (.lst ss),some (.bor (.lst ((ds++[z]).map T.int)))]=some [vl i,vl (.lst ss),some (.bor (.lst (ds.map T.int++[T.int z])))]:=by rw[nU];unfold tgN;exact Ef rfl fx
  have h2:Ag Ap (Aa 1) (Ag Cu (fz (Aw Gi (Aa 2) Af)) (Ad AK (Ab (Aa 1) Af))) [vl i,vl (.lst ss),some (.bor (.lst (ds.map T.int++[T.int z])))]=.ok (.t u) [vl i,vl (.lst ss),some (.bor (.lst (ds.map T.int)))]:=by
   apply Eq.trans
   .trivial
   .rfl
  obtain⟨us,fj,y,a1,a2,a3,a4⟩:=picks iK lV is ds (vl i) (ar++[u]) Ak (by lia) (by simp;lia);refine⟨u::us,fj,y,by simp[a1],λv m=>?_,by simp;lia,?_⟩
  .rcases oh.mp m with rfl|m
   .exact mu
   .exact a2 v m
  .rw[Fs h1 h2 (by show _<1000000;lia),a4];simp
theorem sl_24{nn:List Str}{mn m:Nat}(h:nn.length=4)(h1:mn=m+1)(h2:m<=2)(fs:FS):GI (.t (.lst (nn.map T.str))) (some 2) (some (1+(mn:Int))) fs=.ok (.t (.lst (((nn.drop 2).take m).map T.str))) fs:=by
 subst h1
 match nn,h with| [a,b,c,d],_=>rcases(show m=0\/m=1\/m=2 by lia)with rfl|rfl|rfl<;>with_unfolding_all rfl
structure Fx where
 nm:Str
 ks:List Str
 k:Str
 zZ:List Str
 rows:List (Str×List Str×Ex)
def Fx.fd(g:Fx):Fd:=⟨g.nm,g.ks,g.k,g.zZ,g.rows.map λr=>(r.1,r.2.1,r.2.2.t)⟩
abbrev Fx.hd(g:Fx):Str×List Str×Str:=(g.nm,g.ks,g.k)
def hdL:List (Str×List Str×Str)->Str->Option (List Str×Str)
 | [],_=>none
 |h::H,f=>if h.1=f then some h.2 else hdL H f
theorem HY:∀{H:List (Str×List Str×Str)},(H.map (·.1)).Nodup->h∈H->hdL H h.1=some h.2
 |g::H,nd,m=>by
  rw[nQ,oK]at nd;unfold hdL;rcases oh.mp m with rfl|m
  .rw[if_pos rfl]
  .rw[if_neg (λe:g.1=h.1=>nd.1 (e▸oo.mpr ⟨h,m,rfl⟩))];exact HY nd.2 m
def ros(K:Kd)(H:List (Str×List Str×Str))(nn zZ:List Str)(nm:Str)(kd:Str×List (Str×List Str))(ks:List Str)(k:Str)(r:Str×List Str)(w:Str×List Str×Ex):Prop :=
 w.1=r.1/\w.2.1=nn.take r.2.length/\Xk K (hdL H) (nn.take r.2.length++zZ) (r.2++ks) w.2.2 k/\Ow nm (((nn.zip r.2).filter λp=>decide (p.2=kd.1)).map (·.1)) w.2.2/\w.2.2.sz<=esz 3/\w.2.2.dp<=7
structure FxOk(K:Kd)(H:List (Str×List Str×Str))(nn:List Str)(g:Fx):Prop where
 ind:∀x∈g.ks++[g.k],x∈K.map (·.1)
 ex:∃kd ks,kd∈K/\g.ks=kd.1::ks/\ks.length<=2/\g.zZ=(nn.drop 2).take ks.length/\F2 (ros K (H++[g.hd]) nn g.zZ g.nm kd ks g.k) kd.2 g.rows
theorem YT{ss:List Str}:∀{us:List T},(∀u∈us,u∈ss.map T.str)->∃ws:List Str,us=ws.map T.str/\∀w∈ws,w∈ss
 | [],_=>⟨[],rfl,λ_ m=>nomatch m⟩
 |u::us,h=>by
  obtain⟨ws,rfl,hw⟩:=YT λu m=>h u (nZ _ m)
  obtain⟨w,mw,rfl⟩:=oo.mp (h u n4);refine⟨w::ws,rfl,λv m=>?_⟩;rcases oh.mp m with rfl|m
  .exact mw
  .exact hw v m
theorem Hs:∀(xs ys:List Str),xs.zip ys=(xs.take ys.length).zip ys
 | [],ys=>by simp
 |x::xs,[]=>by simp
 |x::xs,y::ys=>by rw[n8,List.take_succ_cons,List.zip_cons_cons,List.zip_cons_cons,<- Hs xs ys]
theorem function(W:Well K)(l4:nn.length=4)(yG:nn.Nodup)(hI:IsI sc ns){at':Nat}(ha:at'<=100)(eA:((H++[(nm,([]:List Str),nm)]).map (·.1)).Nodup)(lH:H.length<=50)(hH:∀h∈H,h.2.1.length<=3/\∀q∈h.2.1,q∈K.map (·.1)):
  ∃t τ,CW [vl sc,vl (tF K),iv at',vl (.zX (H.map cT)),vl (.str nm),vl (.lst (nn.map .str))]=.ok (.t t) τ/\∃g:Fx,t=g.fd.t/\g.nm=nm/\FxOk K H nn g:=by
 obtain⟨ds,e7,_,dg⟩:=Gm hI (a:=at') (b:=7) (by lia) (by lia) (by decide) (by decide);have hK:=W.hi;have nB:=W.lo;obtain⟨ds,z1,rfl⟩:∃bp y,ds=bp++[y]:=⟨ds.dropLast,ds.getLast (by intro h;rw[h]at e7;simp at e7),(oG _).symm⟩
 rw[oi,oI]at e7;have hs:∀x∈So.srt (K.map (·.1)),x∈K.map (·.1):=λx m=>(So.Fc _).mem_iff.mp m
 have ls:(So.srt (K.map (·.1))).length=K.length:=by rw[(So.Fc _).length_eq,nX]
 obtain⟨c3,hc3,i1⟩:∃c:Nat,(2<=c/\c<=3)/\atI [T.int 3,T.int 2] (if decide (((List.map T.str (So.srt (K.map (·.1)))).length:Int)=4)=true then 1 else 0)=some (.int c):=by
  by_cases h:((List.map T.str (So.srt (K.map (·.1)))).length:Int)=4
  .exact⟨2,by lia,by simp only[h,decide_true,if_true];exact at1⟩
  .exact⟨3,by lia,by simp only[h,decide_false];exact at0⟩
 obtain⟨mn,hm,i2⟩:∃m:Nat,(1<=m/\m<=3)/\atI [T.int 1,T.int 2,T.int 2,T.int c3] (z1%4)=some (.int m):=by
  have h1:=pd z1 (show(4:Int)≠0 by decide);have h2:=oZ z1 (show(0:Int)<4 by decide);rcases(show z1%4=0\/z1%4=1\/z1%4=2\/z1%4=3 by lia)with e|e|e|e<;>rw[e]
  .exact⟨1,by lia,rfl⟩
  .exact⟨2,by lia,rfl⟩
  .exact⟨2,by lia,rfl⟩
  .exact⟨c3,by lia,rfl⟩
 generalize hS:So.srt (K.map (·.1))=ss at hs ls i1;have iR:ss.map T.str≠[]:=by intro h;rw[List.map_eq_nil_iff]at h;rw[h]at ls;simp at ls;lia
 obtain⟨us,cH,yk,ul,um,dl,cp⟩:=picks iR (by rw[nX];lia) ((List.range mn).map λi=>T.int ((i:Nat):Int)) ds none [] True.intro (by simp;lia) (by simp;lia);obtain⟨ws,rfl,hws⟩:∃ws:List Str,us=ws.map T.str/\∀w∈ws,w∈ss:=YT um;simp only[nX,o8]at ul dl;apply EM;unfold GA;rw[nU]at dg;apply Bl
 .trivial
  .show List.length K<64
   lia
  trivial
 rw[hS];apply Bl
 .trivial
 apply Bl
 .trivial
 refine(?_:Sat _ (Aj _ _ [vl sc,vl (tF K),iv at',vl (.zX (H.map cT)),vl (.str nm),vl (.lst (nn.map .str)),vl (.lst (ss.map T.str)),some (.own (.lst (ds.map T.int))),iv mn,none,none,none,none,none,none,none,none,none]));have hc:AL false [none,some 6,some 7] (ES (Ab (Aa 8) Af)) (tgN 0) C7 (Ag Ap (Aa 1) (Ag Cu (fz (Aw Gi (Aa 2) Af)) (Ad AK (Ab (Aa 1) Af)))) [vl sc,vl (tF K),iv at',vl (.zX (H.map cT)),vl (.str nm),vl (.lst (nn.map .str)),vl (.lst (ss.map T.str)),some (.own (.lst (ds.map T.int))),iv mn,none,none,none,none,none,none,none,none,none]=.ok (.t (.lst (ws.map T.str))) [vl sc,vl (tF K),iv at',vl (.zX (H.map cT)),vl (.str nm),vl (.lst (nn.map .str)),vl (.lst (ss.map T.str)),some (.own (.lst (cH.map T.int))),iv mn,none,none,none,none,none,none,none,none,none]:=by
  refine Im ?_ ⟨by rw[show Cn _ (List.map _ [none,some 6,some 7])=[7]from rfl];simp,rfl⟩ cp rfl;trivial
  .rfl
  .lia
 apply Bl
 .trivial
 obtain⟨cH,z2,rfl⟩:∃bp y,cH=bp++[y]:=⟨cH.dropLast,cH.getLast (by intro h;rw[h]at dl;simp at dl;lia),(oG _).symm⟩
 rw[oi,oI]at dl;obtain⟨cH,z3,rfl⟩:∃bp y,cH=bp++[y]:=⟨cH.dropLast,cH.getLast (by intro h;rw[h]at dl;simp at dl;lia),(oG _).symm⟩
 obtain⟨s2,jW,i3⟩:=Ge (L:=ss) (λh=>iR (by rw[h];rfl)) T.str z2;have g0:=o9.mpr iR;obtain⟨w0,wt,rfl⟩:=pN (show 0<ws.length by lia);obtain⟨k,hk,i5⟩:∃k:Str,(k=s2\/k=w0)/\atI [T.str s2,T.str w0] (z3%2)=some (.str k):=by
  rcases Int.emod_two_eq z3 with e|e<;>rw[e]
  .exact⟨_,.inl rfl,at0⟩
  .exact⟨_,.inr rfl,at1⟩
 rw[n8]at ul;have du:∀fs,GI (.t (.lst (nn.map T.str))) (some 2) (some (1+(mn:Int))) fs=.ok (.t (.lst (((nn.drop 2).take wt.length).map T.str))) fs:=sl_24 l4 (by lia) (by lia);have du:=du [vl sc,vl (tF K),iv at',vl (.zX (H.map cT)),vl (.str nm),vl (.lst (nn.map .str)),vl (.lst (ss.map T.str)),some (.own (.lst (cH.map T.int))),iv mn,vl (.tup ((w0::wt).map T.str)),vl (.str k),none,none,none,none,none,none,none];refine(?_:Sat _ (Aj _ _ [vl sc,vl (tF K),iv at',vl (.zX (H.map cT)),vl (.str nm),vl (.lst (nn.map .str)),vl (.lst (ss.map T.str)),some (.own (.lst ((cH++[z3]++[z2]).map T.int))),iv mn,vl (.tup ((w0::wt).map T.str)),none,none,none,none,none,none,none,none]));rw[nU,nU];obtain⟨kd,b9,rfl⟩:=oo.mp (hs w0 (hws w0 n4));have h0:=DA W b9;trivial;have lU:((nn.drop 2).take wt.length).length=wt.length:=by rw[oX,pX];lia
 generalize hoth:(nn.drop 2).take wt.length=zZ at lU du;apply Bb (I:=λD fs=>∃(rows:List (Str×List Str×Ex))(y7 dv gV gW gX gY:Option Sl),fs=[vl sc,vl (tF K),iv at',vl (.zX (H.map cT)),vl (.str nm),vl (.lst (nn.map .str)),vl (.lst (ss.map T.str)),y7,iv mn,vl (.tup ((kd.1::wt).map T.str)),vl (.str k),vl (.tup (zZ.map T.str)),some (.own (.lst (rows.map λr=>.tup [.tup (r.2.1.map T.str),r.2.2.t]))),dv,gV,gW,gX,gY]/\F2 (ros K (H++[(nm,kd.1::wt,k)]) nn zZ nm kd wt k) D rows/\Fre y7/\Fre dv/\Fre gV/\Fre gW/\Fre gX/\Fre gY)
 case hi=>trivial
 case h0 =>refine⟨[],some (.own (.lst (cH.map T.int))),none,none,none,none,none,?_,.nil,True.intro,True.intro,True.intro,True.intro,True.intro,True.intro⟩;rw[<- hoth];rfl
 case st =>
  rintro D r R _ e ⟨rows,y7,dv,gV,gW,gX,gY,rfl,hF,f7,f13,f14,f15,f16,f17⟩
  have hD:=D1 e;have mr:=mem_mid e;have lF:=hF.len;have h4:=W.rw kd b9;have r2:=W.two kd b9 r mr;obtain⟨kz,l5,_,km⟩:=Gm hI (a:=(at':Int)+((rows.map λr=>(T.tup [.tup (r.2.1.map T.str),r.2.2.t])).length:Int)+1) (b:=9) (by simp;lia) (by simp;lia) (by decide) (by decide);have kK:k∈K.map (·.1):=by
   rcases hk with rfl|rfl
   .exact hs _ jW
   .exact hs _ (hws _ n4)
  obtain⟨kk,iB,jh⟩:=oo.mp kK;have fG:(nn.take r.2.length++zZ).Nodup:=by rw[<- hoth];refine List.Nodup.sublist (List.Sublist.append ?_ (px ..)) (by rw[qk];exact yG);rw[show nn.take r.2.length=(nn.take 2).take r.2.length by rw[List.take_take,qd r2]];exact px ..
  have ez:(nn.zip r.2)++(zZ.zip wt)=(nn.take r.2.length++zZ).zip (r.2++wt):=by rw[List.zip_append (by rw[oX];lia),<- Hs]
  have O:DrOk ⟨K,(nn.zip r.2)++(zZ.zip wt),H,.zX (H.map cT),nm,kd.1::wt,k,((nn.zip r.2).filter λp=>decide (p.2=kd.1)).map (·.1)⟩ (hdL (H++[(nm,kd.1::wt,k)])) (nn.take r.2.length++zZ) (r.2++wt):=by
   have fD:((H++[(nm,kd.1::wt,k)]).map (·.1)).Nodup:=by simpa using eA
   refine⟨W,?_,by show H.length<=100;lia,?_,.inr (.inr rfl),λp m=>F9 fG (ez▸m),λc m=>⟨HY fD (o7 _ m),?_,(hH c m).1,(hH c m).2⟩,λ_=>⟨HY (h:=(nm,kd.1::wt,k)) fD (by simp),?_,?_,kd.1,wt,rfl,λx m=>?_⟩⟩
   .simp
    lia
   .have:=List.length_filter_le (λp:Str×Str=>decide (p.2=kd.1)) (nn.zip r.2);simp at this ⊢
    lia
   .intro e;rw[nU,oU]at fD;exact fD.2.2 c.1 (oo.mpr ⟨c,m,rfl⟩) nm (by simp) e
   .show wt.length+1<=3
    lia
   .intro q mq;exact hs q (hws q mq)
   .obtain⟨p,mp,rfl⟩:=oo.mp m;obtain⟨mp,hp⟩:=pL.mp mp;rw[<- oj hp];exact F9 fG (ez▸o7 _ mp)
  obtain⟨_,τ,e1,es,e5,l',ex,rfl,dn⟩:=Px O 3 4 (by lia) kk iB kz (by rw[l5];decide);rw[jh]at e1;simp only[Dr.known,Dr.own]at e1;rw[show((nn.zip r.2)++(zZ.zip wt)).map pnT=FL.pairs (nn.map T.str) (r.2.map T.str)++FL.pairs (zZ.map T.str) (wt.map T.str) by rw[nU,CO,CO]]at e1;trivial
  .rw[CO,CO,nX,nX,List.length_zip,List.length_zip];show _<=1000000
   lia
  trivial
  .rw[CO];apply KP
   .trivial
   .trivial
   .exact λ_=>rfl
   .intro p mp;trivial
   .intro p mp hb;trivial
   .rw[List.length_zip]
    lia
  rw[show((nn.zip r.2).filter λp=>decide (p.2=kd.1)).map (λp:Str×Str=>T.str p.1)=(((nn.zip r.2).filter λp=>decide (p.2=kd.1)).map (·.1)).map T.str by rw[om];rfl];trivial;refine⟨rows++[(r.1,nn.take r.2.length,ex)],some (.own (.lst (es.map T.int))),vl (.str r.1),vl (.tup (r.2.map T.str)),vl (.lst (FL.pairs (nn.map T.str) (r.2.map T.str)++FL.pairs (zZ.map T.str) (wt.map T.str))),vl (.lst ((((nn.zip r.2).filter λp=>decide (p.2=kd.1)).map (·.1)).map T.str)),vl ex.t,?_,hF.snoc ⟨rfl,rfl,jh▸dn.1,dn.2.1,dn.2.2.1,dn.2.2.2⟩,True.intro,Ak,Ak,Ak,Ak,Ak⟩;rw[nU,nX,<- List.map_take];rfl
 case k =>
  rintro _ ⟨rows,y7,dv,gV,gW,gX,gY,rfl,hF,f7,f13,f14,f15,f16,f17⟩
  trivial;refine IY ⟨⟨nm,kd.1::wt,k,zZ,rows⟩,?_,rfl,λx m=>?_,kd,wt,b9,rfl,by lia,hoth.symm,hF⟩
  .simp only[Fx.fd,Fd.t,om];rfl
  .rcases oM.mp m with m|m
   .exact hs x (hws x m)
   .rw[oE.mp m];rcases hk with rfl|rfl
    .exact hs _ jW
    .exact hs _ (hws _ n4)
theorem U0(h:fs[j]?=some (some (.own (.lst ts))))(e:(Ck fs).set j (some (.val (.zX ts)))=ak)(hf:f ak=.ok (.t t) τ)(hn:noS t=true):fz (DN j (nwV f)) fs=.ok (.t t) fs:=by
 have h1:DN j (nwV f) fs=.ok (.nw (.val t)) fs:=by
  unfold DN nwV;simp only[h,e,hf,Out.bind];have iE:Qn (.val t)=true:=by unfold FL.Qn;exact hn
  rw[if_pos iE]
 unfold fz;rw[h1];rfl
mutual
theorem Ex.noS:∀e:Ex,FL.noS e.t=true
 |.nm x=>rfl
 |.mk m es=>by show(FL.DO (Ex.ts es)&&true)=true;rw[Ex.DO es];rfl
 |.cl m es=>by show(FL.DO (Ex.ts es)&&true)=true;rw[Ex.DO es];rfl
theorem Ex.DO:∀es:List Ex,FL.DO (Ex.ts es)=true
 | []=>rfl
 |e::es=>by show(FL.noS e.t&&FL.DO (Ex.ts es))=true;rw[Ex.noS e,Ex.DO es];rfl
end
theorem HK:∀xs:List Str,FL.DO (xs.map T.str)=true
 | []=>rfl
 |x::xs=>HK xs
theorem Oi:∀{xs:List α},(∀x∈xs,FL.noS (p x)=true)->FL.DO (xs.map p)=true
 | [],_=>rfl
 |x::xs,h=>by show(FL.noS (p x)&&FL.DO (xs.map p))=true;rw[h x (.head _),Oi λy m=>h y (.tail _ m)];rfl
theorem Fx.noS(g:Fx):FL.noS g.fd.t=true:=by
 have:FL.DO ((g.rows.map λr=>(r.1,r.2.1,r.2.2.t)).map rwT)=true:=by rw[om];exact Oi λr _=>by show(FL.DO (r.2.1.map .str)&&(FL.noS r.2.2.t&&true))=true;rw[HK,Ex.noS];rfl
 have:FL.DO (g.fd.rows.map rwT)=true:=this;show(FL.DO (g.ks.map .str)&&(true&&(FL.DO (g.zZ.map .str)&&(FL.DO _&&true))))=true;rw[HK,HK,this];rfl
theorem fgs(c:Int):¬(("fg":Str)∈nms c 12/\("fgh":Str)∈nms c 12):=by
 rintro⟨h1,h2⟩
 obtain⟨i,e1⟩:=Eu h1;obtain⟨j,e2⟩:=Eu h2;have c1:[102,103]=Nm.codes c i:=by
  have:("fg":Str).cps.toList=[102,103]:=by decide +kernel
  rw[<- this,e1];rfl
 have c2:[102,103,104]=Nm.codes c j:=by
  have:("fgh":Str).cps.toList=[102,103,104]:=by decide +kernel
  rw[<- this,e2];rfl
 unfold Nm.codes at c1 c2;by_cases m:Nm.M c/900%3=1
 .rw[if_pos m]at c1;unfold Nm.Hm at c1;have m1:102∈[102,103]:=by simp
  have m2:103∈[102,103]:=by simp
  rw[c1]at m1 m2;have a1:=List.eq_of_mem_replicate m1;have a2:=List.eq_of_mem_replicate m2
  lia
 .rw[if_neg m]at c1 c2;have l1:=congrArg List.length c1;have l2:=congrArg List.length c2;rw[Nm.EH]at l1 l2;simp at l1 l2
  lia
theorem YD(h1:f fs=.ok (.t (.int a)) ae)(h2:g ae=.ok (.t (.int b)) aq):Ad Js (Ab f (Ab g Af)) fs=.ok (.t (.int (min a b))) aq:=by refine Bf (Bq h1 (Bq h2 A2)) ?_;show okT (.int (if b<a then b else a)) aq=_;rw[show(if b<a then b else a)=min a b by split<;>lia];rfl
theorem Qg:atI (ts++[t]) (-1)=some t:=by
 have e:ixN (ts++[t]).length (-1)=some ts.length:=by
  unfold ixN;simp
  lia
 unfold atI;rw[e];simp
theorem sl3{g:Fx}:GI (.t g.fd.t) none (some 3) fs=.ok (.t (cT g.hd)) fs:=by with_unfolding_all rfl
theorem Gj(W:Well K)(hM:∀x∈mks K,x∈nms c1 12){ns:List Int}(b2:Builtin.Int.intBits (ns.getD 2 0)<=2^20)(b3:Builtin.Int.intBits (ns.getD 3 0)<=2^20){cnt:Nat}(h1:1<=cnt)(h3:cnt<=3):
  ∃o τ,Du [vl (.zX (ns.map T.int)),vl (tF K),iv cnt]=.ok (.nw o) τ/\∃G:List Fx,o=.lst (G.map λg=>g.fd.t)/\G≠[]/\G.length<=3/\(G.map Fx.nm).Nodup/\(∀g∈G,Nf g.nm/\g.nm∉mks K)/\∀D g R,D++g::R=G->FxOk K (D.map Fx.hd) (nms (ns.getD 3 0) 4) g:=by
 have hm:=Oq W.hi λkd m=>(W.rw kd m).2
 apply Ll;unfold EW;trivial;apply Bb (I:=λD fs=>∃y4,fs=[vl (.zX (ns.map T.int)),vl (tF K),iv cnt,vl (.lst ((mks D).map T.str)),y4,none,none,none,none,none,none]/\Fre y4)
 case hi =>
  trivial
  done
 case h0=>exact⟨none,rfl,True.intro⟩
 case st =>
  rintro D kd R _ e ⟨y4,rfl,f4⟩
  have hk:=mem_mid e;have h0:=DA W hk;have h4:=W.rw kd hk;have hD:(mks D).length+kd.2.length<=16:=by
   rw[<- e,FZ]at hm;simp[mks]at hm ⊢
   lia
  trivial
  .apply KN
   .trivial
   .trivial
   .exact λ_=>rfl
   .intro r mr;trivial
   .lia
  trivial;have e3:(mks (D++[kd])).map T.str=(mks D).map T.str++kd.2.map (λr=>T.str r.1):=by rw[FZ,nU];simp[mks]
  refine⟨vl (.str kd.1),?_,Ak⟩;rw[e3];rfl
 case k =>
  rintro _ ⟨y4,rfl,f4⟩
  obtain⟨_,nH⟩:=Jj (n:=12) (by lia) b2;obtain⟨_,nI⟩:=Jj (n:=4) (by lia) b3;obtain⟨_,m4⟩:=Cj ns 2;obtain⟨_,m6⟩:=Cj ns 3;trivial;apply Bb (I:=λD fs=>∃(fr:List Str)(y6:Option Sl),fs=[vl (.zX (ns.map T.int)),vl (tF K),iv cnt,vl (.lst ((mks K).map T.str)),y4,some (.own (.lst (fr.map T.str))),y6,none,none,none,none]/\fr.Nodup/\(∀x∈fr,Nf x/\x∉mks K)/\(∀x∈D,x∈mks K\/x∈fr)/\fr.length<=D.length/\Fre y6) (xs:=nms (ns.getD 2 0) 12++(["f","fg","fgh","fghi"]:List Str))
  case hi =>
   rw[nU];trivial
   done
  case h0=>exact⟨[],none,rfl,by simp,(λ_ m=>nomatch m),(λ_ m=>nomatch m),by simp,True.intro⟩
  case st =>
   rintro D x R _ e ⟨fr,y6,rfl,nd,cx,hD,lf,f6⟩
   have hx:=mem_mid e;have lD:=D1 e;have nx:Nf x:=by
    rcases oM.mp hx with m|m
    .obtain⟨i,rfl⟩:=Eu m;exact DD _ _
    .simp at m;rcases m with rfl|rfl|rfl|rfl<;>exact He (by decide +kernel) (by decide +kernel) (by decide +kernel)
   rw[oi,B6]at lD;simp at lD;apply Zx
   .trivial
   apply q_if
   .apply IB
    .trivial
    .trivial;exact Us rfl
   .intro hh;simp at hh;trivial;refine⟨fr++[x],vl (.str x),by rw[nU];rfl,?_,λy m=>?_,λy m=>?_,by simp;lia,Ak⟩
    .rw[oU];exact⟨nd,by simp,λa ma b mb e=>hh.2 (by rw[<- oE.mp mb,<- e];exact ma)⟩
    .rcases oM.mp m with m|m
     .exact cx y m
     .rw[oE.mp m];exact⟨nx,hh.1⟩
    .rcases oM.mp m with m|m
     .exact(hD y m).imp id λh=>by simp[h]
     .exact .inr (by rw[oE.mp m];simp)
   .intro hh;trivial;refine⟨fr,vl (.str x),rfl,nd,cx,λy m=>?_,by simp;lia,Ak⟩;rcases oM.mp m with m|m
    .exact hD y m
    .rw[oE.mp m];by_cases a:x∈mks K
     .exact .inl a
     .by_cases b:x∈fr
      .exact .inr b
      .simp[a,b]at hh
  case k =>
   rintro _ ⟨fr,y6,rfl,nd,cx,hD,lf,f6⟩
   have kH:fr≠[]:=λh=>by have a:=hD "fg" (by simp);have b:=hD "fgh" (by simp);rw[h]at a b;simp at a b;exact fgs c1 ⟨hM _ a,hM _ b⟩
   have fl:=o9.mpr kH;rw[oi,B6]at lf;simp at lf;trivial;apply Bb (I:=λD fs=>∃(G:List Fx)(bC:Option Sl),fs=[vl (.zX (ns.map T.int)),vl (tF K),iv cnt,vl (.lst ((mks K).map T.str)),y4,vl (.lst (fr.map T.str)),y6,vl (.lst ((nms (ns.getD 3 0) 4).map T.str)),some (.own (.lst (G.map λg=>g.fd.t))),some (.own (.lst (G.map λg=>cT g.hd))),bC]/\G.length=D.length/\G.map Fx.nm=fr.take D.length/\(∀D g R,D++g::R=G->FxOk K (D.map Fx.hd) (nms (ns.getD 3 0) 4) g)/\Fre bC) (xs:=List.range (min cnt fr.length))
   case hi =>
    trivial
    .apply YD
     .trivial
     .trivial
    trivial
    .rw[nX]
     lia
    .lia
   case h0=>exact⟨[],none,rfl,rfl,rfl,λD g R e=>by simp at e,True.intro⟩
   case st =>
    rintro D a R _ e ⟨G,bC,rfl,lG,nG,hG,f10⟩
    obtain⟨rfl,ha⟩:=Km e;have h8:D.length<fr.length:=by lia
    have tk:fr.take (D.length+1)=fr.take D.length++[fr[D.length]]:=by rw[pH h8]
    have mf:=pY h8;have i0:atI (fr.map T.str) (D.length:Int)=some (.str fr[D.length]):=AZ (by rw[ou,nO h8];rfl);have eA:(((G.map Fx.hd)++[(fr[D.length],([]:List Str),fr[D.length])]).map (·.1)).Nodup:=by rw[nU,om,show((·.1)∘Fx.hd)=Fx.nm from rfl,nG];show(fr.take D.length++[fr[D.length]]).Nodup;rw[<- tk];exact nd.sublist (px ..)
    have hH:∀h∈G.map Fx.hd,h.2.1.length<=3/\∀q∈h.2.1,q∈K.map (·.1):=λh m=>by obtain⟨g,mg,rfl⟩:=oo.mp m;obtain⟨A,B,e3⟩:=oY mg;have O:=hG A g B e3.symm;obtain⟨kd,ks,_,e4,l2,_⟩:=O.ex;exact⟨by show g.ks.length<=3;rw[e4,n8];lia,λq mq=>O.ind q (o7 _ mq)⟩
    obtain⟨_,e9,e1,g,rfl,eg,og⟩:=function W (B6 (ns.getD 3 0) 4) (Df _ (by lia)) (sc:=.zX (ns.map T.int)) (.inl rfl) (at':=D.length) (by lia) eA (by rw[nX];lia) hH;rw[om]at e1;have th:fz (DN 9 (nwV (Ad (Ae 6 CW) (Ac (fz (Aa 0)) (Ac (fz (Aa 1)) (Ac (fz (Aa 10)) (Ac (fz (Aa 9)) (Ac (Ag Ap (Aa 5) (fz (Aa 10))) (Ac (fz (Aa 7)) Af))))))))) [vl (.zX (ns.map T.int)),vl (tF K),iv cnt,vl (.lst ((mks K).map T.str)),y4,vl (.lst (fr.map T.str)),y6,vl (.lst ((nms (ns.getD 3 0) 4).map T.str)),some (.own (.lst (G.map λg=>g.fd.t))),some (.own (.lst (G.map λg=>cT g.hd))),iv D.length]=.ok (.t g.fd.t) [vl (.zX (ns.map T.int)),vl (tF K),iv cnt,vl (.lst ((mks K).map T.str)),y4,vl (.lst (fr.map T.str)),y6,vl (.lst ((nms (ns.getD 3 0) 4).map T.str)),some (.own (.lst (G.map λg=>g.fd.t))),some (.own (.lst (G.map λg=>cT g.hd))),iv D.length]:=by
     apply U0 rfl rfl
     .trivial
     .exact g.noS
    have il:atI ((G.map λg=>g.fd.t)++[g.fd.t]) (-1)=some g.fd.t:=Qg;apply Zx
    .trivial
    refine(?_:Sat _ (Aj _ _ [vl (.zX (ns.map T.int)),vl (tF K),iv cnt,vl (.lst ((mks K).map T.str)),y4,vl (.lst (fr.map T.str)),y6,vl (.lst ((nms (ns.getD 3 0) 4).map T.str)),some (.own (.lst (G.map λg=>g.fd.t))),some (.own (.lst (G.map λg=>cT g.hd))),iv D.length]));trivial
    .exact sl3
    trivial;refine⟨G++[g],iv D.length,by rw[nU,nU];rfl,by simp[lG],?_,λD' g' R' e'=>?_,Ak⟩
    .rw[nU,nG,oi,oI,tk];simp[eg]
    .rcases List.eq_nil_or_concat R' with rfl|⟨R2,z,rfl⟩
     .obtain⟨rfl,e2⟩:=List.append_inj' e' rfl;cases (e2);exact og
     .have e2:(D'++g'::R2)++[z]=G++[g]:=by rw[<- e'];simp
      exact hG D' g' R2 (List.append_inj' e2 rfl).1
   case k =>
    rintro _ ⟨G,bC,rfl,lG,nG,hG,f10⟩
    rw[o8]at lG nG;trivial;refine Yj rfl ⟨G,rfl,λh=>?_,by lia,?_,λg mg=>?_,hG⟩
    .rw[h]at lG;simp at lG
     lia
    .rw[nG];exact nd.sublist (px ..)
    .have:g.nm∈fr.take (min cnt fr.length):=by rw[<- nG];exact oo.mpr ⟨g,mg,rfl⟩
     exact cx _ (pI this)
abbrev rwV(g:Fd):T:=.n (g.rows.map kyR) (g.rows.map (rvT g))
abbrev prT(cP z0:Addr)(K:Kd)(G:List Fd):T:=.ins cP PF [stT z0 K,.n (hkD G) (hvD G),.n (hkD G) (G.map rwV)]
theorem p_row(nd:(G.map Fd.nm).Nodup)(m:g∈G)(n2:(g.rows.map (·.1)).Nodup)(m2:r∈g.rows):A5 cP [vl (prT cP z0 K G),vl (.str g.nm),vl (.str r.1)]=.ok (.t (rvT g r)) [vl (prT cP z0 K G),vl (.str g.nm),vl (.str r.1)]:=by
 have h1:By (hkD G) (G.map rwV) (.inr g.nm:Key)=some (rwV g):=B3 m (by have:=B8 nd;rwa[om]at this);have h:By (g.rows.map kyR) (g.rows.map (rvT g)) (.inr r.1:Key)=some (rvT g r):=B3 m2 (by have:=B8 n2;rwa[om]at this);obtain⟨_,_,e,rfl,rfl⟩:∃t τ,A5 cP [vl (prT cP z0 K G),vl (.str g.nm),vl (.str r.1)]=.ok (.t t) τ/\(t=rvT g r/\τ=[vl (prT cP z0 K G),vl (.str g.nm),vl (.str r.1)]):=by apply EM;trivial;exact IY ⟨rfl,rfl⟩
 exact e
theorem OY:∀H:List (Str×List Str×Str),By (H.map λh=>ky h.1) (H.map λh=>T.tup [.tup (h.2.1.map .str),.str h.2.2]) (ky f)=(hdL H f).map λp=>.tup [.tup (p.1.map .str),.str p.2]
 | []=>by simp[By,hdL]
 |h::H=>by
  by_cases e:h.1=f
  .simp[By,hdL,e]
  .simp[By,hdL,e,(OY (f:=f) H)]
theorem OZ:∀{H:List (Str×List Str×Str)},hdL H f=some p->hdL (H++H2) f=some p
 |h::H,e=>by
  rw[qm];unfold hdL at e ⊢;by_cases c:h.1=f
  .rw[if_pos c]at e ⊢;exact e
  .rw[if_neg c]at e ⊢;exact OZ e
theorem Uu:∀{H:List (Str×List Str×Str)},hdL H f=some p->(f,p.1,p.2)∈H
 |h::H,e=>by
  unfold hdL at e;by_cases c:h.1=f
  .rw[if_pos c]at e;cases e;rw[<- c];exact n4
  .rw[if_neg c]at e;exact nZ _ (Uu e)
mutual
theorem Xk.mono(h:∀f p,hd f=some p->ba f=some p):∀{e:Ex}{k:Str},Xk K hd xs ks e k->Xk K ba xs ks e k
 |.nm x,k,q=>q
 |.mk m es,k,⟨kd,a,b,qs,c,d⟩=>⟨kd,a,b,qs,c,Xks.mono h d⟩
 |.cl f es,k,⟨qs,a,b⟩=>⟨qs,h _ _ a,Xks.mono h b⟩
theorem Xks.mono(h:∀f p,hd f=some p->ba f=some p):∀{es:List Ex}{qs:List Str},Xks K hd xs ks es qs->Xks K ba xs ks es qs
 | [],[],_=>True.intro
 |e::es,q::qs,⟨a,b⟩=>⟨Xk.mono h a,Xks.mono h b⟩
end
theorem F2.left(h:F2 R as bs):∀a∈as,∃b∈bs,R a b:=by
 induction h with
 |nil=>exact λ_ m=>nomatch m
 |cons h _ ih =>
  intro b m;rcases oh.mp m with rfl|m
  .exact⟨_,n4,h⟩
  .obtain⟨a,ma,r⟩:=ih b m;exact⟨a,nZ _ ma,r⟩
theorem F2.map_eq(h:F2 R as bs)(e:∀a b,R a b->g b=f a):bs.map g=as.map f:=by induction h with|nil=>rfl|cons h _ ih=>rw[nQ,nQ,ih,e _ _ h]
structure Gx(K:Kd)(nn:List Str)(G:List Fx):Prop where
 W:Well K
 l4:nn.length=4
 yG:nn.Nodup
 yp:∀x∈nn,Nf x
 ne:G≠[]
 l3:G.length<=3
 nd:(G.map Fx.nm).Nodup
 nm:∀g∈G,Nf g.nm/\g.nm∉mks K
 ok:∀D g R,D++g::R=G->FxOk K (D.map Fx.hd) nn g
theorem OA:∀{xs:List Str}{ks:List α},x∈xs->xs.length<=ks.length->∃k,lkp xs ks x=some k
 |y::ys,q::qs,m,l=>by
  unfold lkp;by_cases e:y=x
  .exact⟨q,by rw[if_pos e]⟩
  .rw[if_neg e];rcases oh.mp m with h|m
   .exact absurd h.symm e
   .exact OA m (by simpa using l)
 |_::_,[],_,l=>by simp at l
section
variable{K:Kd}{nn:List Str}{G:List Fx}
theorem Lz(l4:nn.length=4)(yG:nn.Nodup)(hj:j<=2):(nn.take j++(nn.drop 2).take m).Nodup:=by refine List.Nodup.sublist (List.Sublist.append ?_ (px ..)) (by rwa[qk]);rw[show nn.take j=(nn.take 2).take j by rw[List.take_take,qd hj]];exact px ..
theorem Gx.fok(X:Gx K nn G):∀A g B,A++g::B=G.map Fx.fd->FOk K A g:=by
 intro A g B e;obtain⟨D,R,e1,rfl,e3⟩:=List.map_eq_append_iff.mp e.symm;obtain⟨g,R,rfl,rfl,rfl⟩:=List.map_eq_cons_iff.mp e3;have O:=X.ok D g R e1.symm;have mg:g∈G:=by rw[e1];simp
 have nd:=X.nd;rw[e1,nU,nQ,oU]at nd;obtain⟨kd,ks,hk,cI,l2,eo,hF⟩:=O.ex;have lo:g.zZ.length=ks.length:=by rw[eo,oX,pX,X.l4];lia
 refine⟨(X.nm g mg).1,?_,(X.nm g mg).2,O.ind,kd,ks,hk,cI,lo,l2,?_,?_⟩
 .intro m;rw[om]at m;exact nd.2.2 g.nm m g.nm (by simp) rfl
 .show(g.rows.map λr=>(r.1,r.2.1,r.2.2.t)).map (·.1)=_;rw[om];exact hF.map_eq λa b h=>h.1
 .intro w mw;obtain⟨w,l8,rfl⟩:=oo.mp mw;obtain⟨r,mr,e5,e6,hx,hw,s7,d7⟩:=hF.right w l8;have r2:=X.W.two kd hk r mr;have ln:(nn.take r.2.length).length=r.2.length:=by rw[oX,X.l4];lia
  have fG:=Lz X.l4 X.yG (m:=ks.length) r2;rw[<- eo]at fG;have lk:∀p∈nn.zip r.2,p.1∈nn.take r.2.length/\lkp (nn.take r.2.length++g.zZ) (r.2++ks) p.1=some p.2:=λp mp=>by rw[Hs]at mp;exact⟨(qt mp).1,F9 fG (by rw[List.zip_append ln];exact o7 _ mp)⟩
  have ja:∀x,By ((nn.take r.2.length++g.zZ).map ky) (r.2.map T.str++ks.map T.str) (ky x)=(lkp (nn.take r.2.length++g.zZ) (r.2++ks) x).map T.str:=λx=>by rw[<- nU];exact Ht _ _
  refine⟨?_,?_,λx mx=>?_,r.2,(λx k=>lkp (nn.take r.2.length++g.zZ) (r.2++ks) x=some k),(λf ps k ts=>hdL (D.map Fx.hd++[g.hd]) f=some (ps,k)/\(f=g.nm->∃x∈((nn.zip r.2).filter λp=>decide (p.2=kd.1)).map (·.1),ts[0]?=some (exN x))),(λx=>(lkp (nn.take r.2.length++g.zZ) (r.2++ks) x).getD ""),?_,?_,λzF z0=>⟨X.W,λx k h=>?_,λf ps k ts ⟨h1,h2⟩=>⟨?_,λe=>?_⟩⟩,λx mx=>?_,Xk.ty hx hw (by lia)⟩
  .show w.2.1.length<=2;rw[e6,ln];exact r2
  .show(w.2.1++g.zZ).Nodup;rw[e6];exact fG
  .have mx:x∈w.2.1++g.zZ:=mx;rw[e6,eo]at mx;rcases oM.mp mx with m|m
   .exact X.yp x (pI m)
   .exact X.yp x (List.mem_of_mem_drop (pI m))
  .show(w.1,r.2)∈kd.2;rw[e5];exact mr
  .show w.2.1.length=r.2.length;rw[e6,ln]
  .show By ((w.2.1++g.zZ).map ky) _ _=_;rw[e6];have:=ja x;rw[h]at this;exact this
  .have:=OY (f:=f) (D.map Fx.hd++[g.hd]);rw[h1]at this;simp only[nU,om,nQ,pF]at this;simp only[hkD,hvD,nU,om,nQ,pF];exact this
  .obtain⟨x,mx,ex⟩:=h2 e;obtain⟨p,mp,rfl⟩:=oo.mp mx;obtain⟨mp,hp⟩:=pL.mp mp;obtain⟨a1,a2⟩:=lk p mp;refine⟨p.1,pL.mpr ⟨?_,?_⟩,ex⟩
   .show p.1∈w.2.1;rw[e6];exact a1
   .show decide ((lkp (nn.take r.2.length++g.zZ) (r.2++ks) p.1).getD ""=kd.1)=true;rw[a2];exact hp
  .have mx:=mx;rw[e6]at mx;show By ((w.2.1++g.zZ).map ky) _ _=_;rw[e6];have:=ja x;obtain⟨k,hk⟩:∃k,lkp (nn.take r.2.length++g.zZ) (r.2++ks) x=some k:=OA (o7 _ mx) (by simp[lo];lia);rw[this];show _=some (T.str ((lkp (nn.take r.2.length++g.zZ) (r.2++ks) x).getD ""));rw[hk];rfl
theorem Ie{f:α->Str}:∀{l:List α},(l.map f).Nodup->a∈l->l.find? (λb=>decide (f b=f a))=some a
 |b::l,nd,m=>by
  rw[nQ,oK]at nd;rcases oh.mp m with rfl|m
  .simp
  .rw[List.find?_cons_of_neg (by intro e;exact nd.1 (by rw[oj e];exact oo.mpr ⟨a,m,rfl⟩))];exact Ie nd.2 m
def rwG(G:List Fx)(f m:Str):Option (List Str×Ex):=(G.find? λg=>decide (g.nm=f)).bind λg=>(g.rows.find? λr=>decide (r.1=m)).map λr=>(r.2.1++g.zZ,r.2.2)
theorem Gx.Mc(X:Gx K nn G)(mg:g∈G):∃kd ks,kd∈K/\g.ks=kd.1::ks/\ks.length<=2/\g.zZ.length=ks.length/\(∀m:Nat,(g.zZ=(nn.drop 2).take ks.length))/\(g.rows.map (·.1))=kd.2.map (·.1)/\∀r∈kd.2,∃w∈g.rows,w.1=r.1/\w.2.1=nn.take r.2.length/\Xk K (hdL (G.map Fx.hd)) (w.2.1++g.zZ) (r.2++ks) w.2.2 g.k/\w.2.2.sz<=esz 3/\w.2.2.dp<=7:=by
 obtain⟨D,R,e1⟩:=oY mg;obtain⟨kd,ks,hk,cI,l2,eo,hF⟩:=(X.ok D g R e1.symm).ex;refine⟨kd,ks,hk,cI,l2,by rw[eo,oX,pX,X.l4];lia,λ_=>eo,hF.map_eq λa b h=>h.1,λr mr=>?_⟩;obtain⟨w,mw,e5,e6,hx,hw,s7,d7⟩:=hF.left r mr;refine⟨w,mw,e5,e6,?_,s7,d7⟩;rw[e6];refine hx.mono λf p h=>?_
 have:=OZ (H2:=R.map Fx.hd) h;rw[e1];simpa using this
theorem Gx.pg(X:Gx K nn G):Te K (hdL (G.map Fx.hd)) (rwG G) (esz 3):=by
 have ex:∀f qs k,hdL (G.map Fx.hd) f=some (qs,k)->∃g∈G,g.nm=f/\g.ks=qs/\g.k=k:=λf qs k h=>by obtain⟨g,mg,e⟩:=oo.mp (Uu h);cases e;exact⟨g,mg,rfl,rfl,rfl⟩
 refine⟨X.W.two,λf qs k h=>?_,λf q qs k kd m ps h hk hq hm=>?_⟩
 .obtain⟨g,mg,rfl,rfl,rfl⟩:=ex f qs k h;obtain⟨kd,ks,hk,cI,l2,_⟩:=X.Mc mg;rw[cI];exact⟨by simp,by simp;lia⟩
 .obtain⟨g,mg,rfl,e1,rfl⟩:=ex f _ k h;obtain⟨fC,ks,dk,cI,l2,lo,eo,er,hr⟩:=X.Mc mg;rw[e1]at cI;cases cI;have:=JaD X.W hk dk (by rw[hq]);subst this;obtain⟨w,mw,e5,e6,hx,s7,d7⟩:=hr _ hm;have l9:(g.rows.map (·.1)).Nodup:=by rw[er];exact Kl X.W hk
  refine⟨w.2.1++g.zZ,w.2.2,?_,?_,?_,hx,s7,by lia⟩
  .have f1:=Ie X.nd mg;have f2:=Ie l9 mw;rw[e5]at f2;unfold rwG;rw[f1];show Option.map _ (g.rows.find? _)=_;rw[f2];rfl
  .rw[e6,eo 0];exact Lz X.l4 X.yG (X.W.two fC hk _ hm)
  .have r2:=X.W.two fC hk _ hm;simp only at r2 e6;rw[oi,oi,e6,oX,X.l4,lo]
   lia
end
theorem shape:∀(n:Nat)(h:Th),h.dp<=n->h.sz<=900->∃τ,DG n [vl h.t]=.ok (.t (.v true)) τ
 |n+1,.mk m ps,d,z=>by
  rw[Th.dp]at d;rw[Th.sz]at z;have ih:∀h∈ps,∃τ,DG n [vl h.t]=.ok (.t (.v true)) τ:=λh m=>shape n h (by have:=Th.dpm m;lia) (by have:=Th.szm m;lia)
  apply Cd;rw[Th.t,Th.AR];apply FR
  .apply Ha
   .exact WO (Am rfl) rfl rfl
   .trivial
  .intro hh;simp at hh
  intro _;apply VB;apply FR
  .apply Ha
   .refine WO (t:=.str m) ?_ rfl rfl;trivial
   .refine WO (t:=.tup (ps.map Th.t)) ?_ rfl rfl;trivial
  .intro hh;simp at hh
  intro _;trivial;apply Kn (Pe:=λt=>∃h∈ps,t=h.t) (I:=λfs=>∃y1,fs=[vl (.tup [.str m,.tup (ps.map Th.t)]),y1]/\Fre y1)
  case hi=>trivial
  case h0 =>intro u mu;obtain⟨h,mh,rfl⟩:=oo.mp mu;exact⟨h,mh,rfl⟩
  case h1=>exact⟨none,rfl,True.intro⟩
  case st =>
   rintro _ _ ⟨h,mh,rfl⟩ ⟨y1,rfl,f1⟩
   obtain⟨_,e⟩:=ih h mh;trivial;exact⟨_,rfl,Ak⟩
  case k =>
   rintro _ ⟨y1,rfl,f1⟩
   trivial
 |0,.mk m ps,d,z=>by rw[Th.dp]at d;lia
def Sq(K:Kd)(e:Nat)(p:Str)(h:Th):Prop:=Tk K h p/\h.dp<=e/\h.sz+1<=2^e
theorem Sq.up(q:Sq K d p h)(l:d<=e):Sq K e p h:=⟨q.1,oB q.2.1 l,oB q.2.2 (Nat.pow_le_pow_right (by decide) l)⟩
abbrev gS(K:Kd)(p:Str)(ds:List Int)(down:Int):FS:=[vl (tF K),vl (.str p),some (.bor (.lst (ds.map T.int))),iv down]
theorem LK:∀(ps:List Str)(ds:List Int)(x:Option Sl)(ar:List T),Fre x ->
  (∀p∈ps,∀ds:List Int,c<=ds.length->∃(h:Th)(es:List Int),Sq K e p h/\ds.length<=es.length+c/\rec (gS K p ds (down-1))=.ok (.t h.t) (gS K p es (down-1))) ->
  c*ps.length<=ds.length->ar.length+ps.length<=1000 ->
  ∃(hs:List Th)(es:List Int)(y:Option Sl),F2 (Sq K e) ps hs/\ds.length<=es.length+c*ps.length/\A9 (tgN 0) C7 (fz (Ad (Ae 4 rec) (Ac (fz (Aa 1)) (Ac (fz (Aa 0)) (Ac (Aa 2) (Ac (Ag BX (Aa 3) (gc (.int 1))) Af)))))) (ps.map T.str) [x,vl (tF K),some (.bor (.lst (ds.map T.int))),iv down] ar=some (ar++hs.map Th.t,[y,vl (tF K),some (.bor (.lst (es.map T.int))),iv down])
 | [],ds,x,ar,_,_,_,_=>⟨[],ds,x,.nil,by lia,by simp[A9]⟩
 |p::ps,ds,x,ar,fx,hr,hd,ha=>by
  have ba:c+c*ps.length<=ds.length:=by rw[n8,Nat.mul_add,Nat.mul_one]at hd;lia
  obtain⟨th,es,h1,h2,h3⟩:=hr p n4 ds (by lia);obtain⟨i8,bp,y,g1,g2,g3⟩:=LK ps es (vl (.str p)) (ar++[th.t]) Ak (λq m=>hr q (nZ _ m)) (by lia) (by simp at ha ⊢;lia);refine⟨th::i8,bp,y,.cons h1 g1,by rw[n8,Nat.mul_add,Nat.mul_one];lia,?_⟩;rw[nQ];have e1:tgN 0 (.str p) [x,vl (tF K),some (.bor (.lst (ds.map T.int))),iv down]=some [vl (.str p),vl (tF K),some (.bor (.lst (ds.map T.int))),iv down]:=by unfold tgN;exact Ef rfl fx
  have e2:fz (Ad (Ae 4 rec) (Ac (fz (Aa 1)) (Ac (fz (Aa 0)) (Ac (Aa 2) (Ac (Ag BX (Aa 3) (gc (.int 1))) Af))))) [vl (.str p),vl (tF K),some (.bor (.lst (ds.map T.int))),iv down]=.ok (.t th.t) [vl (.str p),vl (tF K),some (.bor (.lst (es.map T.int))),iv down] :=
   W9 (C0 (AF (Bh (Am rfl)) (AF (Bh (Am rfl)) (AF (HZ rfl) (AF (Bu (Am rfl) Ei Uv) A2)))) rfl (by rw[show Cn _ _=[2]from rfl];simp) h3 rfl)
  rw[Fs e1 e2 (by show _<1000000;simp at ha;lia),g3];simp
theorem O2{ds:List Int}
  (hr:∀p∈ps,∀ds:List Int,c<=ds.length->∃(h:Th)(es:List Int),Sq K e p h/\ds.length<=es.length+c/\rec (gS K p ds (down-1))=.ok (.t h.t) (gS K p es (down-1))) (h2:ps.length<=2) (hd:c*2<=ds.length) :
  ∃(hs:List Th)(es:List Int),F2 (Sq K e) ps hs/\ds.length<=es.length+c*2/\AL false [none,some 0,some 2,some 3] (itU (fz (Aa 6))) (tgN 0) C7 (fz (Ad (Ae 4 rec) (Ac (fz (Aa 1)) (Ac (fz (Aa 0)) (Ac (Aa 2) (Ac (Ag BX (Aa 3) (gc (.int 1))) Af)))))) [vl (tF K),vl (.str k),some (.bor (.lst (ds.map T.int))),iv down,x4,vl (.str m),vl (.tup (ps.map T.str))]=.ok (.t (.lst (hs.map Th.t))) [vl (tF K),vl (.str k),some (.bor (.lst (es.map T.int))),iv down,x4,vl (.str m),vl (.tup (ps.map T.str))]:=by
 have hc:c*ps.length<=c*2:=Nat.mul_le_mul_left _ h2;obtain⟨i8,es,y,g1,g2,g3⟩:=LK ps ds none [] Bi hr (by lia) (by simp;lia);exact⟨i8,es,g1,by lia,Im (by with_unfolding_all rfl) ⟨by rw[show Cn _ (List.map _ [none,some 0,some 2,some 3])=[2]from rfl];simp,by rfl⟩ g3 rfl⟩
theorem Tks.of(h:F2 (λp h=>Tk K h p) ps hs):Tks K hs ps:=by induction h with|nil=>exact True.intro|cons q _ ih=>exact⟨q,ih⟩
theorem Sq.mk(hk:kd∈K)(hr:r∈kd.2)(h2:r.2.length<=2)(h:F2 (Sq K e) r.2 hs):Sq K (e+1) kd.1 (.mk r.1 hs):=by
 have l:=h.len;refine⟨⟨kd,hk,rfl,r.2,hr,?_⟩,?_,?_⟩
 .exact Tks.of (h.imp λ_ _ q=>q.1)
 .rw[Th.dp];have:=Th.Gk λx m=>by obtain⟨_,_,q⟩:=h.right x m;exact q.2.1
  lia
 .rw[Th.sz];have h1:=Nat.one_le_two_pow (n:=e);have:=Th.FJ (q:=2^e-1) λx m=>by obtain⟨_,_,q⟩:=h.right x m;have:=q.2.2;lia
  have m2:hs.length*(2^e-1)<=2*(2^e-1):=pT _ (by lia)
  lia
theorem O1{K:Kd}(W:Well K):∀(n j a:Nat)(down:Int)(kd:Str×List (Str×List Str))(ds:List Int),K[a]?=some kd->down.toNat=j->need j a<=n->2^j-1<=ds.length ->
  ∃t τ,DH n (gS K kd.1 ds down)=.ok (.t t) τ/\∃(h:Th)(es:List Int),t=h.t/\τ=gS K kd.1 es down/\Sq K (need j a) kd.1 h/\ds.length<=es.length+(2^j-1)
 |0,j,a,down,kd,ds,_,_,hn,_=>by unfold need at hn;split at hn<;>lia
 |n+1,j,a,down,kd,ds,hk,hj,hn,hd=>by
  have ha:a<K.length:=by
   rcases Nat.lt_or_ge a K.length with h|h
   .exact h
   .rw[oQ h]at hk;cases hk
  have hm:=pJ hk;have h4:=W.hi;have jM:=W.rw kd hm;obtain⟨r0,rs,er⟩:=pN jM.1;have iJ:r0∈kd.2:=by rw[er];simp
  have h0:=DA W hm;have q1:atI (kd.2.map IV) 0=some (IV r0):=AZ (by rw[er];rfl);apply EM;unfold Mb gS;apply Bl
  .trivial
  apply Bl
  .unfold IV at q1;trivial
  refine(?_:Sat _ (Aj _ _ [vl (tF K),vl (.str kd.1),some (.bor (.lst (ds.map T.int))),iv down,vl (.lst (kd.2.map IV)),vl (.str r0.1),vl (.tup (r0.2.map T.str))]));cases j with
  |zero =>
   have lj:=by simpa[need]using hn
   obtain⟨hs,es,g1,g2,g3⟩:=O2 (c:=0) (e:=a) (λp mp es _=>by
    have hs:K=K.take a++kd::K.drop (a+1):=by
     have:K.drop a=kd::K.drop (a+1):=by rw[pV ha];congr 1;rw[nO ha]at hk;exact Option.some.inj hk
     rw[<- this,qk]
    have:=W.gr _ kd _ hs r0 (by rw[er];rfl) p mp;obtain⟨b,fC,e1,rfl,e3⟩:=idx this;have hb:b<a:=by rw[oX]at e3;lia
    have jf:=by rw[pG,if_pos hb]at e1;exact e1
    obtain⟨_,_,t1,h,bp,rfl,rfl,t2,t3⟩:=O1 W n 0 b (down-1) fC es jf (by lia) (by simp[need];lia) (by simp);exact⟨h,bp,t2.up (by simp[need];lia),by simpa using t3,t1⟩) (W.two kd hm r0 iJ) (by lia)
   have ik:¬(0<down):=by lia
   apply FR
   .trivial
   .intro h;exact absurd (oj h) ik
   intro _;trivial;exact IY ⟨.mk r0.1 hs,es,by rw[Th.t,Th.AR],rfl,by simpa[need]using Sq.mk hm iJ (W.two kd hm r0 iJ) g1,by simpa using g2⟩
  |succ j =>
   have lj:=by simpa[need]using hn
   have nA:=Nat.one_le_two_pow (n:=j);have ba:=by rw[Nat.pow_succ]at hd;exact hd
   obtain⟨ds,z,rfl⟩:∃bp y,ds=bp++[y]:=⟨ds.dropLast,ds.getLast (by intro h;rw[h]at ba;simp at ba;lia),(oG _).symm⟩
   rw[oi,oI]at ba;obtain⟨r,hr,q2⟩:=Ge (L:=kd.2) (by rw[er];simp) IV z;have g0:0<(kd.2.map IV).length:=by rw[nX];exact jM.1
   unfold IV at q2;obtain⟨hs,es,g1,g2,g3⟩:=O2 (e:=j+4) (ds:=ds) (λp mp es kZ=>by obtain⟨b,fC,e1,rfl,e3⟩:=idx (W.yK kd hm r hr p mp);obtain⟨_,_,t1,h,bp,rfl,rfl,t2,t3⟩:=O1 W n j b (down-1) fC es e1 (by lia) (by unfold need;split<;>lia) kZ;exact⟨h,bp,t2.up (by unfold need;split<;>lia),t3,t1⟩) (W.two kd hm r hr) (by lia);have ik:0<down:=by lia
   rw[nU];apply FR
   .trivial
   .intro _;apply Bl
    .trivial
    refine(?_:Sat _ (retS _ [vl (tF K),vl (.str kd.1),some (.bor (.lst (ds.map T.int))),iv down,vl (.lst (kd.2.map IV)),vl (.str r.1),vl (.tup (r.2.map T.str))]));trivial;refine IY ⟨.mk r.1 hs,es,by rw[Th.t,Th.AR],rfl,by simpa[need]using Sq.mk hm hr (W.two kd hm r hr) g1,?_⟩;rw[oi,oI,Nat.pow_succ]
    lia
   .intro h;exact absurd ik (of_decide_eq_false h)
theorem TR(h:rwG G f m=some (ys,b)):∃g∈G,g.nm=f/\∃w∈g.rows,w.1=m/\ys=w.2.1++g.zZ/\b=w.2.2:=by unfold rwG at h;rw[ot]at h;obtain⟨g,e1,e2⟩:=h;rw[nY]at e2;obtain⟨w,e3,e4⟩:=e2;cases e4;have a1:=List.find?_some e1;have a3:=List.find?_some e3;exact⟨g,List.mem_of_find?_eq_some e1,oj a1,w,List.mem_of_find?_eq_some e3,oj a3,rfl,rfl⟩
abbrev Gx.P(cP z0:Addr)(K:Kd)(G:List Fx):T:=prT cP z0 K (G.map Fx.fd)
abbrev FTg(G:List Fx):T:=.lst ((G.map Fx.fd).map Fd.t)
theorem Gx.fnd(X:Gx K nn G):((G.map Fx.fd).map Fd.nm).Nodup:=by rw[om];exact X.nd
theorem Gx.rv(g:Fx)(w:Str×List Str×Ex):rvT g.fd (w.1,w.2.1,w.2.2.t)=.tup [.tup ((w.2.1++g.zZ).map T.str),w.2.2.t]:=by rw[nU];rfl
theorem Gx.frows(X:Gx K nn G)(mg:g∈G):(g.fd.rows.map (·.1)).Nodup:=by obtain⟨kd,ks,hk,_,_,_,_,er,_⟩:=X.Mc mg;show((g.rows.map λr=>(r.1,r.2.1,r.2.2.t)).map (·.1)).Nodup;rw[om];show(g.rows.map (·.1)).Nodup;rw[er];exact Kl X.W hk
theorem Gx.prow(X:Gx K nn G)(e1:c.cP=cP)(e2:c.P=Gx.P cP z0 K G):∀f m ys b,rwG G f m=some (ys,b)->Row c f m ys b:=by
 intro f m ys b h;obtain⟨g,mg,rfl,w,mw,rfl,rfl,rfl⟩:=TR h;have nr:PF.any (·==("row":Str))=false:=by decide +kernel
 obtain⟨D,R,eG⟩:=oY mg;obtain⟨_,_,_,_,_,_,_,hr⟩:=(X.fok (D.map Fx.fd) g.fd (R.map Fx.fd) (by rw[eG];simp)).ex;refine⟨λfs=>?_,?_,(hr (w.1,w.2.1,w.2.2.t) (oo.mpr ⟨w,mw,rfl⟩)).nd⟩
 .rw[e1,e2];unfold DR;simp[nr]
 .rw[e1,e2,<- Gx.rv];exact p_row X.fnd (oo.mpr ⟨g,mg,rfl⟩) (X.frows mg) (oo.mpr ⟨w,mw,rfl⟩)
theorem Gx.lrow(X:Gx K nn G):∀f m ys b,rwG G f m=some (ys,b)->∃τ,CF [vl (FTg G),vl (tF K),vl (.str f),vl (.str m)]=.ok (.t (.tup [.tup (ys.map .str),b.t])) τ:=by
 intro f m ys b h;obtain⟨g,mg,rfl,w,mw,rfl,rfl,rfl⟩:=TR h;obtain⟨kd,ks,hk,cI,l2,lo,eo,er,_⟩:=X.Mc mg;have ml:(w.1,w.2.1,w.2.2.t)∈g.fd.rows:=oo.mpr ⟨w,mw,rfl⟩;obtain⟨i,hi,ei⟩:=qo.mp ml;obtain⟨D,R,eG⟩:=oY mg;obtain⟨_,_,_,_,_,_,_,hr⟩:=(X.fok (D.map Fx.fd) g.fd (R.map Fx.fd) (by rw[eG];simp)).ex;have two:=(hr _ ml).two;rw[<- Gx.rv];refine Zo X.W X.fnd (oo.mpr ⟨g,mg,rfl⟩) (by rw[nX];have:=X.l3;lia) hk cI ?_ (by rw[nO hi,ei]) ?_
 .show(g.rows.map λr=>(r.1,r.2.1,r.2.2.t)).map (·.1)=_;rwa[om]
 .show w.2.1.length+g.zZ.length<=100;have two:w.2.1.length<=2:=two
  lia
theorem both(X:Gx K nn G){sx sy kx ky k:Str}(ne:sx≠sy)(tx:Tk K hx kx)(ty:Tk K hy ky)(fx:Ft hx)(fy:Ft hy)(xe:Xk K (hdL (G.map Fx.hd)) [sx,sy] [kx,ky] e k)(se:e.sz<=esz 3)(de:e.dp<=7){n:Nat}(hn:n<=100):
  ∃t τ m,AM 147 [vl (FTg G),vl (tF K),vl (UM [sx,sy] [hx,hy]),vl e.t,iv ((1:Nat):Int),bn n]=.ok (.t t) τ/\τ[5]?=some (bn m)/\RO (wW (rwG G) 20 [sx,sy] [hx,hy] e n) t m/\f_Lright cP cR (riA (Gx.P cP z0 K G) sx sy hx hy e n t)=.ok (.t (.v true)) (riA (Gx.P cP z0 K G) sx sy hx hy e n t):=by
 have hT:Tks K [hx,hy] [kx,ky]:=⟨tx,ty,True.intro⟩
 have hz:∀h∈[hx,hy],Ft h:=λh m=>by
  simp at m;rcases m with rfl|rfl
  .exact fx
  .exact fy
 obtain⟨t,τ,m,e1,e2,r⟩:=lW X.pg X.lrow 20 1 rfl [sx,sy] [hx,hy] [kx,ky] e n k hT hz xe (by lia) 147 (by lia);have M:=λa b=>mW (c:=rc cP cR (Gx.P cP z0 K G) [sx,sy] [hx,hy] e a b) X.pg (X.prow rfl rfl) 20 1 rfl [sx,sy] [hx,hy] [kx,ky] e n k hT hz xe (by lia)
 have es:esz 3=836:=rfl;have b1:esz 3*n<=836*100:=by rw[es];lia
 refine⟨t,τ,m,e1,e2,r,?_⟩;cases ew:wW (rwG G) 20 [sx,sy] [hx,hy] e n with|none =>rw[ew]at r M;cases r;exact QS (Zm ne (by have:=fx.1;lia) (by have:=fy.1;lia) λa b=>by obtain⟨j,q,l⟩:=M a b;exact⟨j,by lia,q⟩)|some p =>obtain⟨v,n'⟩:=p;rw[ew]at r M;obtain⟨rfl,rfl⟩:=r;obtain⟨_,fv,_⟩:=M 0 0;exact QR (by have:=fv.2;lia) (shape 60 _ (by have:=fv.2;lia) (by have:=fv.1;lia)) (Zl ne (by have:=fx.1;lia) (by have:=fy.1;lia) λa b=>by obtain⟨_,_,_,j,q,l⟩:=M a b;exact⟨j,n',by lia,q⟩)
theorem x_n4(h0:ga fs=.ok [.t a1,.t a2,.nw o,.t a4] ae)(hf:Fn [vl a1,vl a2,some (.bor o),vl a4]=.ok (.t t) τ):Ad (Ae 4 Fn) ga fs=.ok (.t t) ae:=C0 h0 rfl (by rw[show Cn ae _=[]from rfl];exact oS) hf (AU rfl)
theorem x_n6(h0:ga fs=.ok [.t a1,.t a2,.t a3,.t a4,.t a5,.nw o] ae)(hf:Fn [vl a1,vl a2,vl a3,vl a4,vl a5,some (.bor o)]=.ok (.t t) τ):Ad (Ae 6 Fn) ga fs=.ok (.t t) ae:=C0 h0 rfl (by rw[show Cn ae _=[]from rfl];exact oS) hf (AU rfl)
theorem YK(h:fs[i]?=some (some (.own (.n ks ts)))):fzW (Aa i) fs=.ok (.t (.dF ks ts)) (fs.set i (vl (.dF ks ts))):=by unfold fzW;rw[Cf h,BG (x:=.x i) True.intro];simp only[h]
theorem YJ(h:fs[i]?=some (vl t)):fzW (Aa i) fs=.ok (.t t) fs:=by unfold fzW;rw[Am h,BG (x:=.t t) True.intro]
theorem U8(h:fs[i]?=some (some (.own (.n ks ts)))):Ad Hi (Ab (Aa i) Af) fs=.ok (.nw (.n ks ts)) fs:=by refine Bf (CL (Cf h) True.intro A2) ?_;unfold Hi GP;simp only[Aq,h]
theorem Ed:∀G:List Fd,K5 (G.map rwD)=G.map rwV
 | []=>by simp[K5]
 |g::G=>by simp[K5,Ed G,rwD,toT]
theorem fz_pr{G:List Fd}:fzR (.nw (.ins cP PF [.val S,.n a b,.dO c (G.map rwD)])) fs=.ok (.t (.ins cP PF [S,.n a b,.n c (G.map rwV)])) fs:=by
 with_unfolding_all show Out.ok (Rv.t (toT _)) fs=_
 simp only[toT,K5,Ed]
theorem YI(h:fs[i]?=some (some (.own (.n ks ts)))):fzR (.x i) fs=.ok (.t (.n ks ts)) (fs.set i (vl (.n ks ts))):=by simp only[fzR,h];simp only[toT]
theorem Jam:MO (.t .l) (.t .l) fs=.ok (.t (.v false)) fs:=by with_unfolding_all rfl
theorem YE(h1:f fs=.ok (.t (.int a)) ae)(h2:g ae=.ok (.t (.int b)) aq)(hn:max a b=(n:Int)):Ad Ib (Ab f (Ab g Af)) fs=.ok (.t (.int n)) aq:=by refine Bf (Bq h1 (Bq h2 A2)) ?_;show okT (.int (if b>a then b else a)) aq=_;rw[show(if b>a then b else a)=(n:Int) by rw[<- hn];split<;>lia];rfl
theorem XC{hx hy:Th}(ne:sx≠sy)(dx:hx.dp<=30)(dy:hy.dp<=30):Jba false (.t (.dF [(.inr sx:Key),.inr sy] [hx.t,hy.t])) (.t (.n [(.inr sx:Key),.inr sy] [hx.t,hy.t])) fs=.ok (.t (.v true)) fs:=by
 have e:Jbb false (.t (.dF [(.inr sx:Key),.inr sy] [hx.t,hy.t])) (.t (.n [(.inr sx:Key),.inr sy] [hx.t,hy.t])) fs=.ok (.t (.v true)) fs:=by unfold Jbb;simp[GP,eqD,By,ne,Pt 60 hx (by lia),Pt 60 hy (by lia),okT]
 with_unfolding_all exact e
theorem Jal:¬Nf "":=by
 intro h;have e:=RE (z:="") (by decide +kernel);have:isNm ""=false:=by decide +kernel
 rw[Nf,e]at h;cases h
abbrev lawT(cP cR:Addr):FS->SO:=(Aj (BB (itU (Ao Be (Ab (fz (Aa 15)) (Ab (gc (.int 40)) Af)))) (tgN 16) (Aj (Av 17 (Ao Bm (Ab (fz (Aa 16)) Af)))
  (Aj (Av 18 (fz (Ad (Ae 6 (AM 147)) (Ac (fz (Aa 3)) (Ac (fz (Aa 2)) (Ac (fz (Aa 12)) (Ac (fz (Aa 11)) (Ac (gc (.int 1)) (Ac (Aa 17) Af)))))))))
  (ifS (CJ (DL (fz (Ad (Ae 5 (f_Lright cP cR)) (Ac (fz (Aa 4)) (Ac (fzW (Aa 14)) (Ac (fz (Aa 11)) (Ac (fz (Aa 16)) (Ac (fz (Aa 18)) Af))))))))) (retS (gc (.v false))) nxS))))
  (Aj (ifS (asB (Ag MO (Aa 18) (gc .l))) (BB (itU (Ao Be (Ab (Ag BX (gc (.int 40)) (Ag Ap (Aa 17) (gc (.int 0)))) (Ab (Ag BX (gc (.int 39)) (Ag Ap (Aa 17) (gc (.int 0)))) Af)))) (tgN 16) (Aj (Av 18 (fz (Ad (Ae 6 (AM 147)) (Ac (fz (Aa 3)) (Ac (fz (Aa 2)) (Ac (fz (Aa 12)) (Ac (fz (Aa 11)) (Ac (gc (.int 1)) (Ac (Ao Bm (Ab (Ad Ib (Ab (gc (.int 0)) (Ab (Aa 16) Af))) Af)) Af)))))))))
  (ifS (CJ (DL (fz (Ad (Ae 5 (f_Lright cP cR)) (Ac (fz (Aa 4)) (Ac (fzW (Aa 14)) (Ac (fz (Aa 11)) (Ac (Ad Ib (Ab (gc (.int 0)) (Ab (Aa 16) Af))) (Ac (fz (Aa 18)) Af))))))))) (retS (gc (.v false))) nxS))) nxS)
  (retS (Ag (Jba false) (Aa 14) (Aa 12)))))
theorem WE(X:Gx K nn G){sx sy kx ky k:Str}(ne:sx≠sy)(tx:Tk K hx kx)(ty:Tk K hy ky)(fx:Ft hx)(fy:Ft hy)(xe:Xk K (hdL (G.map Fx.hd)) [sx,sy] [kx,ky] e k)(se:e.sz<=esz 3)(de:e.dp<=7){mo:Nat}(jF:mo<=100)(dU:hx.dp<=30)(kY:hy.dp<=30):
  Sat (Rr λx=>x=.t (.v true)) (lawT cP cR [p0,p1,vl (tF K),vl (FTg G),vl (Gx.P cP z0 K G),p5,p6,p7,p8,p9,p10,vl e.t,some (.own (.n [(.inr sx:Key),.inr sy] [hx.t,hy.t])),p13,some (.own (.n [(.inr sx:Key),.inr sy] [hx.t,hy.t])),iv mo,none,none,none]):=by
 have B:∀n:Nat,n<=100->∃t m,(∃τ,AM 147 [vl (FTg G),vl (tF K),vl (.n [(.inr sx:Key),.inr sy] [hx.t,hy.t]),vl e.t,vl (.int 1),some (.bor (.lst [.int n]))]=.ok (.t t) τ/\τ[5]?=some (some (.bor (.lst [.int m]))))/\RO (wW (rwG G) 20 [sx,sy] [hx,hy] e n) t m/\(∃τ,f_Lright cP cR [vl (Gx.P cP z0 K G),vl (.dF [(.inr sx:Key),.inr sy] [hx.t,hy.t]),vl e.t,vl (.int n),vl t]=.ok (.t (.v true)) τ):=λn hn=>by obtain⟨t,τ,m,e1,e2,r,q⟩:=both X ne tx ty fx fy xe se de hn;exact⟨t,m,⟨τ,e1,e2⟩,r,⟨_,q⟩⟩
 unfold lawT;apply Bb (I:=λD fs=>(D=[]/\fs=[p0,p1,vl (tF K),vl (FTg G),vl (Gx.P cP z0 K G),p5,p6,p7,p8,p9,p10,vl e.t,some (.own (.n [(.inr sx:Key),.inr sy] [hx.t,hy.t])),p13,some (.own (.n [(.inr sx:Key),.inr sy] [hx.t,hy.t])),iv mo,none,none,none])\/∃n t m,D.getLast?=some n/\fs=[p0,p1,vl (tF K),vl (FTg G),vl (Gx.P cP z0 K G),p5,p6,p7,p8,p9,p10,vl e.t,vl (.n [(.inr sx:Key),.inr sy] [hx.t,hy.t]),p13,vl (.dF [(.inr sx:Key),.inr sy] [hx.t,hy.t]),iv mo,iv (n:Nat),some (.own (.lst [.int m])),vl t]/\RO (wW (rwG G) 20 [sx,sy] [hx,hy] e n) t m) (xs:=[mo,40]) (p:=λn=>T.int ((n:Nat):Int))
 case hi=>trivial
 case h0=>exact .inl ⟨rfl,rfl⟩
 case st =>
  rintro D n R _ eD I
  have hn:n<=100:=by
   have:n∈[mo,40]:=by rw[<- eD];simp
   simp at this
   lia
  obtain⟨t,m,⟨_,w1,w2⟩,r,⟨_,q⟩⟩:=B n hn;rcases I with⟨_,rfl⟩|⟨n',t',m',_,rfl,_⟩
  .trivial;exact .inr ⟨n,t,m,by simp,rfl,r⟩
  .trivial;exact .inr ⟨n,t,m,by simp,rfl,r⟩
 case k =>
  rintro _ (⟨h,_⟩|⟨n,t,m,hl,rfl,r⟩)
  .simp at h
  simp at hl;subst hl;have aN:∀e8 jZ bW,Sat (Rr λx=>x=.t (.v true)) (retS (Ag (Jba false) (Aa 14) (Aa 12)) [p0,p1,vl (tF K),vl (FTg G),vl (Gx.P cP z0 K G),p5,p6,p7,p8,p9,p10,vl e.t,vl (.n [(.inr sx:Key),.inr sy] [hx.t,hy.t]),p13,vl (.dF [(.inr sx:Key),.inr sy] [hx.t,hy.t]),iv mo,e8,jZ,bW]):=λe8 jZ bW=>by
   trivial
   .exact XC ne dU kY
   trivial
  cases ew:wW (rwG G) 20 [sx,sy] [hx,hy] e 40 with
  |none =>
   rw[ew]at r;cases r;apply FR
   .trivial;exact Jam
   .intro h;cases h
   .intro _;apply VB;exact aN _ _ _
  |some p =>
   obtain⟨v,n'⟩:=p;rw[ew]at r;obtain⟨rfl,rfl⟩:=r;obtain⟨mv,ev⟩:=v.t_eq;rw[ev];apply FR
   .trivial
   .intro _;apply Bb (I:=λD fs=>∃e8 bW,fs=[p0,p1,vl (tF K),vl (FTg G),vl (Gx.P cP z0 K G),p5,p6,p7,p8,p9,p10,vl e.t,vl (.n [(.inr sx:Key),.inr sy] [hx.t,hy.t]),p13,vl (.dF [(.inr sx:Key),.inr sy] [hx.t,hy.t]),iv mo,e8,some (.own (.lst [.int n'])),bW]/\Fre e8/\Fre bW) (xs:=[40-(n':Int),39-(n':Int)])
    case hi=>trivial
    case h0=>exact⟨_,_,rfl,Ak,Ak⟩
    case st =>
     rintro D x R _ eD ⟨e8,bW,rfl,f16,f18⟩
     have lR:x<=40:=by
      have:x∈[40-(n':Int),39-(n':Int)]:=by rw[<- eD];simp
      simp at this
      lia
     obtain⟨n2,en⟩:∃n2:Nat,max 0 x=(n2:Int):=⟨(max 0 x).toNat,by lia⟩
     obtain⟨t,m,⟨_,w1,w2⟩,r,⟨_,q⟩⟩:=B n2 (by lia);have jG:∀bW:Option Sl,Ad Ib (Ab (gc (.int 0)) (Ab (Aa 16) Af)) [p0,p1,vl (tF K),vl (FTg G),vl (Gx.P cP z0 K G),p5,p6,p7,p8,p9,p10,vl e.t,vl (.n [(.inr sx:Key),.inr sy] [hx.t,hy.t]),p13,vl (.dF [(.inr sx:Key),.inr sy] [hx.t,hy.t]),iv mo,iv x,some (.own (.lst [.int n'])),bW]=.ok (.t (.int n2)) [p0,p1,vl (tF K),vl (FTg G),vl (Gx.P cP z0 K G),p5,p6,p7,p8,p9,p10,vl e.t,vl (.n [(.inr sx:Key),.inr sy] [hx.t,hy.t]),p13,vl (.dF [(.inr sx:Key),.inr sy] [hx.t,hy.t]),iv mo,iv x,some (.own (.lst [.int n'])),bW]:=λbW=>YE Ei (Am rfl) en
     have m1:=jG bW;have m2:=jG (vl t);have hw:Ad (Ae 6 (AM 147)) (Ac (fz (Aa 3)) (Ac (fz (Aa 2)) (Ac (fz (Aa 12)) (Ac (fz (Aa 11)) (Ac (gc (.int 1)) (Ac (Ao Bm (Ab (Ad Ib (Ab (gc (.int 0)) (Ab (Aa 16) Af))) Af)) Af)))))) [p0,p1,vl (tF K),vl (FTg G),vl (Gx.P cP z0 K G),p5,p6,p7,p8,p9,p10,vl e.t,vl (.n [(.inr sx:Key),.inr sy] [hx.t,hy.t]),p13,vl (.dF [(.inr sx:Key),.inr sy] [hx.t,hy.t]),iv mo,iv x,some (.own (.lst [.int n'])),bW]=.ok (.t t) [p0,p1,vl (tF K),vl (FTg G),vl (Gx.P cP z0 K G),p5,p6,p7,p8,p9,p10,vl e.t,vl (.n [(.inr sx:Key),.inr sy] [hx.t,hy.t]),p13,vl (.dF [(.inr sx:Key),.inr sy] [hx.t,hy.t]),iv mo,iv x,some (.own (.lst [.int n'])),bW]:=by
      apply x_n6
      .trivial
       done
      .exact w1
     apply Zx
     .trivial
     refine(?_:Sat _ (Aj _ _ [p0,p1,vl (tF K),vl (FTg G),vl (Gx.P cP z0 K G),p5,p6,p7,p8,p9,p10,vl e.t,vl (.n [(.inr sx:Key),.inr sy] [hx.t,hy.t]),p13,vl (.dF [(.inr sx:Key),.inr sy] [hx.t,hy.t]),iv mo,iv x,some (.own (.lst [.int n'])),bW]));apply Bl
     .trivial
     refine(?_:Sat _ (ifS _ _ _ [p0,p1,vl (tF K),vl (FTg G),vl (Gx.P cP z0 K G),p5,p6,p7,p8,p9,p10,vl e.t,vl (.n [(.inr sx:Key),.inr sy] [hx.t,hy.t]),p13,vl (.dF [(.inr sx:Key),.inr sy] [hx.t,hy.t]),iv mo,iv x,some (.own (.lst [.int n'])),vl t]));trivial;exact⟨_,_,rfl,Ak,Ak⟩
    case k =>
     rintro _ ⟨e8,bW,rfl,_,_⟩
     exact aN _ _ _
   .intro h;cases h
theorem good(cP cR zF z0:Addr):∀ns:List Int,ns.length<=63->Ca ns<=2^20->∃fs,f_law cP cR zF z0 [some (.val (.zX (ns.map T.int)))]=.ok (.t (.v true)) fs:=by
 intro ns hlen hb;have cS:=λi=>S8 hb i
 obtain⟨K,⟨h1,h4,KO,hu⟩,_,ek⟩:=Jay (cS 0) (cS 1);have W:=well h1 h4 KO hu;obtain⟨_,et⟩:=YZ W.nd (by lia);have hM:∀x∈mks K,x∈nms (ns.getD 1 0) 12:=λx m=>by have:=(HM KO (by rw[B6];exact hu) K.length (n9 _)).1;rw[pQ]at this;rw[this]at m;exact pI m
 have mY:=pd (ns.getD 4 0) (show(3:Int)≠0 by decide);have mZ:=oZ (ns.getD 4 0) (show(0:Int)<3 by decide);obtain⟨_,_,ef,G,rfl,gE,g3,jl,jm,g9⟩:=Gj W hM (cS 2) (cS 3) (cnt:=1+(ns.getD 4 0%3).toNat) (by lia) (by lia);have X:Gx K (nms (ns.getD 3 0) 4) G:=⟨W,B6 _ _,Df _ (by lia),λx m=>by obtain⟨i,rfl⟩:=Eu m;exact DD _ _,gE,g3,jl,jm,g9⟩
 rw[show(((1+(ns.getD 4 0%3).toNat:Nat)):Int)=1+ns.getD 4 0%3 by lia]at ef;obtain⟨_,si⟩:=Kf W;obtain⟨_,pi⟩:=Ja W (.inl rfl) (by rw[nX];lia) (by simpa using gE) X.fok;obtain⟨_,nJ⟩:=Jj (n:=2) (by lia) (cS 5);obtain⟨_,m7⟩:=Cj ns 4;obtain⟨_,m8⟩:=Cj ns 5;obtain⟨_,m9⟩:=Cj ns 6;obtain⟨_,ng⟩:=Cj ns 7;rw[show(G.map λg=>g.fd.t)=(G.map Fx.fd).map Fd.t by rw[om];rfl]at ef;apply Cd;unfold b_law;apply Bl
 .trivial
 apply Bl
 .trivial
 apply Bl
 .trivial
 apply Bl
 .trivial
  .exact fz_pr
  trivial
 apply Bl
 .trivial
 refine(?_:Sat _ (Aj _ _ [vl (.zX (ns.map T.int)),vl (.lst (K.map BP)),vl (tF K),vl (FTg G),vl (Gx.P cP z0 K G),vl (.lst ((nms (ns.getD 5 0) 2).map T.str)),none,none,none,none,none,none,none,none,none,none,none,none,none]));have gk:0<(K.map BP).length:=by rw[nX];exact W.lo
 have i6:∀i:Nat,∃kd∈K,atI (K.map BP) (ns.getD 6 0/(1+(i:Int))%((K.map BP).length:Int))=some (BP kd):=λi=>Ge (by intro h;rw[h]at h1;simp at h1) BP _
 obtain⟨ka,lY,ia⟩:=i6 0;obtain⟨kb,lZ,ib⟩:=i6 1;unfold BP at ia ib;apply Bl
 .trivial
  .exact(rfl:(2:Int)=((2:Nat):Int))
  .decide
  .trivial
  .apply Jb7 (vs:=[.str ka.1,.str kb.1])
   .trivial
   .refine .cons ?_ (.cons ?_ .nil)
    .trivial
    .trivial
   .decide
  trivial
 refine(?_:Sat _ (Aj _ _ [vl (.zX (ns.map T.int)),vl (.lst (K.map BP)),vl (tF K),vl (FTg G),vl (Gx.P cP z0 K G),vl (.lst ((nms (ns.getD 5 0) 2).map T.str)),vl (.lst (([ka.1,kb.1]:List Str).map T.str)),none,none,none,none,none,none,none,none,none,none,none,none]));apply Bl
 .trivial
 apply Bl
 .trivial
  .rw[om];apply Dw
   .trivial
   .intro g _;rw[Function.comp];trivial;exact sl3
   .lia
  trivial
 rw[CO];refine(?_:Sat _ (Aj _ _ [vl (.zX (ns.map T.int)),vl (.lst (K.map BP)),vl (tF K),vl (FTg G),vl (Gx.P cP z0 K G),vl (.lst ((nms (ns.getD 5 0) 2).map T.str)),vl (.lst (([ka.1,kb.1]:List Str).map T.str)),vl (.lst (((nms (ns.getD 5 0) 2).zip [ka.1,kb.1]).map pnT)),vl (.lst (G.map λg=>cT g.hd)),none,none,none,none,none,none,none,none,none,none]));obtain⟨sx,sy,esx,ne⟩:∃sx sy,nms (ns.getD 5 0) 2=[sx,sy]/\sx≠sy:=by have:=Df (ns.getD 5 0) (n:=2) (by lia);refine⟨nmS (ns.getD 5 0) 0,nmS (ns.getD 5 0) 1,rfl,λe=>?_⟩;rw[show nms (ns.getD 5 0) 2=[nmS (ns.getD 5 0) 0,nmS (ns.getD 5 0) 1]from rfl,e]at this;simp at this
 rw[esx];obtain⟨G0,gl,eG⟩:∃G0 gl,G=G0++[gl]:=⟨G.dropLast,G.getLast gE,(oG gE).symm⟩
 have il:atI (G.map λg=>cT g.hd) (-1)=some (cT gl.hd):=by rw[eG,nU];exact Qg
 have lX:gl∈G:=by rw[eG];simp
 obtain⟨kl,mkl,ekl⟩:∃kl∈K,kl.1=gl.k:=by obtain⟨D,R,e⟩:=oY lX;exact oo.mp ((g9 D gl R e.symm).ind gl.k (by simp))
 obtain⟨d5,l5,_,km⟩:=Gm (.inl rfl) (a:=5) (b:=6) (by decide) (by decide) (by decide) (by decide);have O:DrOk ⟨K,[sx,sy].zip [ka.1,kb.1],G.map Fx.hd,.lst ((G.map Fx.hd).map cT),"",[],"",[]⟩ (hdL (G.map Fx.hd)) [sx,sy] [ka.1,kb.1]:=by
  refine⟨W,by simp,by show(G.map Fx.hd).length<=100;rw[nX];lia,by simp,.inl rfl,λp m=>F9 (by simp[ne]) m,λc m=>?_,λh=>absurd rfl h⟩;have hn:((G.map Fx.hd).map (·.1)).Nodup:=by rw[om];exact jl
  obtain⟨g,mg,rfl⟩:=oo.mp m;obtain⟨D,R,e⟩:=oY mg;have Og:=g9 D g R e.symm;obtain⟨kd,ks,_,cI,l2,_⟩:=Og.ex;exact⟨HY hn m,λe=>Jal (by have e:g.nm="":=e;rw[<- e];exact(jm g mg).1),by show g.ks.length<=3;rw[cI];simp;lia,λq mq=>Og.ind q (o7 _ mq)⟩
 obtain⟨_,jc,e1,es,e5,_,e,rfl,xe,_,se,de⟩:=Px O 3 4 (by lia) kl mkl d5 (by rw[l5];decide);rw[ekl]at e1 xe;simp only[Dr.known,Dr.own]at e1;rw[om]at e1;apply Bl
 .trivial
 apply Bl
 .trivial
 apply Bl
 .trivial
 apply Bl
 .trivial
 refine(?_:Sat _ (Aj _ _ [vl (.zX (ns.map T.int)),vl (.lst (K.map BP)),vl (tF K),vl (FTg G),vl (Gx.P cP z0 K G),vl (.lst (([sx,sy]:List Str).map T.str)),vl (.lst (([ka.1,kb.1]:List Str).map T.str)),vl (.lst ((([sx,sy]:List Str).zip [ka.1,kb.1]).map pnT)),vl (.lst (G.map λg=>cT g.hd)),vl (.str gl.k),some (.own (.lst (es.map T.int))),vl e.t,some (.own (.n [] [])),none,none,none,none,none,none]));have grow:∀(i:Nat)(kd:Str×List (Str×List Str)),i<=1->kd∈K->∃ds:List Int,(∃τ,BR [vl (.zX (ns.map T.int)),vl (.int (6+(i:Int))),vl (.int 8)]=.ok (.nw (.lst (ds.map T.int))) τ)/\∃h:Th,(∃τ,DH 8 [vl (tF K),vl (.str kd.1),some (.bor (.lst (ds.map T.int))),vl (.int 3)]=.ok (.t h.t) τ)/\Tk K h kd.1/\Ft h/\h.dp<=7:=λi kd hi mk=>by obtain⟨ds,l,_,dg⟩:=Gm (.inl rfl) (a:=6+(i:Int)) (b:=8) (by lia) (by lia) (by decide) (by decide);obtain⟨a,ha⟩:=List.mem_iff_getElem?.mp mk;obtain⟨_,_,t1,h,bp,rfl,rfl,sq,_⟩:=O1 W 8 3 a 3 kd ds ha rfl (by unfold need;simp) (by rw[l];decide);have d7:h.dp<=7:=sq.2.1;have s7:h.sz+1<=128:=sq.2.2;exact⟨ds,⟨_,dg⟩,h,⟨_,t1⟩,sq.1,by unfold Ft;lia,d7⟩
 obtain⟨dx,⟨_,nh⟩,hx,⟨_,gx⟩,mO,kL,nj⟩:=grow 0 ka (by lia) lY;obtain⟨dy,⟨_,ni⟩,hy,⟨_,gy⟩,mP,kM,nq⟩:=grow 1 kb (by lia) lZ;have nk:(.inr sy:Key)∉[(.inr sx:Key)]:=by simp;exact λe=>ne e.symm
 apply Bb (I:=λD fs=>∃dv,fs=[vl (.zX (ns.map T.int)),vl (.lst (K.map BP)),vl (tF K),vl (FTg G),vl (Gx.P cP z0 K G),vl (.lst (([sx,sy]:List Str).map T.str)),vl (.lst (([ka.1,kb.1]:List Str).map T.str)),vl (.lst ((([sx,sy]:List Str).zip [ka.1,kb.1]).map pnT)),vl (.lst (G.map λg=>cT g.hd)),vl (.str gl.k),some (.own (.lst (es.map T.int))),vl e.t,some (.own (.n (([(.inr sx:Key),.inr sy]).take D.length) ([hx.t,hy.t].take D.length))),dv,none,none,none,none,none]/\Fre dv) (xs:=List.range 2)
 case hi =>
  trivial
  .exact(rfl:(2:Int)=((2:Nat):Int))
  .decide
 case h0=>exact⟨none,rfl,True.intro⟩
 case st =>
  rintro D a R _ eD ⟨dv,rfl,f13⟩
  obtain⟨rfl,ha⟩:=Km eD;rcases(show D.length=0\/D.length=1 by lia)with l|l<;>rw[l]<;>rw[oi,oI,l]
  .trivial
   .simp
   .simp
   trivial;exact⟨_,rfl,Ak⟩
  .trivial;exact⟨_,rfl,Ak⟩
 case k =>
  rintro _ ⟨dv,rfl,f13⟩
  rw[o8];obtain⟨mo,jF,i15⟩:∃mo:Nat,mo<=100/\atI [T.int (ns.getD 7 0/4%31),T.int 100] (if decide (ns.getD 7 0%4=1)=true then 1 else 0)=some (.int mo):=by
   have a1:=pd (ns.getD 7 0/4) (show(31:Int)≠0 by decide);have a2:=oZ (ns.getD 7 0/4) (show(0:Int)<31 by decide);by_cases h:ns.getD 7 0%4=1
   .exact⟨100,by lia,by simp only[h,decide_true,if_true];exact at1⟩
   .refine⟨(ns.getD 7 0/4%31).toNat,by lia,?_⟩;rw[show(((ns.getD 7 0/4%31).toNat:Nat):Int)=ns.getD 7 0/4%31 by lia];simp only[h,decide_false];exact at0
  apply Bl
  .trivial
  apply Bl
  .trivial
  refine(?_:Sat _ (Aj _ _ [vl (.zX (ns.map T.int)),vl (.lst (K.map BP)),vl (tF K),vl (FTg G),vl (Gx.P cP z0 K G),vl (.lst (([sx,sy]:List Str).map T.str)),vl (.lst (([ka.1,kb.1]:List Str).map T.str)),vl (.lst ((([sx,sy]:List Str).zip [ka.1,kb.1]).map pnT)),vl (.lst (G.map λg=>cT g.hd)),vl (.str gl.k),some (.own (.lst (es.map T.int))),vl e.t,some (.own (.n [(.inr sx:Key),.inr sy] [hx.t,hy.t])),dv,some (.own (.n [(.inr sx:Key),.inr sy] [hx.t,hy.t])),iv mo,none,none,none]));exact WE X ne mO mP kL kM xe se de jF (by lia) (by lia)
end
theorem us1{α:Type}{us:List α}(e:us.length=1):∃a,us=[a]:=by match us,e with| [a],_=>exact⟨a,rfl⟩
theorem us2{α:Type}{us:List α}(e:us.length=2):∃a b,us=[a,b]:=by match us,e with| [a,b],_=>exact⟨a,b,rfl⟩
theorem us3{α:Type}{us:List α}(e:us.length=3):∃a b c,us=[a,b,c]:=by match us,e with| [a,b,c],_=>exact⟨a,b,c,rfl⟩
theorem us4{α:Type}{us:List α}(e:us.length=4):∃a b c d,us=[a,b,c,d]:=by match us,e with| [a,b,c,d],_=>exact⟨a,b,c,d,rfl⟩
theorem us5{α:Type}{us:List α}(e:us.length=5):∃a b c d e,us=[a,b,c,d,e]:=by match us,e with| [a,b,c,d,e],_=>exact⟨a,b,c,d,e,rfl⟩
theorem us6{α:Type}{us:List α}(e:us.length=6):∃a b c d e f,us=[a,b,c,d,e,f]:=by match us,e with| [a,b,c,d,e,f],_=>exact⟨a,b,c,d,e,f,rfl⟩
theorem us7{α:Type}{us:List α}(e:us.length=7):∃a b c d e f g,us=[a,b,c,d,e,f,g]:=by match us,e with| [a,b,c,d,e,f,g],_=>exact⟨a,b,c,d,e,f,g,rfl⟩
abbrev DF(K:Fg)(n:Str)(st:Stmt):Prop:=∃f fd,nsIn K mainGlobals n=some (some (.ref f))/\Fun K n n st f fd
abbrev DM(K:Fg)(C:Addr)(m q:Str)(st:Stmt):Prop:=∃f fd,findIn K (.ref C) m=some (some (.ref f))/\isFn K (.ref f)=true/\Fun K m q st f fd
structure CC(K:Fg)(x:Str)(C:Addr):Prop where
 ac:nsIn K mainGlobals x=some (some (.ref C))
 xA:makesIn K C=true
 kc:keepIn K (.ref C)=true
abbrev aF(P:Program)(w:World)(K:Fg)(mg:Zsv)(base:Heap)(n:Str)(k:Nat)(ps:List Str)(p:Nat)(Fn:sT):Prop:=FnAt P w K mg base (CX1 P w) n k ps (spX K p Fn)
abbrev aM(P:Program)(w:World)(K:Fg)(mg:Zsv)(base:Heap)(C:Addr)(n:Str)(k:Nat)(ps:List Str)(p:Nat)(Fn:sT):Prop:=Yf P w K mg base (CX1 P w) C n k ps (spX K p Fn)
abbrev aK(P:Program)(w:World)(K:Fg)(mg:Zsv)(base:Heap)(n:Str)(C:Addr)(k:Nat)(ps:List Str)(p:Nat)(Fn:sT):Prop:=MkAt P w K mg base (CX1 P w) n C k ps (spX K p Fn)
section
variable{P:Program}{w:World}{K:Fg}{mg:Zsv}{base h:Heap}{CX:CXT}{n m q:Str}{st:Stmt}{k:Nat}{ps:List Str}{sp:Sp}{C:Addr}(X:K.In h)(G:h.Ns mainGlobals mg)
abbrev BA(x q:Str)(st:Stmt)(ps:List Str):Prop:=∀(kV bJ pm:Value)(an:Option Addr)(cdv ct:Value)(us:List Value),us.length=ps.length->bindArgs (fnOf x q (Gp st) (D7 st) (Bk st) .none kV bJ pm an cdv ct) ⟨us,[]⟩=pure (ps.zip us)
theorem Ya(X:K.In h)(G:h.Ns mainGlobals mg)(d:DF K n st)(B:BA n n st ps)(O:∀f fd,Fun K n n st f fd->(∀k sp,EY P w K mg base CX k f fd ps sp->FnAt P w K mg base CX n k ps sp)->EY P w K mg base CX k f fd ps sp):FnAt P w K mg base CX n k ps sp :=
 let⟨f,fd,a,F⟩:=d
 ⟨f,fd,O f fd F λ_ _ o=>⟨f,fd,o,mg_of X G a,F.kp,F.binds B⟩,mg_of X G a,F.kp,F.binds B⟩
theorem UR(X:K.In h)(G:h.Ns mainGlobals mg)(d:DF K n st)(B:BA n n st ps){j p:Nat}{F:Nat->sT}(hp:ps.length=p)(h0:F 0=λ_=>.bad)(O:∀i f fd,Fun K n n st f fd->FnAt P w K mg base (CX1 P w) n (j+i) ps (spX K p (F i))->EY P w K mg base (CX1 P w) (j+i+1) f fd ps (spX K p (F (i+1)))):∀i,FnAt P w K mg base (CX1 P w) n (j+i) ps (spX K p (F i))
 |0=>Ya X G d B λf fd Fu _=>⟨λvs H Q E h=>h.1.trans hp.symm,λA outer s H args us vs Q E hr he hb hv h=>by obtain⟨_,F,cM,ok,h⟩:=h;rw[h0]at h;exact h.elim⟩
 |i+1=>Ya X G d B λf fd Fu _=>O i f fd Fu (UR X G d B hp h0 O i)
theorem at_rc{i j p:Nat}{F:Nat->sT}(X:K.In h)(G:h.Ns mainGlobals mg)(hk:k=j+i)(hp:ps.length=p)(h0:F 0=λ_=>.bad)(d:DF K n st)(B:BA n n st ps)(O:∀i f fd,Fun K n n st f fd->FnAt P w K mg base (CX1 P w) n (j+i) ps (spX K p (F i))->EY P w K mg base (CX1 P w) (j+i+1) f fd ps (spX K p (F (i+1)))):FnAt P w K mg base (CX1 P w) n k ps (spX K p (F i)):=hk▸UR X G d B hp h0 O i
theorem at_mt(c:Cls K C)(d:DM K C m q st)(B:BA m q st ps)(O:∀f fd,Fun K m q st f fd->EY P w K mg base CX k f fd ps sp):Yf P w K mg base CX C m k ps sp :=
 let⟨f,fd,a,i,F⟩:=d
 ⟨c,f,fd,O f fd F,⟨a,i,F.kp⟩,F.binds B⟩
theorem at_mk(X:K.In h)(G:h.Ns mainGlobals mg)(c:CC K n C)(d:DM K C "__init__" q st)(B:BA "__init__" q st ps)(O:∀f fd,Fun K "__init__" q st f fd->EY P w K mg base CX k f fd ps sp):MkAt P w K mg base CX n C k ps sp :=
 let⟨f,fd,a,i,F⟩:=d
 ⟨mg_of X G c.ac,f,fd,O f fd F,⟨c.xA,a,i,c.kc⟩,F.binds B⟩
end
def QF(K:Fg):Sp:=λvs H Q _=>∃(a:Addr)(ns:List Int),vs=[.ref a]/\SqL K H a (ns.map V.int)/\ns.length<=63/\Ca ns<=2^20/\∀H',Q (.v true) H'
theorem Lh{K:Fg}{F:Wd}{H:Hp}:∀(ns:List Int),Ah K F H (ns.map T.int) (ns.map V.int)
 | []=>by simp[Ah]
 |n::ns=>by simp only[nQ,Ah];exact⟨_,_,rfl,by simp[Ay],Lh ns⟩
theorem Jax{K:Fg}{Fn:sT}(good:∀ns:List Int,ns.length<=63->Ca ns<=2^20->∃fs,Fn [some (.val (.zX (ns.map T.int)))]=.ok (.t (.v true)) fs):∀vs H Q E,QF K vs H Q E->spX K 1 Fn vs H Q E:=by
 intro vs H Q E ⟨a,ns,e,hs,hl,hb,k⟩;subst e;obtain⟨fs,eg⟩:=good ns hl hb;have key:∀F:Wd,StL K F H a (ns.map V.int)->(∀b,H b=none->F.o b=.no)->spX K 1 Fn [.ref a] H Q E:=λF st fd=>by
  refine⟨rfl,F,[some (.val (.zX (ns.map T.int)))],⟨rfl,λi s e=>?_,fd⟩,?_⟩
  .cases i with|zero=>cases e;exact⟨.ref a,rfl,by simp only[FL.SlR,Ay];exact⟨a,_,rfl,st,Lh ns⟩⟩|succ i=>cases e
  .rw[eg];intro F' H' u ax _ q;have:u=.v true:=q.2;subst this;exact k H'
 rcases hs with hs|hs
 .exact key ((⟨λ_=>.no⟩:Wd).tag a .fz) (.inl ⟨A3,hs⟩) λb z=>Bo λe=>by subst e;rcases hs with q|⟨o,q⟩<;>(rw[q]at z;cases z)
 .exact key ⟨λ_=>.no⟩ (.inr hs) λ_ _=>rfl
structure Ds(K:Fg)(ao ah ai ag:Addr):Prop where
 d0:DF K "_law_digits" (top 55)
 d1:DF K "_law_names" (top 56)
 d2:DF K "_law_cell_at" (top 53)
 d3:DF K "_law_parts" (top 57)
 d4:DF K "_law_kinds" (top 58)
 d5:DF K "_law_table" (top 59)
 d6:DF K "_law_choices" (top 63)
 d7:DF K "_law_least" (top 62)
 d8:DF K "_law_expression" (top 64)
 d9:DF K "_law_function" (top 65)
 yo:DF K "_law_functions" (top 66)
 yn:DF K "is_name" (top 31)
 ym:DM K ag "makers" "Stock.makers" (inClass (top 47) 2)
 yj:DM K ag "kinds" "Stock.kinds" (inClass (top 47) 1)
 yi:DF K "is_maker" (top 40)
 yh:DF K "check_head" (top 39)
 yg:DM K ag "parts" "Stock.parts" (inClass (top 47) 3)
 yf:DF K "check_names" (top 42)
 ye:DM K ag "home" "Stock.home" (inClass (top 47) 4)
 yd:DF K "kinds_of_head" (top 38)
 yF:DF K "kind_of_name" (top 37)
 yc:DF K "kind_within" (top 36)
 yb:DM K ai "__init__" "Scope.__init__" (inClass (top 35) 0)
 ya:DF K "check_row" (top 41)
 x9:DM K ah "__init__" "Program.__init__" (inClass (top 34) 0)
 x8:DF K "check_kinds" (top 48)
 xZ:DF K "check_maker" (top 50)
 xY:DF K "check_ground" (top 51)
 xX:DF K "check_makers" (top 49)
 xW:DM K ag "__init__" "Stock.__init__" (inClass (top 47) 0)
 xV:DF K "_law_grown" (top 60)
 xU:DF K "_law_row_of" (top 69)
 xT:DF K "_law_size_of" (top 67)
 xS:DF K "_law_depth_of" (top 68)
 xR:DF K "_law_worth" (top 70)
 xQ:DM K ao "await_arguments" "Run.await_arguments" (inClass (top 26) 2)
 xP:DM K ah "row" "Program.row" (inClass (top 34) 3)
 xO:DF K "layer_counts" (top 19)
 xN:DF K "weighed" (top 25)
 xM:DM K ao "await_body" "Run.await_body" (inClass (top 26) 3)
 xK:DF K "made" (top 27)
 xJ:DM K ao "taken" "Run.taken" (inClass (top 26) 4)
 xI:DM K ao "worth" "Run.worth" (inClass (top 26) 1)
 xH:DM K ao "__init__" "Run.__init__" (inClass (top 26) 0)
 xG:DF K "run" (top 24)
 xF:DF K "_law_shape" (top 73)
 xE:DF K "_law_classes" (top 71)
 xD:DF K "_law_which" (top 72)
 xC:DF K "_law_right" (top 74)
 xB:DF K "law" (top 75)
section
variable{P:Program}{w:World}{K:Fg}{mg:Zsv}{base h:Heap}{ao ah ai ag:Addr}(X:K.In h)(G:h.Ns mainGlobals mg)(T:Tx K mg ao ah ai ag)(C_Run:CC K "Run" ao)(C_Program:CC K "Program" ah)(C_Scope:CC K "Scope" ai)(C_Stock:CC K "Stock" ag)(D:Ds K ao ah ai ag)
abbrev ad:Str:="_law_table_here"
abbrev al:Str:="_law_script"
abbrev am:Str:="_law_names_here"
abbrev ap:Str:="_law_kind"
abbrev bi:Str:="_law_expression_here"
abbrev bl:Str:="_law_functions_here"
abbrev bv:Str:="_law_parts_here"
abbrev ce:Str:="_law_kinds_here"
abbrev ci:Str:="self"
abbrev cr:Str:="_law_purse"
abbrev db:Str:="maker"
abbrev dK:Str:="_law_calls"
abbrev dL:Str:="function"
abbrev ge:Str:="_law_setting"
abbrev ii:Str:="_law_at"
abbrev im:Str:="_law_known"
abbrev jp:Str:="_law_maker"
abbrev kt:Str:="parts"
abbrev li:Str:="expression"
abbrev lm:Str:="_law_thing"
abbrev lv:Str:="_law_got"
abbrev lw:Str:="kinds"
abbrev ms:Str:="stock"
abbrev na:Str:="_law_k"
abbrev ol:Str:="_law_program"
abbrev ow:Str:="_law_rows"
abbrev pc:Str:="_law_name"
abbrev pr:Str:="names"
abbrev py:Str:="_law_kept"
abbrev qJ:Str:="_law_count"
abbrev qK:Str:="_law_spent"
abbrev qL:Str:="kinds_by_name"
abbrev qM:Str:="_law_down"
abbrev qN:Str:="kind"
abbrev qO:Str:="name"
abbrev qP:Str:="makers_ahead"
abbrev qQ:Str:="_law_most"
abbrev qR:Str:="kinds_above"
abbrev qS:Str:="_law_own"
abbrev qT:Str:="_law_due"
abbrev qU:Str:="heads"
abbrev qV:Str:="scope"
seal FE FT FA FW FP GS GSs GT GTs FI FAn FIf
include X G T C_Run C_Program C_Scope C_Stock D
local macro_rules(kind:=Lean.Parser.Command.mutual)|s=>do
 let t:=((s.find? (·.isOfKind ``Lean.Parser.Tactic.tacticSeq1Indented)).get!)[0].getSepArgs
 let E:=Lean.Syntax.isOfKind (k:=`Lean.Parser.Tactic.«tacticExists_,,»)
 let o<-t[0]!.replaceM λx=>if E x then some<$>Zz9 x[1][0].isStrLit?.get! else return none
 let r i y:Lean.TSyntax `tactic:=⟨t[i]!.rewriteBottomUp λx=>if x.isIdent&&x.getId==`zz then y else if x.isOfKind ``Lean.Parser.Tactic.tacticTrivial then o else x⟩
 return Lean.mkNullNode (<-(s[1].getArgs.extract 1).mapM (·.replaceM λx=>if x.isOfKind ``Lean.Parser.Tactic.tacticTrivial then return some o else if !E x then return none else do
  let a:=x[1].getSepArgs.reverse
  let n:=a[0]!.isNatLit?
  let l:=if n==none then a.reverse.map (r 3) else ((a.extract 3).reverse.map (r 3)).push (r (if n==some 0 then 1 else 2) a[2]!) |>.push (r 4 a[1]!)
  `(tactic|($[$l];*))))
mutual
example:True:=by
 (
  intro cdv A outer s H E _ _ hr lk;have hu:=hu_of hr;have a0:=T.zz;have a1:=T.zR;have a2:=T.yZ;have a3:=T.yY;have a4:=T.zu;have a5:=T.zY;have a6:=T.zr;have a7:=T.zS;have a8:=T.zo;have a9:=T.zJ;have a10:=T.zD;have a11:=T.zm;have a12:=T.zM;have a13:=T.zq;have a14:=T.zb;have a15:=T.zl;have a16:=T.zL;have a17:=T.zO;have a18:=T.zN
  first
   | refine Gh (GS.zero ?_) (Gh (GS.zero ?_) (Gh (RZ T.xt (by decide +kernel) 7 lk nd (fun _ _ lk=>?_) (fun _=>?_)) (GSs.zero ?_)))
   | refine GSs.zero ?_
  repeat' first
   |intro _ _ _ _ _
   |(show FE _ _ _ _;first|exists "efe_v,_ rfe_fz,? eJbG rJbp,?"|refine fe_sx hu ?_ ?_ (fun _ _=>rfl)|exists "rJbK,!,%,$,? rJbS,?,? eJbs rJbL,!,!,? rJbC,T.yy,? rJbD,T.xt,T.zU,^,? rJbz,?,? efe_bl rJbB,? rJby,!,%,$,?,? rPo,Jas,PySem.F.slot_list_append,PySem.F.type_list_append,FY,?,? rPo,Rn,PySem.F.slot_list_index,PySem.F.type_list_index,Rl,?,? rPo,Ww,PySem.F.slot_list_extend,PySem.F.type_list_extend,Wt,?,? rPo,Rp,PySem.F.slot_list_count,PySem.F.type_list_count,Rm,?,? eSs rXq,? rXr,T.zk,? rJbr,?,? eJbH,+ rJbN,?,? rSj,T.zj,? rfe_sl,?,?,? rSv,!,!,_,*,? rJbx,?,? rJbA,!,%,? rfe_eq,?,? eJbv rJbI,? rXs,T.yz,? eSn,!,!,_,* rMX,rfl,T.yX,T.yR,?"|refine Xl (by assumption) (hr.mono (by first | decide | omega)) ?_ (fun ho=>ZZ (by assumption) (hr.mono (by first | decide | omega)) Z4 ho)|exists "rXj,_,? rJbq,T.yv,? rfe_in,hu,?,? rXm,T.yx,? rUG,Wv,PySem.F.slot_str_join,PySem.F.type_str_join,Ws,?,? rJbQ,?,? rMV,!,%,lk.lk,?,?"|exact Sr T.zz T.zD 0 (pv 0) (fun _ _=>rfl)|exists "rXn,rfl,T.yI,? efe_gS,T.yO rJbR,T.yB,? rJbE,T.xt,T.zU,T.zc,? rJbw,? rJbP,T.yA,? rMW,rfl,T.zk,T.zG,? rJbF,?,?"|refine Xt (hu191 hr) ?_ ?_|exists "rJbt,? eJbH,+ rJbO,Jaq,slot_list_pop,type_list_pop,Ol,? rXv,rfl,?,?,?,? rJbJ,? rJv,WI,boot_str,T.zU,T.yw,? rJv,kit_tuple,boot_tuple,T.zU,T.zj,? rSu,T.yX,? rJbM,&,?,? rPn,rfl,T.zk,@ rXo,T.yI,? rJbu,? rSm,rfl,T.yL,? rSk,_,? rPo,Ou,PySem.F.slot_list_index,PySem.F.type_list_index,Om,?,? rUG,mf_strip,PySem.F.slot_str_strip,PySem.F.type_str_strip,mt_strip,?,?")
   |(show FEs _ _ _ _;exists "eFEs.nil rFEs.cons,?,?")
   |(show FA _ _ _ _;exists "eJbT rXx,?,?")
   |(show GSs _ _ _ _;exists "rWX,? rRM,?,? eWY")
   |(show GS _ _ _ _;first|refine W0 rfl nd (Or.inl rfl) ?_ ?_ ?_ ?_|exists "rJa0,_,nd,<,? rgs_if,?,?,? rJa1,? rWZ,? rJa2,lk.own,rfl,?,?,?"|refine Ja3 (by assumption) (by assumption) _ ?_ (fun hv=>ZN (pv 0) hv rfl)|exists "rJa4,?,?"|refine RX (by assumption) (by assumption) _ _ ?_ (fun hv=>Ko hu (EO (pv _) rfl) (pv _) hv rfl)|refine RS hu ?_ ?_ ?_ (fun he ho hi hs=>T3 he (ZT ho hi hs))|exists "rRU,>,lk,rfl,? rRN,_,lk.own,?,?"|exact RQ T.zz T.zS 0 (pv 0)|exact RW hu T.zR T.zY 0 4 (pv 0) (pv 4)|refine RY hu T.zR T.zY 0 4 9 (pv 0) (pv 4) (pv 9) ?_|exists "eRV")
   |(show FAn _ _ _ _;exists "rSw,?,? eXw")
   |(show GT _ _ _;first|refine WW _ (by first | exact nd | exact Jan (by kernel_rfl)) (by first | exact Or.inl rfl | exact Or.inr rfl)|exists "rJaZ,rfl,?")
   |(show GTs _ _ _;first|refine RL ?_ ?_ (fun h1 h2=>Q9 h1 h2)|exists "eWV")
   |(show FT _ _ _ _;first|exists "rft_eq,?,? rJbf,?"|refine Sa ?_ (fun _=>rfl)|exists "rSd,hu,?,? rft_ne,?,? rft_in,hu,?,? rft_gt,?,?"|refine Se of_le of_le ?_ ?_ ?_ (fun ha hb hc=>QX V7 V7 ha hb hc)|exists "rft_lt,?,?"|exact Sb T.zz T.zJ 0 (pv 0) (he:=fun _=>rfl)|exists "rft_le,?,? rXb,&,?,? rJbg,&,?,? rJbh,?,? rPg,?,? rJbi,&,?,? rFW.ft,? rPg,?,?")
   |(show FI _ _ _ _ _;first|exists "rJbn,? rPl,T.yU,? rJbo,@ rSi,?"|refine Jbo (WN T.zG ?_)|refine Pk ?_ (fun ha=>N2 rfl T.yU ha)|exists "rXi,?")
   |(show FIf _ _ _;exists "eXh rXg,?")
   |(show FP _ _ _ _;exists "rXe,? eXf")
   |(show FW _ _ _ _;exists "rfw_or,?,? rJbd,? rJbe,?,? rXa,?"))
 (
  refine at_rc X G rfl rfl rfl zz (fun kV dc pm an cdv ct us hl=>?_) (fun i f fd Fu Grec=>?_))
 (
  first
   | refine Ya X G zz (fun kV dc pm an cdv ct us hl=>?_) fun f fd Fu _=>?_
   | refine at_mt (by first | exact T.zz | exact T.zR | exact T.yZ | exact T.yY) zz (fun kV dc pm an cdv ct us hl=>?_) fun f fd Fu=>?_
   | refine at_mk X G (by assumption) zz (fun kV dc pm an cdv ct us hl=>?_) fun f fd Fu=>?_)
 have:=zz (P:=P) (w:=w) (base:=base) X G T C_Run C_Program C_Scope C_Stock D
 (
  ·first
    | (obtain⟨a,rfl⟩:=us1 hl;rfl)
    | (obtain⟨a,b,rfl⟩:=us2 hl;rfl)
    | (obtain⟨a,b,c,rfl⟩:=us3 hl;rfl)
    | (obtain⟨a,b,c,d,rfl⟩:=us4 hl;rfl)
    | (obtain⟨a,b,c,d,e,rfl⟩:=us5 hl;rfl)
    | (obtain⟨a,b,c,d,e,f,rfl⟩:=us6 hl;rfl)
    | (obtain⟨a,b,c,d,e,f,g,rfl⟩:=us7 hl;rfl)
  ·have nd:List.Nodup ((zz):List Str):=by decide +kernel
   refine UB (N:=zz) Fu ⟨rfl,rfl,rfl,nd,rfl,by decide +kernel,by decide +kernel⟩ _ _ rfl rfl ?_;trivial)
theorem c0:aF P w K mg base "_law_digits" 1 [al,ii,bv] 3 BR:=by exists D.d0,[al,ii,bv,"_law_drawn",lv,"_law_first","_law_rest",na],2
theorem c1:aF P w K mg base "_law_names" 1 ["_law_cell",qJ] 2 Ci:=by exists D.d1,["_law_cell",qJ,"_law_letters","_law_mixed","_law_wide",ii,"_law_base","_law_step",lv,na,"_law_turned_on"],2
theorem c2:aF P w K mg base "_law_cell_at" 1 [al,na] 2 AJ:=by exists D.d2,[al,na],2
theorem c3:aF P w K mg base "_law_parts" 1 [am,ii,"_law_first",cr] 4 Fo:=by exists D.d3,[am,ii,"_law_first",cr,"_law_many","_law_picks","_law_open_to"],2
theorem c4:aF P w K mg base "_law_kinds" 2 [al] 1 Fp:=by exists c0,c1,c2,c3,D.d4,[al,cr,"_law_many",am,"_law_makers",lv,"_law_used",ii,ow,na],2
theorem c5:aF P w K mg base "_law_table" 1 [ce] 1 Ig:=by exists D.d5,[ce,lv,ap,ow],2
theorem c6:aF P w K mg base "_law_choices" 1 [ad,im,dK,qS,ap] 5 EG:=by exists D.d6,[ad,im,dK,qS,ap,lv,jp,bv,"_law_function_here",ce,"_law_one"],2
theorem c7:aF P w K mg base "_law_least" 5 [ad,ap] 2 (El 4):=by exists D.d7,[ad,ap,jp,bv],0
theorem c8:aF P w K mg base "_law_expression" 10 [ad,im,dK,qS,ap,cr,qM] 7 (Bj 4):=by exists c6,c7,D.d8,[ad,im,dK,qS,ap,cr,qM,"_law_some","_law_digit","_law_one","_law_arguments",na],0
theorem c9:aF P w K mg base "_law_function" 11 [al,ad,ii,dK,pc,am] 6 CW:=by exists c0,c8,D.d9,[al,ad,ii,dK,pc,am,"_law_kinds_there",cr,"_law_many",ce,ap,"_law_others",ow,jp,bv,im,"_law_parted","_law_body"],2
theorem c10:aF P w K mg base "_law_functions" 12 [al,ad,qJ] 3 Du:=by exists c1,c2,c9,D.yo,[al,ad,qJ,"_law_makers",ap,"_law_free",pc,am,lv,dK,ii],2
theorem c11:aF P w K mg base "is_name" 1 ["text"] 1 AY:=by exists D.yn,["text"],2
theorem c12:aM P w K mg base ag "makers" 1 [ci,qN] 2 (Ba ag):=by exists D.ym,[ci,qN],2
theorem c13:aM P w K mg base ag lw 1 [ci] 1 (BE ag):=by exists D.yj,[ci],2
theorem c14:aF P w K mg base "is_maker" 2 [ms,qO] 2 (EE ag):=by exists c12,c13,D.yi,[ms,qO],2
theorem c15:aF P w K mg base "check_head" 3 [ms,qU,dL] 3 (Dm ag):=by exists c11,c12,c13,c14,D.yh,[ms,qU,dL,qO,lw,qN,"others","rows","each"],2
theorem c16:aM P w K mg base ag kt 1 [ci,db] 2 (BD ag):=by exists D.yg,[ci,db],2
theorem c17:aF P w K mg base "check_names" 2 [pr] 1 CU:=by exists c11,D.yf,[pr,"ahead",qO],2
theorem c18:aM P w K mg base ag "home" 1 [ci,db] 2 (Dq ag):=by exists D.ye,[ci,db],2
theorem c19:aF P w K mg base "kinds_of_head" 2 [qV,"form","head"] 3 (Bg ai ag):=by exists c16,c18,D.yd,[qV,"form","head"],2
theorem c20:aF P w K mg base "kind_of_name" 1 [qV,qO] 2 (Cp ai):=by exists D.yF,[qV,qO],2
theorem c21:aF P w K mg base "kind_within" 23 [qV,li] 2 (BC ai ag 20):=by exists c19,c20,D.yc,[qV,li,"form","head","arguments","wanted",qN,"argument","kind_wanted"],0
theorem c22:aK P w K mg base "Scope" ai 1 [ci,ms,qU,qL,"own","lessers"] 6 (Dt ai):=by exists D.yb,[ci,ms,qU,qL,"own","lessers"],2
theorem c23:aF P w K mg base "check_row" 24 [ms,qU,dL,db,"row"] 5 (D4 ai ag):=by exists c16,c17,c21,c22,D.ya,[ms,qU,dL,db,"row",qO,lw,qN,"others","rows",pr,"body",kt,qL,"lessers"],2
theorem c24:aK P w K mg base "Program" ah 25 [ci,ms,"functions"] 3 (Cr ah ai ag):=by exists c12,c15,c23,D.x9,[ci,ms,"functions",dL,qO,lw,qN,"others","rows",db,"row"],2
theorem c25:aF P w K mg base "check_kinds" 2 [lw] 1 CV:=by exists c11,D.x8,[lw,"above",qN,"makers"],2
theorem c26:aF P w K mg base "check_maker" 2 [db,kt,qP,"all_kinds"] 4 BY:=by exists c11,D.xZ,[db,kt,qP,"all_kinds","part"],2
theorem c27:aF P w K mg base "check_ground" 1 [db,kt,qR] 3 BL:=by exists D.xY,[db,kt,qR,"part"],2
theorem c28:aF P w K mg base "check_makers" 3 [lw] 1 Cq:=by exists c26,c27,D.xX,[lw,"all_kinds",qR,qP,qN,"makers","first",db,kt],2
theorem c29:aK P w K mg base "Stock" ag 4 [ci,lw] 2 (Dp ag):=by exists c25,c28,D.xW,[ci,lw,qN,"makers",db,kt],2
theorem c30:aF P w K mg base "_law_grown" 9 [ad,ap,cr,qM] 4 (DH 8):=by exists D.xV,[ad,ap,cr,qM,ow,jp,bv],0
theorem c31:aF P w K mg base "_law_row_of" 1 [bl,ad,pc,jp] 4 CF:=by exists D.xU,[bl,ad,pc,jp,"_law_function_here",ce,ap,"_law_others",ow,ii],2
theorem c32:aF P w K mg base "_law_size_of" 61 [lm] 1 (DE 60):=by exists D.xT,[lm],0
theorem c33:aF P w K mg base "_law_depth_of" 61 [lm] 1 (CY 60):=by exists D.xS,[lm],0
theorem c34:aF P w K mg base "_law_worth" 209 [bl,ad,ge,bi,"_law_level",qK] 6 (AM 147):=by exists c31,c32,c33,D.xR,[bl,ad,ge,bi,"_law_level",qK,bv,"_law_one","_law_part","_law_made",am,"_law_body","_law_inner"],0
theorem c35:aM P w K mg base ao "await_arguments" 1 [ci,"part",pr,"deep"] 4 (AS ao):=by exists D.xQ,[ci,"part",pr,"deep","argument"],2
theorem c36:aM P w K mg base ah "row" 1 [ci,dL,db] 3 (A5 ah):=by exists D.xP,[ci,dL,db],2
theorem c37:aF P w K mg base "layer_counts" 1 ["thing"] 1 Co:=by exists D.xO,["thing","counts","layer","below",db,kt],2
theorem c38:aF P w K mg base "weighed" 2 ["thing"] 1 CB:=by exists c37,D.xN,["thing","counts"],2
theorem c39:aM P w K mg base ao "await_body" 3 [ci,dL,"arguments","deep"] 4 (A8 ah ao):=by exists c36,c38,D.xM,[ci,dL,"arguments","deep",db,kt,pr,"body","values"],2
theorem c40:aF P w K mg base "made" 1 [db,kt] 2 Jx:=by exists D.xK,[db,kt,"whole","deep"],2
theorem c41:aM P w K mg base ao "taken" 1 [ci,"count"] 2 (B9 ao):=by exists D.xJ,[ci,"count","newest_first","each"],2
theorem c42:aM P w K mg base ao "worth" 4 [ci,pr,li] 3 (Bt ah ao):=by exists c35,c39,c40,c41,D.xI,[ci,pr,li,"part","names_here","deep","ready"],2
theorem c43:aK P w K mg base "Run" ao 1 [ci,"program","most"] 3 (CD ao):=by exists D.xH,[ci,"program","most"],2
theorem c44:aF P w K mg base "run" 5 ["program","setting",li,"most"] 4 (f_run ah ao):=by exists c38,c42,c43,D.xG,["program","setting",li,"most",pr,qO,"thing"],2
theorem c45:aF P w K mg base "_law_shape" 61 [lm] 1 (DG 60):=by exists D.xF,[lm,"_law_part"],0
theorem c46:aF P w K mg base "_law_classes" 1 [py] 1 EF:=by exists D.xE,[py,lv],2
theorem c47:aF P w K mg base "_law_which" 2 [py] 1 Fm:=by exists c46,D.xD,[py],2
theorem c48:aF P w K mg base "_law_right" 62 [ol,ge,bi,qQ,qT] 5 (f_Lright ah ao):=by exists c44,c45,c47,D.xC,[ol,ge,bi,qQ,qT,py,"_law_told","e"],2
theorem Jad{f:Addr}{fd:FuncData}(F:Fun K "law" "law" (top 75) f fd):EY P w K mg base (CX1 P w) 210 f fd [al] (spX K 1 (f_law ah ao ai ag)):=by
 exists c0,c1,c2,c4,c5,c8,c10,c24,c29,c30,c34,c48
 have nd:List.Nodup ([al,ce,ad,bl,ol,am,"_law_kept_kinds",im,dK,ap,cr,bi,ge,na,"_law_handed",qQ,"_law_some",qK,qT]:List Str):=by decide +kernel
 refine UB (N:=[al,ce,ad,bl,ol,am,"_law_kept_kinds",im,dK,ap,cr,bi,ge,na,"_law_handed",qQ,"_law_some",qK,qT]) F ⟨rfl,rfl,rfl,nd,rfl,by decide +kernel,by decide +kernel⟩ _ _ rfl rfl ?_;trivial
end
end
theorem all_mk{l:OpenLaw}{w:World}{K:Fg}{h:Heap}{mg:Zsv}{fa ao ah ai ag:Addr}(X:K.In h)(G:h.Ns mainGlobals mg)(k4:mg "law"=some (.ref fa))(C_Run:CC K "Run" ao)(C_Program:CC K "Program" ah)(C_Scope:CC K "Scope" ai)(C_Stock:CC K "Stock" ag)(T:Tx K mg ao ah ai ag)(D:Ds K ao ah ai ag):
  ∃fd:FuncData,(∀(s:Shared)(v:Value),BindsTo s fd ⟨[v],[]⟩ [(al,v)])/\∀base:Heap,K.In base->base.Ns mainGlobals mg->EY l.prog w K mg base (CX1 l.prog w) 210 fa fd [al] (QF K):=by
 obtain⟨f,fd,a,F⟩:=D.xB;cases k4.symm.trans (mg_of X G a);refine⟨fd,by obtain⟨_,_,_,_,_,_,_,_,_,rfl,_⟩:=F.ex;exact λs v=>.of_eq rfl,λbase _ _=>?_⟩;exact(Jad (P:=l.prog) (w:=w) (base:=base) X G T C_Run C_Program C_Scope C_Stock D F).imp (Jax (good ah ao ai ag))
theorem exG{α:Type}{K:Fg}{h:Heap}{mg:Zsv}{x:Str}{v:α->Value}{t:α}(X:K.In h)(G:h.Ns mainGlobals mg)(e:nsIn K mainGlobals x=some (some (v t))):∃t,mg x=some (v t):=⟨t,mg_of X G e⟩
theorem naG{K:Fg}{C:Addr}{f:Str}(e:findIn K (.ref C) f=some none):AH K C f:=e
theorem walk{l:OpenLaw}{q:Program}{loose:List Str}{XP:(Zsv)->Heap->Prop}{d:DefRec}{K:Params->Fg}{as:List Addr}{N tk:Nat}(hn:l.most=some 63)(gJ:d.params.defaults=[])(hK:∀P:Params,as=(K P).map (·.1))
  (F:∀(w:World)(mg:Zsv)(fa:Addr)(h:Heap),(K w.params).In h->h.Ns mainGlobals mg->mg d.name=some (.ref fa) ->
   ∃fd:FuncData,(∀(s:Shared)(u:Value),BindsTo s fd ⟨[u],[]⟩ [(al,u)])/\∀base:Heap,(K w.params).In base->base.Ns mainGlobals mg->EY l.prog w (K w.params) mg base (CX1 l.prog w) 210 fa fd [al] (QF (K w.params))) :
  WalkX q loose XP (PySem.W.X.obsZ as) (PySem.W.X.valZ K N tk) l.row.toRowW d [] (λf vs=>PySem.call f vs) :=
 L2.J5 (n:=63) (k:=210) (x:=al) (CX:=λw=>CX1 l.prog w) (sp:=QF) hn (by decide) gJ ⟨rfl,by decide,by decide⟩ hK F (λ_ _ a ns hl hb _ hS=>⟨a,ns,rfl,hS,hl,hb,λ_=>rfl⟩) λ_ _ _ _ _ ⟨_,_,_,_,_,_,_,_,_,_,_,q⟩=>q
end Lake.Sy
structure PySem.W.Fast:Prop where(tw9969351456184036894 tw9502812797909113867 tw1580701774595531564 tw6321911800501894766 tw15167269760457778258 tw417332359281285489 tw5826700924863192309 tw14562956257319286368 tw4211279210488586981 tw5596339188545138591 tw3467203870785863353 tw3770826641007124130 tw3804074145128845092 tw17516237305395442483 tw16569527783408513862 tw524004515779905950 tw3277745135432301313 tw699149809343985159 tw6737157970344976479 tw14000562667106074592 tw11452442178833834335 tw804207681230864534 tw13392836639075436531 tw12146776100273357976 tw3768900489391933796 tw16754661383001106061 tw16794120627377085560 tw2428465910943425403 tw11119808551050485169 tw15995086048509816003 tw3362975096974475907 tw9809891586485256553 tw3013056290051087560 tw8543341161905386075 tw10550825652509032345 tw2817725897153053762 tw10493972800328179521 tw13002677865865752423 tw17071198611465002093 tw11061943840891145494 tw16076512640173650222 tw10774871883543197585 tw12907472574096795727 tw16498259541693531278 tw9975042532034875179 tw635994328950055143 tw2367360307159502759 tw14269630315795101111 tw10297490061576162103 tw3946607099445354599 tw6612207018970038770 tw10392724336444232700 tw16910371015119637483 tw11264753740785073950 tw8845386897407953448 tw15278780797256663016 tw10126500892291580312 tw432273771242764566 tw14064969602509510723 tw10726822886880346612 tw5081657919309022292 tw17253425630408292799 tw9141959897561967384 tw4890730908738972563 tw14864338826076342403 tw9780408307061148580 tw10569907369906801355 tw12652503687676288905 tw9700240949786422231 tw2418490179198074005 tw11215395065914742181 tw15675020089003600580 tw12724613297148556357 tw5310874367883366097 tw15506298679331249088 tw6544266661159702603 tw4983377831179912268 tw2582931702255920190 tw11624981605465314346 tw13385654133381803114 tw2478524367124088888 tw785079703622224114 tw13067664354207729565 tw5573048345122755767 tw7418956032120141996 tw8516888835716372692 tw3806922517294259385 tw15254843588815330803 tw2668107991859924936 tw3389435538489259984 tw8360868517583613757 tw717549576546594111 tw8868677544507328663 tw8745503016520753741 tw3148024639912831678 tw18355485867075922658 tw1354885448838856480 tw6420896763661007870 tw2434525664619927291 tw9863849879542435914 tw14891710460812183389 tw16923337710716552725 tw2030467541798129791 tw4316460013506752952 tw17570393675212140957 tw4903461634233782409 tw15006262080983551561 tw12442905339314975580 tw8638631900074914490 tw14553426757547609186 tw2434236685075374382 tw3693355258305079720 tw3566604818599714113 tw15104510455972566063 tw11753793242702072101 tw2387732109086802968 tw16747484343212763354 tw15780366673190076317 tw4183693100539241002 tw2433513508127683576 tw7506178993518148910 tw3199975392973312223 tw13762037424303139899 tw2162262231553172852 tw16879971179932606118 tw1305392536066081048 tw11158891285291800463 tw12141018337985783093 tw16702364480214004899 tw9421959653451231744 tw11863931728345519714 tw9270993113910132529 tw3763426827874776553 tw18181527652192590991 tw5094614193235580035 tw7815187195505744578 tw13590428127272179775 tw9378316626086469315 tw18150793786914285593 tw5994935156418986244 tw6738240920520010966 tw4462199185166225305 tw8792487257242695903 tw13702013860680736611 tw5401529011046089020 tw6223216023784576368 tw15123400323905170583 tw902108639149772115 tw2814821470195358334 tw14163023253176937117 tw225413408928502211 tw14191501373592712755 tw1630474778086428645 tw169936232009920760 tw4515717643762684308 tw1743545114623617334 tw5982127107995970244 tw3001205680296933839 tw16334222238176010451 tw10914733828563324575 tw9736914986294370291 tw300934006173789176 tw10976830116074796150:True)
end
open PySem PySem.W PyProof.Rows
set_option maxRecDepth 100000 in
set_option maxHeartbeats 0 in
theorem PySem.Challenge.cw_stairsay_k21_runs_holds : PySem.Challenge.rw_stairsay_k21_runs.Holds := by
 w_on;o_law;z_head;(case hw=>w_witness2)
 k_fill
 refine Sy.walk (l:=PySem.Challenge.rw_stairsay_k21_runs) rfl rfl (λP=>rfl) ?F
 case F =>
  intro w mg fa h KX G fV;refine' Sy.all_mk KX G fV ⟨?_,?_,?_⟩ ⟨?_,?_,?_⟩ ⟨?_,?_,?_⟩ ⟨?_,?_,?_⟩ ?_ ?_
  all_goals try k_is
  constructor
  all_goals first|refine' PySem.W.mg_none_of KX G ?_|refine' Sy.exG KX G ?_|refine' Sy.naG ?_|refine' .of KX G (by kernel_rfl)|refine' ⟨?_,?_,?_,?_⟩|skip
  all_goals try k_is
  constructor
  all_goals first|refine' ⟨_,_,?_,L2.Uz ?_ ?_ ?_⟩|refine' ⟨_,_,?_,?_,L2.Uz ?_ ?_ ?_⟩
  all_goals try k_is
