import PyProof.Rows.All
import Wide.All
import OpenK.AllK
import Wide.FinOn
import PyProof.EqAt
import PyProof.EqKinds
import PyProof.TupleCall
import PyProof.DictWalks
import KE.KSortTup
import KE.KTryMore
import PyProof.NsDelKeeps
import PyProof.ReprStr
import PyProof.StrLawsRepr
import PyProof.Rows.FStr
import PyProof.ListMulRoad
import PyProof.FactsAll.tuple_2
import KE.KPairComp
import PyProof.AttrMissHeap
import PyProof.FactsAll.zip_1
import KE.KDictOf
import KE.KMinBuiltin
import PyProof.Rows.CallKwBuiltin
import KE.KEqDict
import PySem.Challenge.RW_stairsay_k11_programs_refused
set_option Elab.async false
set_option linter.all false
set_option maxRecDepth 100000
set_option maxHeartbeats 4000000
set_option tactic.hygienic false
set_option bootstrap.genMatcherCode false
set_option genSizeOf false
set_option compiler.extract_closed false
namespace Lake
end Lake
open Lake
section
set_option hygiene false in
local macro_rules|`(tactic|cases $e:ident)=>`(tactic|first|subst $e|(injection $e;done)|(injection $e with q1 q2 q3;cases q1;cases q2;cases q3)|(injection $e with q1 q2;cases q1;cases q2)|(injection $e with q1;cases q1))
nonrec theorem zR(_:0=0:=by rfl)(_:0=0:=by decide):0=0:=rfl
local macro_rules(kind:=Lean.Parser.Command.declaration)|s=>do
 if s.getPos?.isNone||!s[0][1].isNone||!s[0][6].isNone then Lean.Macro.throwUnsupported
 let s:=s.rewriteBottomUp λx=>
  let y:=x[3][0]
  let z:=y[2][0][0][0]
  let f n:=(x.setArg 2 (x[2].setArg 1 (Lean.Syntax.mkApp (Lean.mkIdent `autoParam) #[⟨x[2][1]⟩,Lean.mkIdent n]))).setArg 3 .missing
  (if !y.isOfKind ``Lean.Parser.Term.binderTactic then x else if z.isOfKind ``Lean.Parser.Tactic.tacticRfl then f `zR._auto_1 else if z.isOfKind ``Lean.Parser.Tactic.decide then f `zR._auto_2 else x).setInfo .none
 let z x:=s.setArg 0 (s[0].setArg 4 (.node .none `null x))
 if s[1].isOfKind ``Lean.Parser.Command.definition||s[1].isOfKind ``Lean.Parser.Command.abbrev then return z #[.node .none ``Lean.Parser.Command.noncomputable #[.atom .none "noncomputable"]]
 if s[0][4].isNone then return s
 `(command|set_option tactic.hygienic true in $(⟨z #[]⟩):command)
open PySem.W (Frag instObj lookIn plainGet hasDictIn findIn handedIn plainGet_of isFn plainOver takerIn makesIn emptyDict keepIn methodCall_KW callWith_K fnOf codeIn excIn exmOne clsIn kitOne OpenLaw WalkO WalkX nsIn mroIn mg_of)
open PyProof.Rows (callWith_type1 slot_tuple_getitem len_tuple boot_sum boot_all boot_list boot_tuple boot_int boot_dict envOfC boot_isinstance boot_any boot_str)
open PySem.F (slot_tuple_add entry_tuple_add args_tuple_add_2 slot_int_rmul entry_int_rmul args_int_rmul_2 slot_tuple_mul entry_tuple_mul args_tuple_mul_2)
abbrev p9:=@PySem.wpAny_bind
abbrev qa:=@PySem.Heap.get?_push_of_some
abbrev qb:=@List.getElem?_eq_getElem
abbrev qc:=@List.nodup_append
abbrev qd:=@List.mem_append
abbrev qe:=@List.length_map
abbrev qf:=@List.mem_cons_of_mem
abbrev qg:=@PySem.wpAny_pure
abbrev qh:=@List.map_append
abbrev qi:=@List.map_cons
abbrev qj:=@List.mem_singleton
abbrev qk:=@List.mem_append_left
abbrev ql:=@List.getElem?_eq_some_iff
abbrev qm:=@List.mem_map
abbrev qo:=@PySem.Heap.get?_push_size
abbrev qp:=@PySem.Heap.lt_size
abbrev qt:=@List.mem_append_right
abbrev qv:=@List.length_append
abbrev qw:=@Option.map_eq_some_iff
abbrev qz:=@Nat.le_refl
abbrev qA:=@List.mem_cons
abbrev qB:=@List.mem_cons_self
abbrev qC:=@Nat.lt_of_lt_of_le
abbrev qD:=@List.size_toArray
abbrev qE:=@Bool.and_eq_true
abbrev qF:=@Nat.le_trans
abbrev qG:=@of_decide_eq_true
abbrev qH:=@List.getElem?_map
abbrev qI:=@Nat.ne_of_lt
abbrev qJ:=@PySem.wpAny_field
abbrev qK:=@decide_eq_false
abbrev qL:=@List.length_cons
abbrev qM:=@List.nodup_nil
abbrev qN:=@Bool.false_ne_true
abbrev qO:=@List.map_map
abbrev qP:=@decide_eq_true
abbrev qQ:=@Option.bind_eq_some_iff
abbrev qR:=@List.nodup_cons
abbrev qS:=@List.append_nil
abbrev qT:=@List.length_singleton
abbrev qU:=@List.append_assoc
abbrev qV:=@List.mem_of_getElem?
abbrev qW:=@List.not_mem_nil
abbrev qX:=@List.lookup_cons
abbrev qY:=@List.length_take
abbrev qZ:=@List.all_eq_true
abbrev q0:=@List.getElem?_set_self
abbrev rd:=@Nat.lt_irrefl
abbrev rg:=@Option.bind_some
abbrev rh:=@List.getElem?_set_ne
abbrev rj:=@PySem.Heap.get?_update_other
abbrev rl:=@List.pairwise_iff_getElem
abbrev rn:=@PySem.Heap.get?_update_self
abbrev rp:=@Bool.eq_iff_iff
abbrev rq:=@List.mem_of_mem_take
abbrev rA:=@List.mem_flatMap
abbrev rB:=@List.exists_of_findSome?_eq_some
abbrev rC:=@List.length_pos_iff
abbrev rD:=@Int.toNat_natCast
abbrev rF:=@List.eq_nil_of_length_eq_zero
abbrev rG:=@PySem.Heap.size_push
abbrev rH:=@List.length_range
abbrev rJ:=@List.of_mem_zip
abbrev rK:=@List.getElem?_append_right
abbrev rL:=@List.map_fst_zip
abbrev rM:=@List.mem_iff_getElem?
abbrev rN:=@List.getElem?_eq_none
abbrev rP:=@Array.getElem?_eq_getElem
abbrev rQ:=@List.mem_of_mem_drop
abbrev rR:=@List.mk_mem_zipIdx_iff_getElem?
abbrev rS:=@List.mem_filter
abbrev rT:=@Array.length_toList
abbrev rV:=@List.length_drop
abbrev rW:=@List.getElem_map
abbrev rX:=@List.mem_range
abbrev rY:=@List.take_of_length_le
abbrev rZ:=@List.drop_eq_nil_of_le
abbrev r8:=@List.append_of_mem
abbrev sd:=@Int.emod_lt_of_pos
abbrev se:=@Nat.lt_trans
abbrev sf:=@List.map_nil
abbrev sg:=@Bool.or_eq_true
abbrev sh:=@List.findSome?_eq_none_iff
abbrev sj:=@Array.getElem?_eq_some_iff
abbrev sk:=@List.getElem?_append_left
abbrev sm:=@Option.getD_none
abbrev sr:=@List.map_flatMap
abbrev su:=@List.getElem_mem
abbrev sv:=@List.cons_append
abbrev sA:=@List.zipIdx_map_fst
abbrev sC:=@List.getElem_of_mem
abbrev sD:=@List.filterMap_cons
abbrev sE:=@Option.isSome_iff_exists
abbrev sF:=@List.mem_filterMap
abbrev sG:=@List.length_zip
abbrev sH:=@List.getElem?_cons_zero
abbrev sI:=@List.any_cons
abbrev sJ:=@Int.emod_nonneg
abbrev sL:=@Bool.false_eq_true
abbrev sM:=@Nat.zero_le
abbrev sN:=@List.take_append_drop
abbrev sO:=@List.any_eq_true
abbrev sP:=@Nat.min_eq_left
abbrev sQ:=@List.nil_append
abbrev sR:=@Nat.ne_of_gt
abbrev sS:=@Nat.le_of_lt
abbrev sT:=@List.mem_take_iff_getElem
abbrev sU:=@List.drop_eq_getElem_cons
abbrev sV:=@List.take_sublist
abbrev sW:=@List.reverse_cons
abbrev sX:=@List.getElem?_take_of_lt
abbrev sY:=@List.map_take
abbrev sZ:=@List.all_cons
abbrev tf:=@Nat.lt_succ_self
abbrev tj:=@List.filter_cons
abbrev Fg:=Frag
namespace Lake.L2
open PySem PySem.Spec PyProof.Rows
abbrev Key:=Sum Int Str
def FX:Key->Value->Bool
 |.inl k,v=>Value.isInt k v
 |.inr x,v=>Value.isStrOf x v
def keyH(w:World):Key->Int
 |.inl k=>hashInt k
 |.inr x=>hashStr w x
theorem AR:∀{k:Key}{v:Value},FX k v=true->(∃i t,k=Sum.inl i/\v=Value.int i t)\/(∃x t,k=Sum.inr x/\v=Value.str x t)
 |.inl i,v,h=>by obtain⟨t,e⟩:=Value.isInt_shape h;exact .inl ⟨i,t,rfl,e⟩
 |.inr x,v,h=>by obtain⟨t,e⟩:=Value.isStrOf_shape h;exact .inr ⟨x,t,rfl,e⟩
theorem MT(i:Int)(t:Tok):FX (.inl i) (.int i t)=true:=by simp[FX,Value.isInt]
theorem MR(x:Str)(t:Tok):FX (.inr x) (.str x t)=true:=by simp[FX,Value.isStrOf]
theorem Xv(a b:Int):decide ((Sum.inl a:Key)=Sum.inl b)=(a==b):=by
 by_cases e:a=b
 .subst e;simp
 .have h:¬(Sum.inl a:Key)=Sum.inl b:=λq=>e (Sum.inl.inj q)
  rw[qK h];exact(beq_eq_false_iff_ne.mpr e).symm
theorem Xs(a b:Str):decide ((Sum.inr a:Key)=Sum.inr b)=decide (a=b):=by
 by_cases e:a=b
 .subst e;simp
 .have h:¬(Sum.inr a:Key)=Sum.inr b:=λq=>e (Sum.inr.inj q)
  rw[qK h,qK e]
theorem Xu(a:Int)(b:Str):decide ((Sum.inl a:Key)=Sum.inr b)=false:=qK (λq=>nomatch q)
theorem Xt(a:Str)(b:Int):decide ((Sum.inr a:Key)=Sum.inl b)=false:=qK (λq=>nomatch q)
def AV(prog:Program)(w:World):PySem.KeyKind prog w Key where
 is:=FX
 hash:=keyH w
 inj:=λv a b ha hb=>by
  rcases AR ha with⟨i,t,rfl,rfl⟩|⟨x,t,rfl,rfl⟩
  .rcases AR hb with⟨j,u,rfl,e⟩|⟨y,u,rfl,e⟩
   .injection e with e1 _;rw[e1]
   .exact nomatch e
  .rcases AR hb with⟨j,u,rfl,e⟩|⟨y,u,rfl,e⟩
   .exact nomatch e
   .injection e with e1 _;rw[e1]
 byValue:=λk v h=>by rcases AR h with⟨i,t,rfl,rfl⟩|⟨x,t,rfl,rfl⟩<;>rfl
 pyHash:=λhv h=>by
  rcases AR hv with⟨i,t,rfl,rfl⟩|⟨x,t,rfl,rfl⟩
  .exact wpAny_pyHash_int h
  .exact wpAny_pyHash_str h
 eqBool:=λhu hv h=>by
  rcases AR hu with⟨i,t,rfl,rfl⟩|⟨x,t,rfl,rfl⟩
  .rcases AR hv with⟨j,u,rfl,rfl⟩|⟨y,u,rfl,rfl⟩
   .rw[Xv]at h;exact wpAny_eqBool_int h
   .rw[Xu]at h;exact SeqAt.EqAt.int_str i t y u _ _ _ _ h
  .rcases AR hv with⟨j,u,rfl,rfl⟩|⟨y,u,rfl,rfl⟩
   .rw[Xt]at h;exact SeqAt.EqAt.str_int x t j u _ _ _ _ h
   .rw[Xs]at h;exact wpAny_eqBool_str h
 «strs»:=λk x t v h=>by
  rcases AR h with⟨i,u,rfl,e⟩|⟨y,u,rfl,e⟩
  .exact nomatch e
  .injection e with e1 _
   subst e1;cases v<;>rfl
theorem Js(prog:Program)(w:World)(i:Int)(t:Tok):(AV prog w).is (.inl i) (.int i t)=true:=MT i t
theorem Jr(prog:Program)(w:World)(x:Str)(t:Tok):(AV prog w).is (.inr x) (.str x t)=true:=MR x t
inductive V where
 |l|v (b:Bool)|int (i:Int)|str (x:Str)|zJ (b:Array UInt8)|yP (b:UInt64)|ref (a:Addr)|ty (n:String)
 deriving DecidableEq
def RelV:V->Value->Prop
 |.l,u=>u=Value.none
 |.v b,u=>u=Value.bool b
 |.int i,u=>∃t,u=Value.int i t
 |.str x,u=>∃t,u=Value.str x t
 |.zJ b,u=>∃t,u=Value.bytes b t
 |.yP b,u=>∃t,u=Value.float b t
 |.ref a,u=>u=Value.ref a
 |.ty n,u=>u=Value.type n
abbrev Vals:List V->List Value->Prop:=Paired RelV
theorem Vals.length(r:Vals xs us):xs.length=us.length:=Paired.length r
theorem Vals.get:∀{xs:List V}{us:List Value}{i:Nat}{x:V},Vals xs us->xs[i]?=some x->∃u,us[i]?=some u/\RelV x u
 |_,_,_,_,.nil,e=>by simp at e
 |_,_,0,_,.cons r _,e=>by simp at e;subst e;exact⟨_,rfl,r⟩
 |_,_,i+1,x,.cons _ t,e=>by obtain⟨u,h1,h2⟩:=Vals.get t (by simpa using e);exact⟨u,by simpa using h1,h2⟩
theorem Vals.set(r:RelV x u):∀{xs:List V}{us:List Value}(i:Nat),Vals xs us->Vals (xs.set i x) (us.set i u)
 |_,_,_,.nil=>.nil
 |_,_,0,.cons _ t=>.cons r t
 |_,_,i+1,.cons q t=>.cons q (Vals.set r i t)
theorem Vals.append:∀{xs ys:List V}{us ws:List Value},Vals xs us->Vals ys ws->Vals (xs++ys) (us++ws)
 |_,_,_,_,.nil,s=>s
 |_,_,_,_,.cons r t,s=>.cons r (Vals.append t s)
theorem Vals.take:∀{xs:List V}{us:List Value}(n:Nat),Vals xs us->Vals (xs.take n) (us.take n)
 |_,_,0,_=>.nil
 |_,_,_+1,.nil=>.nil
 |_,_,n+1,.cons r t=>.cons r (Vals.take n t)
theorem Vals.drop:∀{xs:List V}{us:List Value}(n:Nat),Vals xs us->Vals (xs.drop n) (us.drop n)
 |_,_,0,r=>r
 |_,_,_+1,.nil=>.nil
 |_,_,n+1,.cons _ t=>Vals.drop n t
def AN:Option V->Option Value->Prop
 |some v,some u=>RelV v u
 |none,none=>True
 |_,_=>False
def KV{κ:Type}:List (κ×V)->List (κ×Value)->Prop:=Paired λ(p:κ×V)(q:κ×Value)=>p.1=q.1/\RelV p.2 q.2
def kV:Key->V
 |.inl i=>.int i
 |.inr x=>.str x
inductive HO where
 |lst (xs:List V)
 |tup (xs:List V)
 |o (ag:List (Key×V))|dT (ag:List (List Key×V))
 |set (S:Int->Bool) (n:Nat)
 |ins (C dx:Addr) (fs:List (Str×V))
 |own (x:Addr)
 |xd (fs:List (Str×V))
 |met (f x:Addr)
 |yN (lo hi:Int)
 |frz (o:Obj) (u:HO)
 |zc (ps:Array Value)
 |ext (φ:Heap->Prop)
abbrev Hp:=Addr->Option HO
def upd(H:Hp)(a:Addr)(o:HO):Hp:=λb=>if b=a then some o else H b
theorem Am:upd H a o a=some o:=by unfold upd;rw[if_pos rfl]
theorem Aj(h:b≠a):upd H a o b=H b:=by unfold upd;rw[if_neg h]
theorem JaT{H:Hp}(h:H a=some o)(h':H b=some u)(d:o≠u):a≠b:=by intro e;subst e;rw[h]at h';exact d (Option.some.inj h')
theorem AY{H:Hp}(h:H a=some o)(h':H b=none):a≠b:=by intro e;subst e;rw[h]at h';cases h'
def PlT(h:Heap)(a:Addr)(items:Array Value):Prop:=∃o,h.get? a=some o/\o.cls=.type "tuple"/\∃n,o.data=.seq items n/\o.dict=none
theorem PlT.tup{h:Heap}{a:Addr}{items:Array Value}(x:PlT h a items):IsTup h a items:=let⟨o,e,c,n,d,_⟩:=x;⟨o,e,c,n,d⟩
theorem PlT.lt{h:Heap}{a:Addr}{items:Array Value}(x:PlT h a items):a<h.objs.size:=x.tup.lt
theorem PlT.new(h:Heap)(items:Array Value):PlT (h.push {cls:=.type "tuple",data:=.seq items}) h.objs.size items:=⟨_,qo _ rfl,rfl,_,rfl,rfl⟩
section
variable(P:Program)(w:World)
def A7(H:Hp)(h:Heap)(a:Addr):HO->Prop
 |.lst xs=>xs.length<=sizeLine/\∃(aq:List Value)(n:Nat),Vals xs aq/\h.get? a=some {cls:=.type "list",data:=.seq aq.toArray n}
 |.tup xs=>xs.length<=sizeLine/\∃aq:List Value,Vals xs aq/\PlT h a aq.toArray
 |.o ag=>ag.length<=sizeLine/\(a==sysModules)=false/\∃vs,KV ag vs/\h.DictOf (AV P w) a vs
 |.dT ag=>ag.length<=sizeLine/\(a==sysModules)=false/\∃xs:List (List Key×Addr×Value),
   Paired (λ(p:List Key×V)(q:List Key×Addr×Value)=>p.1=q.1/\H q.2.1=some (.tup (p.1.map kV))/\RelV p.2 q.2.2) ag xs /\
   ∃o es ep,h.get? a=some o/\o.ExactDict/\o.data=.dict es ep/\es.toList=xs.map (entryOfKey (tupleKind (AV P w)))/\(xs.map (·.1)).Nodup
 |.set S n=>h.SetOf (intKind P w) a S n
 |.ins C dx fs=>H dx=some (.own a)/\fs.length<=1000/\dx≠a/\h.get? a=some (instObj C dx) /\
   ∃mA,h.Ns1 dx mA/\(∀f,AN (fs.lookup f) (mA f))/\PySem.Within mA (fs.map (·.1))
 |.own _=>∃o,h.get? a=some o
 |.xd fs=>∃mA,h.Ns1 a mA/\∀f,AN (fs.lookup f) (mA f)
 |.yN lo hi=>∃t u v,h.get? a=some {cls:=.type "range",data:=.fields #[.int lo t,.int hi u,.int 1 v]}
 |.frz o u=>h.get? a=some o/\A7 H h a u
 |.zc ps=>h.get? a=some {cls:=.none,data:=.fields ps}
 |.met f x=>h.get? a=some (PySem.W.methodObj (.ref f) (.ref x))
 |.ext φ=>φ h/\(∃o,h.get? a=some o)/\∀h1 h2:Heap,φ h1->(∀o,h1.get? a=some o->h2.get? a=some o)->φ h2
def HOk(H:Hp)(h:Heap):Prop:=∀a o,H a=some o->A7 P w H h a o
end
variable{P:Program}{w:World}{H H':Hp}{h h':Heap}{a:Addr}{o:HO}
theorem A7.lt(x:A7 P w H h a o):a<h.objs.size:=by cases o with|lst xs=>obtain⟨_,_,_,_,e⟩:=x;exact qp e|tup xs=>obtain⟨_,_,_,p⟩:=x;exact p.lt|o ag=>obtain⟨_,_,_,_,o,_,_,e,_⟩:=x;exact qp e|dT ag=>obtain⟨_,_,_,_,o,_,_,e,_⟩:=x;exact qp e|set S n=>obtain⟨o,_,_,_,e,_⟩:=x;exact qp e|ins C dx fs=>obtain⟨_,_,_,e,_⟩:=x;exact qp e|own y=>obtain⟨_,e⟩:=x;exact qp e|xd fs=>obtain⟨_,⟨_,_,_,e,_⟩,_⟩:=x;exact qp e|yN lo hi=>obtain⟨_,_,_,e⟩:=x;exact qp e|frz ob u=>obtain⟨e,_⟩:=x;exact qp e|zc ps=>exact qp (show h.get? a=some _ from x)|met f y=>exact qp (show h.get? a=some _ from x)|ext φ=>obtain⟨_,⟨_,e⟩,_⟩:=x;exact qp e
theorem Paired.JaW:∀{l₁:List α}{l₂:List β},Paired F l₁ l₂->(∀a b,F a b->G a b)->Paired G l₁ l₂
 |_,_,.nil,_=>.nil
 |_,_,.cons r t,f=>.cons (f _ _ r) (Paired.JaW t f)
theorem A7.Me(x:A7 P w H h a o)(k:∀b u,(b=a\/H b=some (.own a))->h.get? b=some u->h'.get? b=some u)
  (ho:∀b,H b=some (.own a)->H' b=some (.own a)) (ht:∀b xs,H b=some (.tup xs)->H' b=some (.tup xs)):A7 P w H' h' a o:=by
 induction o with|lst xs=>obtain⟨z,aq,n,r,e⟩:=x;exact⟨z,aq,n,r,k _ _ (.inl rfl) e⟩|tup xs=>obtain⟨z,aq,r,ob,e,c⟩:=x;exact⟨z,aq,r,ob,k _ _ (.inl rfl) e,c⟩|o ag=>obtain⟨z,y,vs,r,ob,es,ep,e,c⟩:=x;exact⟨z,y,vs,r,ob,es,ep,k _ _ (.inl rfl) e,c⟩|dT ag =>obtain⟨z,y,xs,r,ob,es,ep,e,c⟩:=x;exact⟨z,y,xs,Paired.JaW r λp q z=>⟨z.1,ht _ _ z.2.1,z.2.2⟩,ob,es,ep,k _ _ (.inl rfl) e,c⟩|set S n=>obtain⟨ob,es,ep,t,e,c⟩:=x;exact⟨ob,es,ep,t,k _ _ (.inl rfl) e,c⟩|ins C dx fs =>obtain⟨d,z,ne,e,mA,⟨od,es,ep,e2,c⟩,r⟩:=x;exact⟨ho _ d,z,ne,k _ _ (.inl rfl) e,mA,⟨od,es,ep,k _ _ (.inr d) e2,c⟩,r⟩|own y=>obtain⟨ob,e⟩:=x;exact⟨ob,k _ _ (.inl rfl) e⟩|xd fs=>obtain⟨mA,⟨od,es,ep,e,c⟩,r⟩:=x;exact⟨mA,⟨od,es,ep,k _ _ (.inl rfl) e,c⟩,r⟩|yN lo hi=>obtain⟨t,u,v,e⟩:=x;exact⟨t,u,v,k _ _ (.inl rfl) e⟩|frz ob u ih=>obtain⟨e,q⟩:=x;exact⟨k _ _ (.inl rfl) e,ih q⟩|zc ps =>have e:=x;exact k a _ (.inl rfl) e|met f y =>have e:=x;exact k a _ (.inl rfl) e|ext φ=>obtain⟨p,⟨o,e⟩,st⟩:=x;exact⟨st _ _ p λo q=>k _ _ (.inl rfl) q,⟨o,k _ _ (.inl rfl) e⟩,st⟩
theorem HOk.lt(x:HOk P w H h)(e:H a=some o):a<h.objs.size:=(x a o e).lt
theorem HOk.fresh(x:HOk P w H h)(e:h.objs.size<=a):H a=none:=by cases q:H a with|none=>rfl|some u=>exact absurd (qC (x.lt q) e) (rd _)
theorem HOk.kept(x:HOk P w H h)(k:∀b u,h.get? b=some u->h'.get? b=some u):HOk P w H h':=λa o e =>(x a o e).Me (λb u _ q=>k b u q) (λ_ q=>q) λ_ _ q=>q
theorem HOk.laid(x:HOk P w H h)(k:∀b u,h.get? b=some u->h'.get? b=some u)(hp:h.objs.size<=a)(new:A7 P w (upd H a o) h' a o):HOk P w (upd H a o) h':=λb u e=>by
 have hn:=x.fresh hp;by_cases hb:b=a
 .subst hb;rw[Am]at e;cases e;exact new
 .rw[Aj hb]at e;exact(x b u e).Me (λc v _ q=>k c v q) (λc q=>by rwa[Aj (AY q hn)]) λc xs q=>by rwa[Aj (AY q hn)]
def Rd(H:Hp)(a:Addr)(u:HO):Prop:=H a=some u\/∃o,H a=some (.frz o u)
theorem Rd.ok(r:Rd H a u)(x:HOk P w H h):A7 P w H h a u:=by
 rcases r with r|⟨o,r⟩
 .exact x a u r
 .obtain⟨_,q⟩:=x a _ r;exact q
def Mut:Option HO->Prop
 |some (.lst _)=>True
 |some (.o _)=>True
 |some (.dT _)=>True
 |some (.set _ _)=>True
 |some (.ins _ _ _)=>True
 |some (.ext _)=>True
 |_=>False
variable{x e:Addr}{o':HO}
theorem HOk.write(ok:HOk P w H h)(mu:Mut (H x))(he:e=x\/H e=some (.own x))(k:∀b u,b≠e->h.get? b=some u->h'.get? b=some u)(gM:∃u,h'.get? e=some u)
  (new:A7 P w (upd H x o') h' x o'):HOk P w (upd H x o') h':=λb u q=>by
 have iO:∀c y,H c=some (.own y)->c≠x:=λc y r z=>by subst z;rwa[r]at mu
 have ko:∀c xs,H c=some (.tup xs)->c≠x:=λc xs r z=>by subst z;rwa[r]at mu
 by_cases hb:b=x
 .subst hb;rw[Am]at q;cases q;exact new
 .rw[Aj hb]at q;by_cases eA:b=e
  .have q':H b=some (.own x):=by
    rcases he with z|z
    .exact absurd (eA.trans z) hb
    .rwa[eA]
   rw[q]at q';cases q';obtain⟨v,hv⟩:=gM;exact⟨v,by rwa[eA]⟩
  .refine(ok b u q).Me (λc v hc r=>k c v ?_ r) (λc r=>by rwa[Aj (iO c b r)]) λc xs r=>by rwa[Aj (ko c xs r)]
   rcases hc with rfl|hc
   .exact eA
   .rintro rfl
    rcases he with z|z
    .exact iO c b hc z
    .rw[hc]at z;cases z;exact hb rfl
structure Un(fs ex:List Addr)(H H':Hp)(h h':Heap):Prop where
 keep:∀b o,h.get? b=some o->H b=none->b∉fs->b∉ex->h'.get? b=some o
 slot:∀b o,h.get? b=some o->H b=none->b∈fs->b∉ex->∃sl,h'.get? b=some {o with slots:=sl}
 free:∀b o,h.get? b=some o->H b=none->b∉ex->H' b=none
 there:∀b o,h.get? b=some o->b∉ex->∃o',h'.get? b=some o'
 zO:∀b xs,H b=some (.tup xs)->H' b=some (.tup xs)
 zX:∀b o u,H b=some (.frz o u)->H' b=some (.frz o u)
 zP:∀b ps,H b=some (.zc ps)->∃more,H' b=some (.zc (ps++more))
variable{ar ex jG:List Addr}{H1 H2:Hp}{h1 h2:Heap}
section
variable{fs:List Addr}
theorem Un.any(u:Un fs ex H H1 h h1){b:Addr}{ob:Obj}(q:h.get? b=some ob)(n:H b=none)(hx:b∉ex):∃sl,h1.get? b=some {ob with slots:=sl}:=by
 by_cases hb:b∈fs
 .exact u.slot b ob q n hb hx
 .exact⟨ob.slots,u.keep b ob q n hb hx⟩
theorem Un.kept(k:∀b u,h.get? b=some u->h'.get? b=some u):Un fs ex H H h h' :=
 ⟨λb ob q _ _ _=>k b ob q,λb ob q _ _ _=>⟨ob.slots,k b ob q⟩,λ_ _ _ n _=>n,λb ob q _=>⟨ob,k b ob q⟩,λ_ _ q=>q,λ_ _ _ q=>q,λ_ ps q=>⟨#[],by rw[q];simp⟩⟩
theorem Un.refl:Un fs ex H H h h:=Un.kept λ_ _ q=>q
theorem Un.laid(k:∀b u,h.get? b=some u->h'.get? b=some u)(hp:h.objs.size<=a)(hn:H a=none):Un fs ex H (upd H a o) h h' where
 keep:=λb u q _ _ _=>k b u q
 slot:=λb u q _ _ _=>⟨u.slots,k b u q⟩
 free:=λb u q n _=>by rwa[Aj (qI (qC (qp q) hp))]
 there:=λb u q _=>⟨u,k b u q⟩
 zO:=λb xs q=>by rwa[Aj (AY q hn)]
 zX:=λb u xs q=>by rwa[Aj (AY q hn)]
 zP:=λb ps q=>⟨#[],by rw[Aj (AY q hn),q];simp⟩
theorem Un.write(mu:Mut (H x))(he:e=x\/H e=some (.own x))(k:∀b u,b≠e->h.get? b=some u->h'.get? b=some u)(gM:∃u,h'.get? e=some u):Un fs ex H (upd H x o) h h':=by
 have hx:∀b,H b=none->b≠x:=λb n z=>by subst z;rwa[n]at mu
 have hb:∀b,H b=none->b≠e:=λb n z=>by
  subst z;rcases he with r|r
  .exact hx b n r
  .rw[n]at r;cases r
 have hm:∀b u,H b=some u->¬Mut (some u)->b≠x:=λb u q nm z=>by subst z;rw[q]at mu;exact nm mu
 refine⟨λb u q n _ _=>k b u (hb b n) q,λb u q n _ _=>⟨u.slots,k b u (hb b n) q⟩,λb u q n _=>by rw[Aj (hx b n)];exact n,λb u q _=>?_,
  λb xs q=>by rw[Aj (hm b _ q λz=>z)];exact q,λb u xs q=>by rw[Aj (hm b _ q λz=>z)];exact q,λb ps q=>⟨#[],by rw[Aj (hm b _ q λz=>z),q];simp⟩⟩
 by_cases eA:b=e
 .subst eA;exact gM
 .exact⟨u,k b u eA q⟩
end
def trk(h:Heap)(H:Hp):List Addr:=(List.range h.objs.size).filter λa=>(H a).isSome
def PU(h:Heap)(H:Hp):Heap:=PySem.W.hideAll h (trk h H)
theorem Na(h:Heap)(H:Hp):(PU h H).objs.size=h.objs.size:=PySem.W.hideAll_size _ _
theorem PR{o}(e:h.get? b=some o)(n:H b=none):(PU h H).get? b=some o :=
 PySem.W.hideAll_get _ e λhm=>by have q:=(rS.mp hm).2;rw[n]at q;simp at q
theorem Tz{o}(e:(PU h H).get? b=some o):h.get? b=some o/\H b=none:=by have e':=PySem.W.of_hideAll (trk h H) e;refine⟨e',?_⟩;cases q:H b with|none=>rfl|some x =>have hm:b∈trk h H:=rS.mpr ⟨rX.mpr (qp e'),by simp[q]⟩;have z:(PU h H).get? b=none:=PySem.W.hideAll_none (trk h H) hm;rw[z]at e;cases e
structure Mod(K:Fg)(mg:Str->Option Value)(base:Heap):Prop where
 y1:K.In base
 glob:base.Ns mainGlobals mg
 blt:∃mb,base.Ns builtinsNs mb/\∀x:Str,x≠"__name__"->mb x=bootBuiltins x
 nolimit:base.NoLimit
structure Cx where
 prog:Program
 w:World
 K:Fg
 mg:Str->Option Value
 base:Heap
 A:Around
 N:List Str
 z6:Shared
 zo:Hp
 env:Env
 outer:List Env
 stack:List Env
 ex:List Addr
 fn:Str->Bool
 calm:Bool
 pn:List (Addr×Obj)
 xe:Value->Shared->Prop
def frs(l:List Env):List Addr:=l.filterMap (·.frame)
abbrev Cx.fs(X:Cx):List Addr:=frs X.outer
def Vis(sc:Scope)(x:Str):Prop:=sc.names.lookup x=some .local\/sc.names.lookup x=some .cell\/sc.names.lookup x=some .free
def Loc(sc:Scope)(x:Str):Prop:=sc.names.lookup x=some .local\/sc.names.lookup x=some .cell
def Look(env:Env)(h:Heap)(m:Str->Option Value)(x:Str)(u:Value):Prop :=
 (env.kindOf x=some .local/\m x=some u)\/((env.kindOf x=some .cell\/env.kindOf x=some .free)/\∃c,env.cells.lookup x=some c/\h.IsCell c (some u))
structure Cx.Ok(X:Cx):Prop where
 mod:Mod X.K X.mg X.base
 kind:X.env.scope.kind=.function
 glob:X.env.globals=mainGlobals
 blt:X.env.builtins=builtinsNs
 above:X.z6.heap.objs.size<=X.env.locals
 inj:∀x y c,X.env.cells.lookup x=some c->X.env.cells.lookup y=some c->x=y
 has:∀x,(X.env.kindOf x=some .cell\/X.env.kindOf x=some .free)->∃c,X.env.cells.lookup x=some c
 zb:∀x c,X.fn x=true->X.env.cells.lookup x=some c->X.z6.heap.objs.size<=c
 hd:X.calm=true->X.A.handled=none
 frames:X.A.frames=some X.stack
 yV:X.stack=X.outer\/(X.stack=X.env::X.outer/\X.env.frame=some X.env.locals)
 yS:∀b∈X.ex,b≠X.env.locals/\∀x c,X.env.cells.lookup x=some c->c≠b
 bs:∀b o,X.base.get? b=some o->X.z6.heap.get? b=some o/\X.zo b=none
 zw:X.base.objs.size<=X.z6.heap.objs.size
 zu:∀b o,X.base.get? b=some o->b∉X.ex
 zv:∀b∈X.ex,b∉X.fs
 Kr:X.z6.heap.FunFrames X.base X.outer
 zg:∀b∈X.fs,X.zo b=none
structure Inv(X:Cx)(aa:List (Addr×Obj))(σ:List (Option V))(H:Hp)(s:Shared):Prop where
 ok:X.Ok
 os:s.os=X.z6.os
 bare:AllBare s.gens
 base:Un X.fs X.ex X.zo H X.z6.heap s.heap
 loc:∃m,s.heap.Ns X.env.locals m/\∀(i:Nat)(x:Str)(v:V),X.N[i]?=some x->σ[i]?=some (some v)->Vis X.env.scope x->∃u,RelV v u/\Look X.env s.heap m x u
 cell:∀x c,X.env.cells.lookup x=some c->∃v,s.heap.IsCell c v
 free:H X.env.locals=none
 zZ:∀x c,X.env.cells.lookup x=some c->H c=none
 pin:∀p∈X.pn++aa,s.heap.get? p.1=some p.2/\H p.1=none/\p.1≠X.env.locals/\p.1∉X.fs/\∀v,p.2.data≠.cell v
 z9:HOk X.prog X.w H s.heap
 len:σ.length=X.N.length
variable{X:Cx}{aa:List (Addr×Obj)}{σ:List (Option V)}{s:Shared}
theorem Cx.Ok.nofr{o}(ok:X.Ok)(e:X.base.get? b=some o):b∉X.fs:=λhb=>by have:=(ok.Kr.mem hb).1;rw[e]at this;cases this
theorem Inv.bs(I:Inv X aa σ H s):∀b o,X.base.get? b=some o->s.heap.get? b=some o/\H b=none:=λb o e =>⟨I.base.keep b o (I.ok.bs b o e).1 (I.ok.bs b o e).2 (I.ok.nofr e) (I.ok.zu b o e),I.base.free b o (I.ok.bs b o e).1 (I.ok.bs b o e).2 (I.ok.zu b o e)⟩
theorem Inv.bk(I:Inv X aa σ H s):∀b o,X.base.get? b=some o->s.heap.get? b=some o:=λb o e=>(I.bs b o e).1
theorem Inv.mod(I:Inv X aa σ H s):Mod X.K X.mg X.base:=I.ok.mod
theorem Inv.kIn(I:Inv X aa σ H s):X.K.In s.heap:=I.ok.mod.y1.keeps I.bk
theorem Inv.lt(I:Inv X aa σ H s):X.env.locals<s.heap.objs.size:=let⟨_,hn,_⟩:=I.loc;hn.lt
theorem Inv.sz(I:Inv X aa σ H s):X.z6.heap.objs.size<=s.heap.objs.size:=qF I.ok.above (sS I.lt)
theorem Inv.nofs(I:Inv X aa σ H s)(h:s.heap.objs.size<=a):a∉X.fs:=λhb=>by obtain⟨_,o,ho,_⟩:=I.ok.Kr.mem hb;exact absurd (qC (qp ho) (qF I.sz h)) (rd _)
theorem Inv.cne(I:Inv X aa σ H s):∀x c,X.env.cells.lookup x=some c->c≠X.env.locals:=λx c e z=>by obtain⟨v,o,ho,hd⟩:=I.cell x c e;obtain⟨m,⟨o',es,ep,bE,fq,_⟩,_⟩:=I.loc;rw[z,bE]at ho;cases ho;rw[fq]at hd;cases hd
theorem Inv.Kr(I:Inv X aa σ H s):s.heap.FunFrames X.base X.outer:=by
 have all:∀(l:List Env),(∀b∈frs l,b∈X.fs)->X.z6.heap.FunFrames X.base l->s.heap.FunFrames X.base l:=by
  intro l
  induction l with
  |nil=>intro _ _;trivial
  |cons env r ih =>
   intro hs hl;obtain⟨hk,⟨L,o,hf,hn,ho,hd⟩,hr⟩:=hl;have hL:=hs L (by unfold frs;rw[sD,hf];exact qB);obtain⟨sl,e⟩:=I.base.slot L o ho (I.ok.zg L hL) hL λz=>I.ok.zv L z hL
   exact⟨hk,⟨L,_,hf,hn,e,hd⟩,ih (λb hb=>hs b (by unfold frs;rw[sD,hf];exact qf _ hb)) hr⟩
 exact all X.outer (λ_ hb=>hb) I.ok.Kr
theorem Inv.stack(I:Inv X aa σ H s):s.heap.FunFrames X.base X.stack:=by
 rcases I.ok.yV with e|⟨e,hf⟩
 .rw[e];exact I.Kr
 .rw[e];obtain⟨m,hn,_⟩:=I.loc;refine .cons (by rw[I.ok.kind];decide) hf hn ?_ I.Kr;exact Heap.get?_none_of_le (qF I.ok.zw I.ok.above)
theorem Inv.Hy(I:Inv X aa σ H s):∀b∈frs X.stack,b∈X.env.locals::X.fs:=λb hb=>by
 rcases I.ok.yV with e|⟨e,hf⟩
 .rw[e]at hb;exact qf _ hb
 .rw[e]at hb;unfold frs at hb;rwa[sD,hf]at hb
theorem Inv.Je(I:Inv X aa σ H s):∀b∈frs X.stack,H b=none:=λb hb=>by
 rcases qA.mp (I.Hy b hb)with e|hb
 .rw[e];exact I.free
 .obtain⟨_,o,ho,_⟩:=I.ok.Kr.mem hb;exact I.base.free b o ho (I.ok.zg b hb) λz=>I.ok.zv b z hb
theorem Inv.step{ch:List Addr}(I:Inv X aa σ H s)
  (eU:∀b∈ch,(b∈X.ex\/X.z6.heap.objs.size<=b)/\b≠X.env.locals/\(∀x c,X.env.cells.lookup x=some c->c≠b)/\∀p∈X.pn++aa,p.1≠b)
  (keep:∀b o,b≠X.env.locals->b∉X.fs->b∉ch->s.heap.get? b=some o->H b=none->h'.get? b=some o)
  (slot:∀b o,b≠X.env.locals->b∈X.fs->b∉ch->s.heap.get? b=some o->H b=none->∃sl,h'.get? b=some {o with slots:=sl}) (free:∀b o,b∉ch->s.heap.get? b=some o->H b=none->H' b=none)
  (there:∀b o,b∉ch->s.heap.get? b=some o->∃o',h'.get? b=some o')
  (zO:∀b xs,H b=some (.tup xs)->H' b=some (.tup xs)) (zX:∀b o u,H b=some (.frz o u)->H' b=some (.frz o u)) (zP:∀b ps,H b=some (.zc ps)->∃more,H' b=some (.zc (ps++more)))
  (ns:∀m,s.heap.Ns X.env.locals m->h'.Ns X.env.locals m) (z9:HOk X.prog X.w H' h') (hg:AllBare g') :
  Inv X aa σ H' {s with heap:=h',gens:=g',drawn:=d',toks:=t' }:=by
 have gO:∀b o,X.z6.heap.get? b=some o->b≠X.env.locals:=λb o e=>qI (qC (qp e) I.ok.above)
 have js:∀b o,X.z6.heap.get? b=some o->b∉X.ex->b∉ch:=λb o e hx hb=>by
  rcases(eU b hb).1 with z|z
  .exact hx z
  .exact absurd (qC (qp e) z) (rd _)
 have cu:∀x c,X.env.cells.lookup x=some c->∀v,s.heap.IsCell c v->h'.IsCell c v:=λx c e v ⟨o,ho,hd⟩=>by
  have iJ:=λz=>(eU c z).2.2.1 x c e rfl
  by_cases hc:c∈X.fs
  .obtain⟨sl,q⟩:=slot c o (I.cne x c e) hc iJ ho (I.zZ x c e);exact⟨_,q,hd⟩
  .exact⟨o,keep c o (I.cne x c e) hc iJ ho (I.zZ x c e),hd⟩
 refine⟨I.ok,I.os,hg,⟨λb o e n hb hx=>?_,λb o e n hb hx=>?_,λb o e n hx=>?_,λb o e hx=>?_,λb xs e=>zO b xs (I.base.zO b xs e),λb o xs e=>zX b o xs (I.base.zX b o xs e),λb ps e=>?_⟩,?_,λx c e=>?_,?_,λx c e=>?_,λp hp=>?_,z9,I.len⟩
 .exact keep b o (gO b o e) hb (js b o e hx) (I.base.keep b o e n hb hx) (I.base.free b o e n hx)
 .obtain⟨sl,e1⟩:=I.base.slot b o e n hb hx;obtain⟨kD,e2⟩:=slot b _ (gO b o e) hb (js b o e hx) e1 (I.base.free b o e n hx);exact⟨kD,e2⟩
 .obtain⟨o',e1⟩:=I.base.there b o e hx;exact free b o' (js b o e hx) e1 (I.base.free b o e n hx)
 .obtain⟨o',e1⟩:=I.base.there b o e hx;exact there b o' (js b o e hx) e1
 .obtain⟨m1,e1⟩:=I.base.zP b ps e;obtain⟨m2,e2⟩:=zP b _ e1;exact⟨m1++m2,by rw[e2,Array.append_assoc]⟩
 .obtain⟨m,hn,hl⟩:=I.loc;refine⟨m,ns m hn,λi x v e1 e2 e3=>?_⟩;obtain⟨u,r,l⟩:=hl i x v e1 e2 e3;refine⟨u,r,?_⟩;rcases l with l|⟨k,c,e,z⟩
  .exact .inl l
  .exact .inr ⟨k,c,e,cu x c e _ z⟩
 .obtain⟨v,z⟩:=I.cell x c e;exact⟨v,cu x c e v z⟩
 .obtain⟨m,⟨o,_,_,ho,_⟩,_⟩:=I.loc;exact free _ o (λz=>(eU _ z).2.1 rfl) ho I.free
 .obtain⟨v,o,ho,hd⟩:=I.cell x c e;exact free c o (λz=>(eU c z).2.2.1 x c e rfl) ho (I.zZ x c e)
 .obtain⟨e,n,ne,nf,d⟩:=I.pin p hp;have iJ:=λz=>(eU p.1 z).2.2.2 p hp rfl
  exact⟨keep p.1 p.2 ne nf iJ e n,free p.1 p.2 iJ e n,ne,nf,d⟩
theorem Inv.un(I:Inv X aa σ H s)(u:Un X.fs [] H H' s.heap h')(z9:HOk X.prog X.w H' h'):Inv X aa σ H' {s with heap:=h',toks:=t' }:=by obtain⟨m,⟨o,es,ep,ho,r⟩,_⟩:=id I.loc;obtain⟨sl,hL⟩:=u.any ho I.free (by simp);exact I.step (ch:=[]) (λ_ z=>nomatch z) (λb o _ hb _ e n=>u.keep b o e n hb (by simp)) (λb o _ hb _ e n=>u.slot b o e n hb (by simp)) (λb o _ e n=>u.free b o e n (by simp)) (λb o _ e=>u.there b o e (by simp)) u.zO u.zX u.zP (λm' hm=>by obtain⟨o',jF,jE,bE,r'⟩:=hm;rw[ho]at bE;cases bE;exact⟨_,jF,jE,hL,r'⟩) z9 I.bare
theorem Inv.call(I:Inv X aa σ H s)(u:Un (frs X.stack) ch H H' s.heap h')(z9:HOk X.prog X.w H' h')(hg:AllBare g')
  (eU:∀b∈ch,(b∈X.ex\/X.z6.heap.objs.size<=b)/\b≠X.env.locals/\(∀x c,X.env.cells.lookup x=some c->c≠b)/\∀p∈X.pn++aa,p.1≠b) :
  Inv X aa σ H' {s with heap:=h',gens:=g',drawn:=d',toks:=t' }:=by
 obtain⟨m,⟨o,es,ep,ho,r⟩,_⟩:=id I.loc;obtain⟨sl,hL⟩:=u.any ho I.free λz=>(eU _ z).2.1 rfl
 exact I.step eU (λb o hL hb hc e n=>u.keep b o e n (λz=>(qA.mp (I.Hy b z)).elim hL hb) hc) (λb o _ _ hc e n=>u.any e n hc) (λb o hc e n=>u.free b o e n hc) (λb o hc e=>u.there b o e hc) u.zO u.zX u.zP (λm' hm=>by obtain⟨o',jF,jE,bE,r'⟩:=hm;rw[ho]at bE;cases bE;exact⟨_,jF,jE,hL,r'⟩) z9 hg
theorem Inv.turned(I:Inv X aa σ H s)(k:∀b o,b≠it->s.heap.get? b=some o->h'.get? b=some o)(hn:H it=none)(hL:it≠X.env.locals)
  (h1:it∈X.ex\/X.z6.heap.objs.size<=it) (h2:∀x c,X.env.cells.lookup x=some c->c≠it) (h3:∀p∈X.pn++aa,p.1≠it):Inv X aa σ H {s with heap:=h',toks:=t' }:=by
 have gd:∀b u,H b=some u->b≠it:=λb u e z=>by rw[z,hn]at e;cases e
 refine I.step (ch:=[it]) (λb hb=>?_) (λb o _ _ hc e _=>k b o (λz=>hc (by simp[z])) e) (λb o _ _ hc e _=>⟨o.slots,k b o (λz=>hc (by simp[z])) e⟩) (λ_ _ _ _ n=>n)
  (λb o hc e=>⟨o,k b o (λz=>hc (by simp[z])) e⟩) (λ_ _ e=>e) (λ_ _ _ e=>e) (λb ps e=>⟨#[],by rw[e];simp⟩) (λm hm=>?_) (λb u e=>?_) I.bare
 .have e:=by simpa using hb
  subst e;exact⟨h1,hL,h2,h3⟩
 .obtain⟨o,es,ep,ho,r⟩:=hm;exact⟨o,es,ep,k _ o (Ne.symm hL) ho,r⟩
 .refine(I.z9 b u e).Me (λc v hc q=>k c v ?_ q) (λ_ q=>q) λ_ _ q=>q
  rcases hc with z|z
  .rw[z];exact gd b u e
  .exact gd c _ z
theorem Inv.tok(I:Inv X aa σ H s)(t:Nat):Inv X aa σ H {s with toks:=t}:=I.un Un.refl I.z9
theorem Inv.kept(I:Inv X aa σ H s)(k:∀b u,s.heap.get? b=some u->h'.get? b=some u):Inv X aa σ H {s with heap:=h',toks:=t' }:=I.un (Un.kept k) (I.z9.kept k)
theorem Inv.laid(I:Inv X aa σ H s)(k:∀b u,s.heap.get? b=some u->h'.get? b=some u)(hp:s.heap.objs.size<=a)(new:A7 X.prog X.w (upd H a o) h' a o):
  Inv X aa σ (upd H a o) {s with heap:=h',toks:=t' }:=I.un (Un.laid k hp (I.z9.fresh hp)) (I.z9.laid k hp new)
theorem Inv.write(I:Inv X aa σ H s)(mu:Mut (H x))(he:e=x\/H e=some (.own x))(k:∀b u,b≠e->s.heap.get? b=some u->h'.get? b=some u)(gM:∃u,h'.get? e=some u)
  (new:A7 X.prog X.w (upd H x o) h' x o):Inv X aa σ (upd H x o) {s with heap:=h',toks:=t' }:=I.un (Un.write mu he k gM) (I.z9.write mu he k gM new)
theorem Inv.GL(I:Inv X aa σ H s)(h:∀p∈pins',s.heap.get? p.1=some p.2/\H p.1=none/\p.1≠X.env.locals/\p.1∉X.fs/\∀v,p.2.data≠.cell v):Inv X pins' σ H s :=
 ⟨I.ok,I.os,I.bare,I.base,I.loc,I.cell,I.free,I.zZ,λp hp=>(qd.mp hp).elim (λz=>I.pin p (qk _ z)) (h p),I.z9,I.len⟩
theorem GP{x}{N:List Str}(hN:N.Nodup){i j:Nat}(a:N[i]?=some x)(b:N[j]?=some x):i=j:=by obtain⟨h1,e1⟩:=ql.mp a;obtain⟨h2,e2⟩:=ql.mp b;exact(List.getElem_inj hN).mp (e1.trans e2.symm)
theorem Hx{X}{x}(I:Inv X aa σ H s)(hN:X.N.Nodup)(hi:X.N[i]?=some x)(hx:Loc X.env.scope x)(r:RelV v u)
  (h:∀s',Inv X aa (σ.set i (some v)) H s'->(∃a,Heap.SameBut a s.heap s'.heap/\(a=X.env.locals\/X.env.cells.lookup x=some a))->Q () s') (hf:X.fn x=true\/X.env.scope.names.lookup x=some .local:=by first|exact .inl rfl|exact .inr rfl|assumption):wpAny M A (storeName X.env x u) Q E s:=by
 obtain⟨m,hn,hl⟩:=id I.loc;have bR:(X.env.scope.kind==.class||(X.env.scope.kind==.module&&X.env.locals !=X.env.globals))=false:=by rw[I.ok.kind];rfl
 have eE:i<σ.length:=by rw[I.len];exact(ql.mp hi).1
 have cne:=I.cne;have dA:∀{a:Addr}{h':Heap},(∃o,s.heap.get? a=some o/\H a=none)->Heap.SameBut a s.heap h'->HOk X.prog X.w H h':=λ{a h'} ha hs b ob e=>by
  obtain⟨_,_,fT⟩:=ha;refine(I.z9 b ob e).Me (λc w' hc q=>(hs.2 c ?_).trans q) (λ_ q=>q) λ_ _ q=>q
  rintro rfl
  rcases hc with rfl|hc
  .rw[fT]at e;cases e
  .rw[fT]at hc;cases hc
 rcases hx with hk|hk
 .refine wpAny_storeName_local hk hn (λh' n8 hs=>?_) bR;obtain⟨oL,_,_,oh,_⟩:=id hn;refine h _ ⟨I.ok,I.os,I.bare,⟨λb o e n hb hx=>?_,λb o e n hb hx=>?_,I.base.free,λb o e hx=>?_,I.base.zO,I.base.zX,I.base.zP⟩,⟨_,n8,λj y v' e1 e2 e3=>?_⟩,λy c e=>?_,I.free,I.zZ,λp hp=>?_,dA ⟨oL,oh,I.free⟩ hs,by simpa using I.len⟩ ⟨_,hs,.inl rfl⟩
  .exact(hs.2 b (qI (qC (qp e) I.ok.above))).trans (I.base.keep b o e n hb hx)
  .obtain⟨sl,e1⟩:=I.base.slot b o e n hb hx;exact⟨sl,(hs.2 b (qI (qC (qp e) I.ok.above))).trans e1⟩
  .obtain⟨o',e1⟩:=I.base.there b o e hx;exact⟨o',(hs.2 b (qI (qC (qp e) I.ok.above))).trans e1⟩
  .by_cases hj:j=i
   .subst hj;rw[hi]at e1;cases e1;rw[q0 eE]at e2;cases e2;exact⟨u,r,.inl ⟨hk,by simp⟩⟩
   .rw[rh (Ne.symm hj)]at e2;obtain⟨u',r',q⟩:=hl j y v' e1 e2 e3;refine⟨u',r',?_⟩;rcases q with⟨k,e⟩|⟨k,c,e,z⟩
    .refine .inl ⟨k,?_⟩;have:y≠x:=λe=>hj (GP hN e1 (e▸hi))
     simp[this,e]
    .exact .inr ⟨k,c,e,z.sameBut hs (cne y c e)⟩
  .obtain⟨w',z⟩:=I.cell y c e;exact⟨w',z.sameBut hs (cne y c e)⟩
  .obtain⟨e,n,ne,nf,d⟩:=I.pin p hp;exact⟨(hs.2 p.1 ne).trans e,n,ne,nf,d⟩
 .have fw:X.fn x=true:=by
   rcases hf with z|z
   .exact z
   .rw[z]at hk;cases hk
  obtain⟨c,hc⟩:=I.ok.has x (.inl hk);obtain⟨w',z⟩:=I.cell x c hc;refine wpAny_storeName_cell I.ok.kind hk hc z (λh' jd hs=>?_);obtain⟨oc,jh,om⟩:=id z;refine h {s with heap:=h' } ⟨I.ok,I.os,I.bare,⟨λb o e n hb hx=>?_,λb o e n hb hx=>?_,I.base.free,λb o e hx=>?_,I.base.zO,I.base.zX,I.base.zP⟩,⟨m,hn.sameBut hs (Ne.symm (cne x c hc)),λj y v' e1 e2 e3=>?_⟩,λy c' e=>?_,I.free,I.zZ,λp hp=>?_,dA ⟨oc,jh,I.zZ x c hc⟩ hs,by simpa using I.len⟩ ⟨c,hs,.inr hc⟩
  .exact(hs.2 b (qI (qC (qp e) (I.ok.zb x c fw hc)))).trans (I.base.keep b o e n hb hx)
  .obtain⟨sl,e1⟩:=I.base.slot b o e n hb hx;exact⟨sl,(hs.2 b (qI (qC (qp e) (I.ok.zb x c fw hc)))).trans e1⟩
  .obtain⟨o',e1⟩:=I.base.there b o e hx;exact⟨o',(hs.2 b (qI (qC (qp e) (I.ok.zb x c fw hc)))).trans e1⟩
  .by_cases hj:j=i
   .subst hj;rw[hi]at e1;cases e1;rw[q0 eE]at e2;cases e2;exact⟨u,r,.inr ⟨.inl hk,c,hc,jd⟩⟩
   .rw[rh (Ne.symm hj)]at e2;obtain⟨u',r',q⟩:=hl j y v' e1 e2 e3;refine⟨u',r',?_⟩;rcases q with q|⟨k,c',e,z'⟩
    .exact .inl q
    .refine .inr ⟨k,c',e,z'.sameBut hs ?_⟩
     rintro rfl
     exact hj (GP hN e1 (I.ok.inj _ _ _ e hc▸hi))
  .by_cases jO:c'=c
   .subst jO;exact⟨_,jd⟩
   .obtain⟨w2,z2⟩:=I.cell y c' e;exact⟨w2,z2.sameBut hs jO⟩
  .obtain⟨e,n,ne,nf,d⟩:=I.pin p hp;refine⟨(hs.2 p.1 ?_).trans e,n,ne,nf,d⟩;intro q;rw[q,jh]at e;have q':=Option.some.inj e;exact d w' (by rwa[<- q'])
theorem EG{X}{x}(I:Inv X aa σ H s)(hN:X.N.Nodup)(hi:X.N[i]?=some x)(hx:Loc X.env.scope x)(r:RelV v u)
  (h:∀s',Inv X aa (σ.set i (some v)) H s'->Q () s') (hf:X.fn x=true\/X.env.scope.names.lookup x=some .local:=by first|exact .inl rfl|exact .inr rfl|assumption):wpAny M A (storeName X.env x u) Q E s :=
 Hx I hN hi hx r (λs' I' _=>h s' I') hf
theorem Inv.Y4(I:Inv X aa σ H s)(ho:s'.os=s.os)(u:Un (frs X.stack) ch H H' s.heap s'.heap)(z9:HOk X.prog X.w H' s'.heap)(hg:AllBare s'.gens)
  (eU:∀b∈ch,(b∈X.ex\/X.z6.heap.objs.size<=b)/\b≠X.env.locals/\(∀x c,X.env.cells.lookup x=some c->c≠b)/\∀p∈X.pn++aa,p.1≠b):Inv X aa σ H' s':=by
 obtain⟨h',g',d',t',o'⟩:=s';have e:=ho;subst e;exact I.call u z9 hg eU
abbrev XK:=Value->Option Addr->Hp->Prop
abbrev St:=List (Option V)
abbrev VK:=V->Hp->Prop
abbrev TE:=St->Hp->VK->Prop
abbrev TT:=St->Hp->(Bool->Hp->Prop)->Prop
abbrev TA:=St->Hp->(List V->Hp->Prop)->Prop
structure Ends where
 nx:St->Hp->Prop
 rt:VK
 bk:St->Hp->Prop:=λ_ _=>False
 ct:St->Hp->Prop:=λ_ _=>False
abbrev TS:=Ends->St->Hp->Prop
inductive EP(X:Cx)(aa:List (Addr×Obj))(σ:St)(Q:VK)(u:Value)(s':Shared):Prop
 |mk (v:V) (H':Hp) (h0:Inv X aa σ H' s') (h1:RelV v u) (h2:Q v H')
def TP(X:Cx)(aa:List (Addr×Obj))(σ:St)(Q:Bool->Hp->Prop)(b:Bool)(s':Shared):Prop:=∃H',Inv X aa σ H' s'/\Q b H'
inductive AP(X:Cx)(aa:List (Addr×Obj))(σ:St)(Q:List V->Hp->Prop)(us:List Value)(s':Shared):Prop
 |mk (vs:List V) (H':Hp) (h0:Inv X aa σ H' s') (h1:Vals vs us) (h2:Q vs H')
inductive NP(X:Cx)(aa:List (Addr×Obj))(Q:St->Hp->Prop)(s':Shared):Prop
 |mk (ax:St) (H':Hp) (h0:Inv X aa ax H' s') (h1:Q ax H')
inductive RtP(X:Cx)(aa:List (Addr×Obj))(Q:VK)(u:Value)(s':Shared):Prop
 |mk (v:V) (ax:St) (H':Hp) (h0:Inv X aa ax H' s') (h1:RelV v u) (h2:Q v H')
inductive HP(X:Cx)(aa:List (Addr×Obj))(σ:St)(Q:Hp->Prop)(s':Shared):Prop
 |mk (H':Hp) (h0:Inv X aa σ H' s') (h1:Q H')
def SP(X:Cx)(aa:List (Addr×Obj))(D:Ends)(f:Flow)(s':Shared):Prop :=
 match f with|.next=>NP X aa D.nx s'|.brk=>NP X aa D.bk s'|.cont=>NP X aa D.ct s'|.ret u=>RtP X aa D.rt u s'
def PE(X:Cx)(e:Expr)(t:TE):Prop :=
 ∀(aa:List (Addr×Obj))(s:Shared)(σ:St)(H:Hp)(Q:VK),Inv X aa σ H s->t σ H Q->wpAny (model X.prog X.w) X.A (eval e X.env) (EP X aa σ Q) X.xe s
def PT(X:Cx)(e:Expr)(t:TT):Prop :=
 ∀(aa:List (Addr×Obj))(s:Shared)(σ:St)(H:Hp)(Q:Bool->Hp->Prop),Inv X aa σ H s->t σ H Q->wpAny (model X.prog X.w) X.A (isTrue e X.env (eval e X.env)) (TP X aa σ Q) X.xe s
def PW(X:Cx)(e:Expr)(t:TT):Prop :=
 ∀(bq:Sem Value)(aa:List (Addr×Obj))(s:Shared)(σ:St)(H:Hp)(Q:Bool->Hp->Prop),Inv X aa σ H s->t σ H Q->wpAny (model X.prog X.w) X.A (isTrue e X.env bq) (TP X aa σ Q) X.xe s
theorem PW.pt{e}(h:PW X e t):PT X e t:=h _
def PA(X:Cx)(es:List Expr)(t:TA):Prop :=
 ∀(pos:Pos)(aa:List (Addr×Obj))(s:Shared)(σ:St)(H:Hp)(Q:List V->Hp->Prop),Inv X aa σ H s->t σ H Q->wpAny (model X.prog X.w) X.A (spliced (backTo pos (starEach es X.env))) (AP X aa σ Q) X.xe s
def PS(X:Cx)(st:Stmt)(t:TS):Prop :=
 ∀(aa:List (Addr×Obj))(s:Shared)(σ:St)(H:Hp)(D:Ends),Inv X aa σ H s->t D σ H->wpAny (model X.prog X.w) X.A (exec st X.env) (SP X aa D) X.xe s
def PSs(X:Cx)(st:List Stmt)(t:TS):Prop :=
 ∀(aa:List (Addr×Obj))(s:Shared)(σ:St)(H:Hp)(D:Ends),Inv X aa σ H s->t D σ H->wpAny (model X.prog X.w) X.A (execs st X.env) (SP X aa D) X.xe s
theorem thn(h:wpAny M A t Q E s)(hQ:∀a s,Q a s->Q' a s):wpAny M A t Q' E s:=wpAny_mono h hQ λ_ _ x=>x
variable{a b:Expr}{ta tb:TE}{pos:Pos}
variable{tA jB:TT}{rest:List Expr}
inductive Oh(i:Nat)(σ:St)(H:Hp)(Q:VK):Prop
 |mk (v:_) (h0:σ[i]?=some (some v)) (h1:Q v H)
def tC(v:V):TE:=λ_ H Q=>Q v H
theorem WG{x}(hN:X.N[i]?=some x)(hv:Vis X.env.scope x)(hd:(x==("__debug__":Str))=false:=by decide)(dD:(x==("__classdict__":Str))=false:=by decide):PE X (.Name x pos) (Oh i):=by
 intro aa s σ H Q I h;obtain⟨v,e,h⟩:=h;obtain⟨m,hn,hl⟩:=I.loc;obtain⟨u,r,l⟩:=hl i x v hN e hv;have aT:EP X aa σ Q u s:=⟨v,H,I,r,h⟩
 rcases l with⟨hk,hm⟩|⟨hk,c,hc,hcell⟩
 .exact wpAny_Name (wpAny_loadName_local I.ok.kind hk hn hm aT) hd
 .rcases hk with hk|hk
  .exact wpAny_Name (wpAny_loadName_cell I.ok.kind hk hc hcell aT) hd
  .exact wpAny_Name (wpAny_loadName_free I.ok.kind hk hc hcell aT dD) hd
theorem WO:PE X (.Constant (.int i) j pos) (tC (.int i)):=λ_ _ _ H _ I h=>wpAny_Constant_int ⟨.int i,H,I.tok _,⟨_,rfl⟩,h⟩
theorem JaO{b}:PE X (.Constant (.bool b) j pos) (tC (.v b)):=λ_ _ _ H _ I h=>Constant_bool ⟨.v b,H,I,rfl,h⟩
theorem WK:PE X (.Constant .none j pos) (tC .l):=λ_ _ _ H _ I h=>Constant_none ⟨.l,H,I,rfl,h⟩
theorem WI{x}:PE X (.Constant (.str x) j pos) (tC (.str x)):=λ_ _ _ H _ I h=>Calls.Constant_str ⟨.str x,H,I.tok _,⟨_,rfl⟩,h⟩
def Gl(X:Cx)(x:Str):Prop:=X.env.kindOf x=some .globalImplicit
theorem Dx{x}(I:Inv X aa σ H s)(hg:Gl X x)(hm:X.mg x=some u)(h:Q u s)
  (hd:(x==("__debug__":Str))=false:=by decide):wpAny (model X.prog X.w) X.A (eval (.Name x pos) X.env) Q E s :=
 Calls.Name_function_global I.ok.kind hg (Calls.loadGlobal_global (by rw[I.ok.glob];exact I.mod.glob.keeps I.bk) hm h) hd
theorem Dp{x}(I:Inv X aa σ H s)(hg:Gl X x)(hm:X.mg x=none)(hv:bootBuiltins x=some u)(h:Q u s)
  (hn:x≠"__name__":=by decide) (hd:(x==("__debug__":Str))=false:=by decide):wpAny (model X.prog X.w) X.A (eval (.Name x pos) X.env) Q E s:=by
 obtain⟨mb,h1,h2⟩:=I.mod.blt;exact Calls.Name_function_global I.ok.kind hg (Calls.loadGlobal_builtin (by rw[I.ok.glob];exact I.mod.glob.keeps I.bk) hm (by rw[I.ok.blt];exact h1.keeps I.bk) ((h2 x hn).trans hv) h) hd
theorem MB{x}(hg:Gl X x)(hm:X.mg x=some u)(r:RelV v u)(hd:(x==("__debug__":Str))=false:=by decide):PE X (.Name x pos) (tC v) :=
 λ_ _ _ H _ I h=>Dx I hg hm ⟨v,H,I,r,h⟩ hd
theorem Td{x}(hg:Gl X x)(hm:X.mg x=none)(hv:bootBuiltins x=some u)(r:RelV v u)(hn:x≠"__name__":=by decide)(hd:(x==("__debug__":Str))=false:=by decide):PE X (.Name x pos) (tC v) :=
 λ_ _ _ H _ I h=>Dp I hg hm hv ⟨v,H,I,r,h⟩ hn hd
def tAnd(t u:TT):TT:=λσ H Q=>t σ H λc H1=>if c=true then u σ H1 Q else Q false H1
def tOr(t u:TT):TT:=λσ H Q=>t σ H λc H1=>if c=true then Q true H1 else u σ H1 Q
def tNot(t:TT):TT:=λσ H Q=>t σ H λc H1=>Q (!c) H1
theorem SQ(ha:PT X a tA):PW X (.BoolOp .And [a] pos) tA:=by intro wh aa s σ H Q I h;refine isTrue_and (thn (ha aa s σ H Q I h) λc s1 e=>?_);cases c with|true=>exact isTrue_and_nil e|false=>exact e
theorem Wo(ha:PT X a tA):PW X (.BoolOp .Or [a] pos) tA:=by intro wh aa s σ H Q I h;refine isTrue_or (thn (ha aa s σ H Q I h) λc s1 e=>?_);cases c with|false=>exact isTrue_or_nil e|true=>exact e
theorem Wq(ha:PT X a tA)(hb:PW X (.BoolOp .And (b::rest) pos) jB):PW X (.BoolOp .And (a::b::rest) pos) (tAnd tA jB):=by intro wh aa s σ H Q I h;refine isTrue_and (thn (ha aa s σ H _ I h) λc s1 ao=>?_);obtain⟨H1,I1,q1⟩:= ao;cases c with|true=>exact hb wh aa s1 σ H1 Q I1 q1|false=>exact⟨H1,I1,q1⟩
theorem JaD(ha:PT X a tA)(hb:PW X (.BoolOp .Or (b::rest) pos) jB):PW X (.BoolOp .Or (a::b::rest) pos) (tOr tA jB):=by intro wh aa s σ H Q I h;refine isTrue_or (thn (ha aa s σ H _ I h) λc s1 ao=>?_);obtain⟨H1,I1,q1⟩:= ao;cases c with|true=>exact⟨H1,I1,q1⟩|false=>exact hb wh aa s1 σ H1 Q I1 q1
theorem Wt(ha:PT X a tA):PT X (.UnaryOp .Not a pos) (tNot tA):=by intro aa s σ H Q I h;exact isTrue_not (ha aa s σ H (λc H1=>Q (!c) H1) I h)
def Jaq(ta tb:TE):TE:=λσ H Q=>ta σ H λx H1=>∃c,x=.v c/\if c=true then tb σ H1 Q else Q (.v false) H1
def tOrV(ta tb:TE):TE:=λσ H Q=>ta σ H λx H1=>∃c,x=.v c/\if c=true then Q (.v true) H1 else tb σ H1 Q
theorem WJ(h:PE X a t):PE X (.BoolOp op [a] pos) t:=λaa s σ H Q I hw=>BoolOp_one (h aa s σ H Q I hw)
theorem WT(ha:PE X a ta)(hb:PE X (.BoolOp .And (b::rest) pos) tb):PE X (.BoolOp .And (a::b::rest) pos) (Jaq ta tb):=by intro aa s σ H Q I h;refine BoolOp_and (thn (ha aa s σ H _ I h) λv s1 ao=>?_);obtain⟨x,H1,I1,r1,q1⟩:= ao;obtain⟨c,rfl,q1⟩:=q1;cases r1;refine wpAny_truthy_bool ?_;cases c with|true=>exact hb aa s1 σ H1 Q I1 q1|false=>exact⟨.v false,H1,I1,rfl,q1⟩
theorem JaH(ha:PE X a ta)(hb:PE X (.BoolOp .Or (b::rest) pos) tb):PE X (.BoolOp .Or (a::b::rest) pos) (tOrV ta tb):=by intro aa s σ H Q I h;refine BoolOp_or (thn (ha aa s σ H _ I h) λv s1 ao=>?_);obtain⟨x,H1,I1,r1,q1⟩:= ao;obtain⟨c,rfl,q1⟩:=q1;cases r1;refine wpAny_truthy_bool ?_;cases c with|false=>exact hb aa s1 σ H1 Q I1 q1|true=>exact⟨.v true,H1,I1,rfl,q1⟩
def SqL(K:Fg)(H:Hp)(a:Addr)(xs:List V):Prop :=
 Rd H a (.lst xs)\/
  ∃(o:Obj)(aq:Array Value)(n:Nat),K.lookup a=some o/\o.cls=.type "list"/\o.dict=none/\o.data=.seq aq n/\aq.size<=sizeLine/\Vals xs aq.toList
def SqT(K:Fg)(H:Hp)(a:Addr)(xs:List V):Prop :=
 Rd H a (.tup xs)\/
  ∃(o:Obj)(aq:Array Value)(n:Nat),K.lookup a=some o/\o.cls=.type "tuple"/\o.data=.seq aq n/\aq.size<=sizeLine/\Vals xs aq.toList
def absV:Value->Option V
 |.none=>some .l
 |.bool b=>some (.v b)
 |.int i _=>some (.int i)
 |.str x _=>some (.str x)
 |.bytes b _=>some (.zJ b)
 |.float b _=>some (.yP b)
 |.ref a=>some (.ref a)
 |.type n=>some (.ty n)
 |_=>none
theorem RelV.abs{x}(r:RelV x u):absV u=some x:=by cases x with|l=>cases r;rfl|v _=>cases r;rfl|int _=>obtain⟨t,rfl⟩:=r;rfl|str _=>obtain⟨t,rfl⟩:=r;rfl|zJ _=>obtain⟨t,rfl⟩:=r;rfl|yP _=>obtain⟨t,rfl⟩:=r;rfl|ref _=>cases r;rfl|ty _=>cases r;rfl
theorem RelV.inj{x}{y}(r:RelV x u)(q:RelV y u):x=y:=Option.some.inj (r.abs.symm.trans q.abs)
theorem Vals.inj:∀{xs ys:List V}{us:List Value},Vals xs us->Vals ys us->xs=ys
 |_,_,_,.nil,.nil=>rfl
 |_,_,_,.cons r t,.cons r' t'=>by rw[r.inj r',Vals.inj t t']
variable{σ:St}{a:Addr}{xs ys:List V}
theorem SqL.of{K:Fg}(h:H a=some (.lst xs)):SqL K H a xs:=.inl (.inl h)
theorem SqT.of{K:Fg}(h:H a=some (.tup xs)):SqT K H a xs:=.inl (.inl h)
theorem Inv.list(I:Inv X aa σ H s)(h:SqL X.K H a xs):∃aq:List Value,Vals xs aq/\PlainL s.heap a aq.toArray/\xs.length<=sizeLine:=by
 rcases h with h|⟨o,aq,n,hk,hc,hd,hs,hz,r⟩
 .obtain⟨z,aq,n,r,e⟩:=h.ok I.z9;exact⟨aq,r,⟨_,n,e,rfl,rfl,rfl⟩,z⟩
 .refine⟨aq.toList,r,⟨o,n,I.kIn a o hk,hc,hd,by simpa using hs⟩,?_⟩;have e:=r.length;simp only[rT]at e
  lia
theorem Inv.tuple(I:Inv X aa σ H s)(h:SqT X.K H a xs):∃aq:List Value,Vals xs aq/\IsTup s.heap a aq.toArray/\xs.length<=sizeLine:=by
 rcases h with h|⟨o,aq,n,hk,hc,hs,hz,r⟩
 .obtain⟨z,aq,r,p⟩:=h.ok I.z9;exact⟨aq,r,p.tup,z⟩
 .refine⟨aq.toList,r,⟨o,I.kIn a o hk,hc,n,by simpa using hs⟩,?_⟩;have e:=r.length;simp only[rT]at e
  lia
theorem Inv.Ki(I:Inv X aa σ H s)(h:SqL X.K H a xs)(h':SqL X.K H a ys):xs=ys:=by
 obtain⟨aq,r,⟨o,n,e,_,_,d⟩,_⟩:=I.list h;obtain⟨bF,r',⟨o',n',e',_,_,d'⟩,_⟩:=I.list h';rw[e]at e';cases e';rw[d]at d';injection d' with d1 _;have:=by simpa using congrArg Array.toList d1
 subst this;exact r.inj r'
theorem Inv.Hv(I:Inv X aa σ H s)(h:SqT X.K H a xs)(h':SqT X.K H a ys):xs=ys:=by
 obtain⟨aq,r,⟨o,e,_,n,d⟩,_⟩:=I.tuple h;obtain⟨bF,r',⟨o',e',_,n',d'⟩,_⟩:=I.tuple h';rw[e]at e';cases e';rw[d]at d';injection d' with d1 _;have:=by simpa using congrArg Array.toList d1
 subst this;exact r.inj r'
abbrev Cx.EX(X:Cx)(E:Value->Shared->Prop):Cx:={X with xe:=E}
theorem Cx.Ok.EX(ok:X.Ok)(E:Value->Shared->Prop):(X.EX E).Ok :=
 ⟨ok.mod,ok.kind,ok.glob,ok.blt,ok.above,ok.inj,ok.has,ok.zb,ok.hd,ok.frames,ok.yV,ok.yS,ok.bs,ok.zw,ok.zu,ok.zv,ok.Kr,ok.zg⟩
theorem Cx.Ok.Dm(ok:(X.EX E).Ok):X.Ok :=
 ⟨ok.mod,ok.kind,ok.glob,ok.blt,ok.above,ok.inj,ok.has,ok.zb,ok.hd,ok.frames,ok.yV,ok.yS,ok.bs,ok.zw,ok.zu,ok.zv,ok.Kr,ok.zg⟩
variable{E:Value->Shared->Prop}
theorem Inv.EX(I:Inv X aa σ H s)(E:Value->Shared->Prop):Inv (X.EX E) aa σ H s:=⟨I.ok.EX E,I.os,I.bare,I.base,I.loc,I.cell,I.free,I.zZ,I.pin,I.z9,I.len⟩
theorem Inv.Dm(I:Inv (X.EX E) aa σ H s):Inv X aa σ H s:=⟨I.ok.Dm,I.os,I.bare,I.base,I.loc,I.cell,I.free,I.zZ,I.pin,I.z9,I.len⟩
theorem SP.Dm(h:SP (X.EX E) aa D f s'):SP X aa D f s':=by cases f with|next=>obtain⟨ax,H',I,q⟩:=h;exact⟨ax,H',I.Dm,q⟩|brk=>obtain⟨ax,H',I,q⟩:=h;exact⟨ax,H',I.Dm,q⟩|cont=>obtain⟨ax,H',I,q⟩:=h;exact⟨ax,H',I.Dm,q⟩|ret u=>obtain⟨v,ax,H',I,r,q⟩:=h;exact⟨v,ax,H',I.Dm,r,q⟩
variable{st:Stmt}{rest:List Stmt}{t u:TS}{e:Expr}{te:TE}
def Jal:TS:=λD σ H=>D.nx σ H
def JbU(t u:TS):TS:=λD σ H=>t {D with nx:=u D} σ H
theorem SU:PSs X [] Jal:=λ_ _ σ H _ I h=>wpAny_execs_nil ⟨σ,H,I,h⟩
theorem OZ(h1:PS X st t)(h2:PSs X rest u):PSs X (st::rest) (JbU t u):=by intro aa s σ H D I h;refine wpAny_execs_cons (thn (h1 aa s σ H {D with nx:=u D} I h) λf s1 q=>?_);cases f with|next =>obtain⟨ax,H',I',q⟩:=q;exact h2 aa s1 ax H' D I' q|ret v=>exact q|brk=>exact q|cont=>exact q
theorem SS(h1:PS X st t):PSs X [st] t:=by intro aa s σ H D I h;refine wpAny_execs_cons (thn (h1 aa s σ H D I h) λf s1 q=>?_);cases f with|next=>exact wpAny_execs_nil q|ret v=>exact q|brk=>exact q|cont=>exact q
theorem Inv.quiet(I:Inv X aa σ H s):interactive X.env=false:=by simp[interactive,I.ok.kind]
def Jam(te:TE):TS:=λD σ H=>te σ H λ_ H1=>D.nx σ H1
theorem SV(he:PE X e te)(hs:swapsWith e none pos.line X.env=pure false:=by rfl):PS X (.Expr e pos) (Jam te):=by intro aa s σ H D I h;exact wpAny_Expr_any (thn (he aa s σ H _ I h) λv s1 ⟨x,H1,I1,r1,q1⟩=>⟨σ,H1,I1,q1⟩) I.quiet hs
def tRet(te:TE):TS:=λD σ H=>te σ H D.rt
theorem Wv(he:PE X e te):PS X (.Return (some e) pos) (tRet te):=by intro aa s σ H D I h;exact wpAny_Return_some (thn (he aa s σ H _ I h) λv s1 ⟨x,H1,I1,r1,q1⟩=>⟨x,σ,H1,I1,r1,q1⟩)
def tIfS(c:TT)(t u:TS):TS:=λD σ H=>c σ H λb H1=>if b=true then t D σ H1 else u D σ H1
theorem JaE{a}{b}(hc:PT X c tc)(ha:PSs X a t)(hb:PSs X b u):PS X (.If c a b pos) (tIfS tc t u):=by intro aa s σ H D I h;refine wpAny_If (thn (hc aa s σ H _ I h) λd s1 ao=>?_);obtain⟨H1,I1,q1⟩:= ao;cases d with|true=>exact ha aa s1 σ H1 D I1 q1|false=>exact hb aa s1 σ H1 D I1 q1
def VY:TS:=λ_ _ _=>False
theorem O2:PS X st VY:=λ_ _ _ _ _ _ h=>h.elim
abbrev TG:=V->St->Hp->(St->Hp->Prop)->Prop
abbrev TGs:=List V->St->Hp->(St->Hp->Prop)->Prop
def PG(X:Cx)(target:Expr)(t:TG):Prop :=
 ∀(aa:List (Addr×Obj))(s:Shared)(σ:St)(H:Hp)(v:V)(u:Value)(Q:St->Hp->Prop),Inv X aa σ H s->RelV v u->t v σ H Q ->
  wpAny (model X.prog X.w) X.A (assign target X.env u) (λ_ s'=>NP X aa Q s') X.xe s
def PGs(X:Cx)(ts:List Expr)(t:TGs):Prop :=
 ∀(aa:List (Addr×Obj))(s:Shared)(σ:St)(H:Hp)(vs:List V)(us:List Value)(Q:St->Hp->Prop),Inv X aa σ H s->Vals vs us->t vs σ H Q ->
  wpAny (model X.prog X.w) X.A (assignInOrder ((assignEach ts X.env).map (·.2)) us) (λ_ s'=>NP X aa Q s') X.xe s
abbrev Zb:=V->V->V->Hp->(Hp->Prop)->Prop
def QT(X:Cx)(t:Zb):Prop :=
 ∀(aa:List (Addr×Obj))(s:Shared)(σ:St)(H:Hp)(o i v:V)(ov iv u:Value)(Q:Hp->Prop),Inv X aa σ H s->RelV o ov->RelV i iv->RelV v u->t o i v H Q ->
  wpAny (model X.prog X.w) X.A (setItem ov iv u) (λ_ s'=>HP X aa σ Q s') X.xe s
def Qc(i:Nat):TG:=λv σ H Q=>Q (σ.set i (some v)) H
theorem S6{X}{x}(hN:X.N.Nodup)(hi:X.N[i]?=some x)(hx:Loc X.env.scope x)(hf:X.fn x=true\/X.env.scope.names.lookup x=some .local:=by first|exact .inl rfl|exact .inr rfl|assumption):PG X (.Name x pos) (Qc i):=by intro aa s σ H v u Q I r h;exact wpAny_assign_Name (EG I hN hi hx r (λs' I'=>⟨_,H,I',h⟩) hf)
def gNil:TGs:=λvs σ H Q=>vs=[]/\Q σ H
inductive XY(t:TG)(u:TGs)(vs:List V)(σ:St)(H:Hp)(Q:St->Hp->Prop):Prop
 |mk (v r:_) (h0:vs=v::r) (h1:t v σ H λax H'=>u r ax H' Q)
theorem S5:PGs X [] gNil:=by intro aa s σ H vs us Q I r h;obtain⟨e,h⟩:=h;subst e;cases r;exact assignInOrder_nil ⟨σ,H,I,h⟩
theorem Pc{t}{u}(h1:PG X e t)(h2:PGs X es u)
  (hs:(assignEach (e::es) X.env).map (·.2)=assign e X.env::(assignEach es X.env).map (·.2):=by rfl):PGs X (e::es) (XY t u):=by
 intro aa s σ H vs us Q I r h;obtain⟨v,vr,e1,h⟩:=h;subst e1;cases r with|cons r rr =>rw[hs];refine assignInOrder_cons (thn (h1 aa s σ H _ _ _ I r h) λ_ s1 ao=>?_);obtain⟨gR,H1,I1,q1⟩:= ao;exact h2 aa s1 gR H1 _ _ Q I1 rr q1
inductive gTup(K:Fg)(n:Nat)(t:TGs)(v:V)(σ:St)(H:Hp)(Q:St->Hp->Prop):Prop
 |mk (a xs:_) (h0:v=.ref a) (h1:SqT K H a xs) (h2:xs.length=n) (h3:t xs σ H Q)
theorem WC{t}(hc:X.calm=true)(h:PGs X es t)
  (hn:(assignEach es X.env).length=n:=by rfl) (cQ:(assignEach es X.env).findIdx? (·.1)=none:=by rfl):PG X (.Tuple es k pos) (gTup X.K n t):=by
 intro aa s σ H v u Q I r hw;obtain⟨a,xs,e1,hq,hl,hw⟩:=hw;subst e1;cases r;obtain⟨aq,rv,ht,hz⟩:=I.tuple hq;refine assign_Tuple_tuple (I.ok.hd hc) ht (by simp[hn,<- hl,rv.length]) cQ λh' hx=>?_
 have I1:Inv X aa σ H {s with heap:=h' }:=I.kept λb o e=>hx b o (qI (qp e)) e
 exact h aa _ σ H xs _ Q I1 (by simpa using rv) hw
def Jb7(to ti:TE)(t:Zb):TG:=λv σ H Q=>to σ H λo H1=>ti σ H1 λi H2=>t o i v H2 λH3=>Q σ H3
theorem WD{o}{t}(ho:PE X o to)(hi:PE X i ti)(hs:QT X t)
  (ha:∀v,assign (.Subscript o i pos) X.env v=(do
   let ov <- holding [v] (eval o X.env)
   let iv <- holding [v,ov] (eval i X.env)
   standAt pos
   holding [v,ov,iv] (setItem ov iv v)
   release [v,ov,iv] []):=by intro _;rfl):PG X (.Subscript o i pos) (Jb7 to ti t):=by
 intro aa s σ H v u Q I r h;refine p9 (wpAny_holding (thn (ho aa s σ H _ I h) λov s1 ao=>?_));obtain⟨x,H1,I1,r1,q1⟩:= ao;refine p9 (wpAny_holding (thn (hi aa s1 σ H1 _ I1 q1) λiv s2 ao=>?_));obtain⟨y,H2,I2,r2,q2⟩:= ao;refine p9 (wpAny_standAt (p9 (wpAny_holding (thn (hs aa s2 σ H2 x y v ov iv u _ I2 r1 r2 r q2) λ_ s3 ao=>?_))));obtain⟨H3,I3,q3⟩:= ao;exact wpAny_release ⟨σ,H3,I3,q3⟩
def V3(te:TE)(g:TG):TS:=λD σ H=>te σ H λx H1=>g x σ H1 D.nx
theorem Rc(he:PE X e te)(hg:PG X tg g)(hs:swapsWithSole [tg] e pos.line X.env=pure false:=by rfl)(hw:swappedStores [tg] e X.env=pure none:=by rfl)
  (h1:(assignEach [tg] X.env).map (·.2)=[assign tg X.env]:=by rfl):PS X (.Assign [tg] e pos) (V3 te g):=by
 intro aa s σ H D I h;refine wpAny_Assign_stores (thn (he aa s σ H _ I h) λv s1 ao=>?_) hs hw;obtain⟨x,H1,I1,r1,q1⟩:= ao;rw[h1];exact thn (hg aa s1 σ H1 x v _ I1 r1 q1) λ_ s2 q=>q
theorem Wu{X}{x}(hN:X.N.Nodup)(hi:X.N[i]?=some x)(hx:Loc X.env.scope x)(he:PE X e te)(hs:swapsWith e (some (.Name x aR)) pos.line X.env=pure false:=by rfl)(hf:X.fn x=true\/X.env.scope.names.lookup x=some .local:=by first|exact .inl rfl|exact .inr rfl|assumption):
  PS X (.Assign [.Name x aR] e pos) (V3 te (Qc i)):=by
 intro aa s σ H D I h;refine wpAny_Assign_Name (thn (he aa s σ H _ I h) λv s1 ao=>?_) hs;obtain⟨y,H1,I1,r1,q1⟩:= ao;exact EG I1 hN hi hx r1 (λs2 I2=>⟨_,H1,I2,q1⟩) hf
structure It where
 go:Nat->Hp->Prop
 yQ:Nat->Hp->V->Hp->Prop
 stop:Nat->Hp->Prop
def I0(X:Cx)(aa:List (Addr×Obj))(H:Hp)(b:Addr):Prop :=
 H b=none/\b≠X.env.locals/\b∉X.fs/\(b∈X.ex\/X.z6.heap.objs.size<=b)/\(∀x c,X.env.cells.lookup x=some c->c≠b)/\∀p∈X.pn++aa,p.1≠b
theorem Inv.Qj{b}(I:Inv X aa σ H s)(hb:s.heap.objs.size<=b)(hn:H' b=none):I0 X aa H' b:=by
 refine⟨hn,sR (qC I.lt hb),I.nofs hb,.inr (qF I.sz hb),λx c e z=>?_,λp hp z=>?_⟩
 .obtain⟨v,q⟩:=I.cell x c e;exact absurd (qC q.lt (by rwa[z])) (rd _)
 .exact absurd (qC (qp (I.pin p hp).1) (by rwa[z])) (rd _)
structure Turn(P:Program)(w:World)(K:Fg)(tg:Expr)(J:It)(fp:List Addr)(it:Addr)(tn:Nat->Heap->Prop):Prop where
 mem:it∈fp
 obj:∀i h,tn i h->∀b∈fp,∃o,h.get? b=some o/\∀v,o.data≠.cell v
 keep:∀i h h',tn i h->(∀b∈fp,∀o,h.get? b=some o->h'.get? b=some o)->tn i h'
 item:∀(X:Cx),X.prog=P->X.w=w->X.K=K->X.calm=true->∀(i:Nat)(aa:List (Addr×Obj))(s:Shared)(σ:St)(H:Hp)(E:Value->Shared->Prop),Inv X aa σ H s->(∀b∈fp,I0 X aa H b)->tn i s.heap->J.go i H ->
  wpAny (model P w) X.A (pyNext (.ref it)) (λr s1=>∃u,r=some u /\
   wpAny (model P w) X.A (letOwnedTupleGo tg (.ref it) u) (λ_ s2=>∃x H',Inv X aa σ H' s2/\RelV x u/\J.yQ i H x H'/\tn (i+1) s2.heap/\∀b∈fp,H' b=none) E s1) E s
 done:∀(X:Cx),X.prog=P->X.w=w->X.K=K->X.calm=true->∀(i:Nat)(aa:List (Addr×Obj))(s:Shared)(σ:St)(H:Hp)(E:Value->Shared->Prop),Inv X aa σ H s->(∀b∈fp,I0 X aa H b)->tn i s.heap->J.stop i H ->
  wpAny (model P w) X.A (pyNext (.ref it)) (λr s1=>r=none/\Inv X aa σ H s1) E s
 self:∀(A:Around)(i:Nat)(s:Shared)(Q:Value->Shared->Prop)(E:Value->Shared->Prop),tn i s.heap->Q (.ref it) s->wpAny (model P w) A (pyIter (.ref it)) Q E s
abbrev TI:=St->Hp->(It->Hp->Prop)->Prop
inductive PIE(X:Cx)(aa:List (Addr×Obj))(σ:St)(tg:Expr)(R:It->Hp->Prop)(jn:Value)(s2:Shared):Prop
 |mk (it:Addr) (fp:List Addr) (tn:Nat->Heap->Prop) (J:It) (H':Hp) (h0:jn=.ref it) (h1:Inv X aa σ H' s2) (h2:Turn X.prog X.w X.K tg J fp it tn) (h3:tn 0 s2.heap) (h4:∀b∈fp,I0 X aa H' b) (h5:R J H')
def PI(X:Cx)(tg aC:Expr)(wi:TI):Prop :=
 ∀(aa:List (Addr×Obj))(s:Shared)(σ:St)(H:Hp)(R:It->Hp->Prop),Inv X aa σ H s->wi σ H R ->
  wpAny (model X.prog X.w) X.A (eval aC X.env) (λv s1=>wpAny (model X.prog X.w) X.A (pyIter v) (PIE X aa σ tg R) X.xe s1) X.xe s
theorem P7{o}{u}(ho:s.heap.get? it=some o)(hc:o.cls=.type n)(hd:o.data=.fields vs)
    (hn:["enumerate","zip","dict_itemiterator","dict_reverseitemiterator","odict_iterator","itertools.zip_longest","itertools.pairwise"].contains n=false) (hQ:Q () s):wpAny M A (letOwnedTupleGo tg (.ref it) u) Q E s:=by
  cases tg<;>first
    |exact qg hQ
    | (cases u <;> first
        |exact qg hQ
        | (refine p9 (wpAny_load ho ?_)
           rw[hc,hd];show wpAny M A (if(["enumerate","zip","dict_itemiterator","dict_reverseitemiterator","odict_iterator","itertools.zip_longest","itertools.pairwise"].contains n&&vs[0]?==some (rawInt _))=true then _ else _) Q E s;rw[if_neg (by intro h;rw[hn,Bool.false_and]at h;cases h)];exact qg hQ))
def Itl(K:Fg)(a:Addr):It :=
 ⟨λi H=>∃xs x,SqL K H a xs/\xs[i]?=some x,λi H x H'=>H'=H/\∀xs,SqL K H a xs->xs[i]?=some x,λi H=>∃xs,SqL K H a xs/\xs.length<=i⟩
def Itt(K:Fg)(a:Addr):It :=
 ⟨λi H=>∃xs x,SqT K H a xs/\xs[i]?=some x,λi H x H'=>H'=H/\∀xs,SqT K H a xs->xs[i]?=some x,λi H=>∃xs,SqT K H a xs/\xs.length<=i⟩
def Itr(lo:Int)(n:Nat):It:=⟨λi _=>i<n,λi H x H'=>H'=H/\x=.int (lo+i),λi _=>n<=i⟩
theorem L4{K:Fg}(a it:Addr):Turn P w K tg (Itl K a) [it] it (λi h=>h.IsListIter it a i) where
 mem:=by simp
 obj:=λi h st b hb=>by
  have e:=by simpa using hb
  subst e;obtain⟨o,e,c,d⟩:=st;exact⟨o,e,λv z=>by rw[d]at z;cases z⟩
 keep:=λi h h' st k=>st.at λo e=>k it (by simp) o e
 item:=by
  intro X hP hw hK hc i aa s σ H E I hf st hg;subst hP hw hK;obtain⟨xs,x,hq,hx⟩:=hg;obtain⟨aq,rv,p,hz⟩:=I.list hq;obtain⟨u,hu,ru⟩:=rv.get hx;obtain⟨f0,f1,f2,f3,f4,f5⟩:=hf it (by simp);refine wpAny_pyNext_list_item st p.isList (by simpa using hu) λh' df sb=>?_
  have I1:Inv X aa σ H {s with heap:=h' }:=I.turned (λb o hb e=>(sb.2 b hb).trans e) f0 f1 f3 f4 f5;obtain⟨o,e,c,d⟩:=id df;exact⟨u,rfl,P7 e c d (by decide) ⟨x,H,I1,ru,⟨rfl,λys hy=>by rwa[I.Ki hy hq]⟩,df,λb hb=>(hf b hb).1⟩⟩
 done:=by intro X hP hw hK hc i aa s σ H E I hf st hg;subst hP hw hK;obtain⟨xs,hq,hx⟩:=hg;obtain⟨aq,rv,p,hz⟩:=I.list hq;obtain⟨f0,f1,f2,f3,f4,f5⟩:=hf it (by simp);have hl:=rv.length;exact wpAny_pyNext_list_end (I.ok.hd hc) st p.isList (by simp;lia) λh' eb=>⟨rfl,I.turned (λb o hb e=>eb b o hb e) f0 f1 f3 f4 f5⟩
 self:=λ_ _ _ _ _ st h=>wpAny_pyIter_listiter st h
theorem K2{K:Fg}(a it:Addr):Turn P w K tg (Itt K a) [it] it (λi h=>h.IsTupleIter it a i) where
 mem:=by simp
 obj:=λi h st b hb=>by
  have e:=by simpa using hb
  subst e;obtain⟨o,e,c,d⟩:=st;exact⟨o,e,λv z=>by rw[d]at z;cases z⟩
 keep:=λi h h' st k=>st.at λo e=>k it (by simp) o e
 item:=by
  intro X hP hw hK hc i aa s σ H E I hf st hg;subst hP hw hK;obtain⟨xs,x,hq,hx⟩:=hg;obtain⟨aq,rv,p,hz⟩:=I.tuple hq;obtain⟨u,hu,ru⟩:=rv.get hx;obtain⟨f0,f1,f2,f3,f4,f5⟩:=hf it (by simp);refine wpAny_pyNext_tuple_item st (show s.heap.IsTuple a aq.toArray from p) (by simpa using hu) λh' df sb=>?_
  have I1:Inv X aa σ H {s with heap:=h' }:=I.turned (λb o hb e=>(sb.2 b hb).trans e) f0 f1 f3 f4 f5;obtain⟨o,e,c,d⟩:=id df;exact⟨u,rfl,P7 e c d (by decide) ⟨x,H,I1,ru,⟨rfl,λys hy=>by rwa[I.Hv hy hq]⟩,df,λb hb=>(hf b hb).1⟩⟩
 done:=by intro X hP hw hK hc i aa s σ H E I hf st hg;subst hP hw hK;obtain⟨xs,hq,hx⟩:=hg;obtain⟨aq,rv,p,hz⟩:=I.tuple hq;obtain⟨f0,f1,f2,f3,f4,f5⟩:=hf it (by simp);have hl:=rv.length;exact wpAny_pyNext_tuple_end (I.ok.hd hc) st (show s.heap.IsTuple a aq.toArray from p) (by simp;lia) λh' eb=>⟨rfl,I.turned (λb o hb e=>eb b o hb e) f0 f1 f3 f4 f5⟩
 self:=λ_ _ _ _ _ st h=>wpAny_pyIter_tupleiter st h
theorem K3{K:Fg}(it:Addr)(lo:Int)(n:Nat):Turn P w K tg (Itr lo n) [it] it (λi h=>IsRangeIter h it (lo+(i:Nat)*1) ((n:Int)-(i:Nat)) 1) where
 mem:=by simp
 obj:=λi h st b hb=>by
  have e:=by simpa using hb
  subst e;exact⟨_,st,λv z=>by have z':=z;cases z'⟩
 keep:=λi h h' st k=>k it (by simp) _ st
 item:=by
  intro X hP hw hK hc i aa s σ H E I hf st hg;subst hP hw hK;obtain⟨f0,f1,f2,f3,f4,f5⟩:=hf it (by simp);have W:=Walks.range (prog:=X.prog) (w:=X.w) (I.ok.hd hc) it lo 1 n;refine W.item i s _ _ hg st λv h' tk hv df kk=>?_
  obtain⟨t,rfl⟩:=hv;have I1:Inv X aa σ H {s with heap:=h',toks:=tk}:=I.turned (λb o hb e=>kk b o (by simpa using hb) e) f0 f1 f3 f4 f5;refine⟨_,rfl,P7 df rfl rfl (by decide) ⟨.int (lo+i),H,I1,⟨t,?_⟩,⟨rfl,rfl⟩,df,λb hb=>(hf b hb).1⟩⟩;rw[Int.mul_one]
 done:=by intro X hP hw hK hc i aa s σ H E I hf st hg;obtain⟨f0,f1,f2,f3,f4,f5⟩:=hf it (by simp);exact wpAny_pyNext_range_end (I.ok.hd hc) st (by have:n<=i:=hg;lia) λh' eb=>⟨rfl,I.turned (λb o hb e=>eb b o hb e) f0 f1 f3 f4 f5⟩
 self:=λ_ _ _ _ _ st h=>wpAny_pyIter_rangeiter st h
variable{tg:Expr}
theorem OU{t}{u}{lo hi:Int}(I:Inv X aa σ H s)(h1:-(2^62)<=lo)(h2:lo<2^62)(h3:-(2^62)<=hi)(h4:hi<2^62)
  (q:R (Itr lo (hi-lo).toNat) H):wpAny (model X.prog X.w) X.A (pyIter (.ref s.heap.objs.size)) (PIE X aa σ tg R) E {s with heap:=s.heap.push {cls:=.type "range",data:=.fields #[.int lo t,.int hi u,.int 1 v]},toks:=tk}:=by
 refine wpAny_pyIter_range (IsRange.new ..) (small_one h1 h2 h3 h4) ?_;have I1:Inv X aa σ H {s with heap:=s.heap.push {cls:=.type "range",data:=.fields #[.int lo t,.int hi u,.int 1 v]},toks:=tk}:=I.kept λb o e=>qa _ e
 refine⟨(s.heap.push {cls:=.type "range",data:=.fields #[.int lo t,.int hi u,.int 1 v]}).objs.size,[(s.heap.push {cls:=.type "range",data:=.fields #[.int lo t,.int hi u,.int 1 v]}).objs.size],_,_,H,rfl,
  I1.kept λb o e=>qa _ e,K3 _ lo (hi-lo).toNat,?_,λb hb=>?_,q⟩
 .have e1:lo+((0:Nat):Int)*1=lo:=by simp
  have e2:(((hi-lo).toNat:Nat):Int)-((0:Nat):Int)=Builtin.Range.rangeSize lo hi 1:=by rw[rangeSize_one];split<;>lia
  rw[e1,e2];exact qo _ rfl
 .have e:b=(s.heap.push {cls:=.type "range",data:=.fields #[.int lo t,.int hi u,.int 1 v]}).objs.size:=by simpa using hb
  subst e;exact I1.Qj (qz _) (I1.z9.fresh (qz _))
def Ja3(ta:TA):TI:=λσ H R=>ta σ H λvs H1=>∃j:Int,vs=[.int j]/\-(2^62)<=j/\j<2^62/\R (Itr 0 j.toNat) H1
theorem Mx{a}{ta}{p:Pos}(hg:Gl X "range")(hm:X.mg "range"=none)(ha:PA X [a] ta)(hs:starEach [a] X.env=[(false,eval a X.env)]:=by rfl):PI X tg (.Call (.Name "range" p) [a] [] pos) (Ja3 ta):=by intro aa s σ H R I h;refine Call_ (Dp I hg hm boot_range (callWith_type1 (thn (ha pos aa s σ H _ I h) λus s1 ao=>?_) hs rfl));obtain⟨vs,H1,I1,r1,q1⟩:= ao;obtain⟨j,e,q1,q2,q⟩:=q1;subst e;cases r1 with|cons r rr =>cases rr;obtain⟨t,rfl⟩:=r;exact call_range_1 (OU I1 (by lia) (by lia) q1 q2 (by simpa using q))
def tFor(wi:TI)(g:TG)(tb:TS):TS:=λD σ H=>wi σ H λJ H1=>∃W:Nat->Nat->St->Hp->Prop,(∃m,W 0 m σ H1)/\∀i m σ H,W i m σ H ->
 (J.stop i H/\D.nx σ H)\/(J.go i H/\∃N:St->Hp->Prop,(∀ax H',N ax H'->∃m',m'<m/\W (i+1) m' ax H')/\∀x H',J.yQ i H x H'->g x σ H' λcG H2=>tb {D with nx:=N,ct:=N,bk:=D.nx} cG H2)
def HM(fp:List Addr)(h:Heap):List (Addr×Obj):=fp.filterMap λb=>(h.get? b).map λo=>(b,o)
theorem Dg{b}{o}(hb:b∈fp)(e:h.get? b=some o):(b,o)∈HM fp h:=sF.mpr ⟨b,hb,by rw[e];rfl⟩
theorem MG(hp:p∈HM fp h):p.1∈fp/\h.get? p.1=some p.2:=by obtain⟨b,hb,e⟩:=sF.mp hp;cases q:h.get? b with|none=>rw[q]at e;cases e|some o =>rw[q]at e;have e':=Option.some.inj e;subst e';exact⟨hb,q⟩
theorem Inv.pinned(I:Inv X aa σ H s)(hf:∀b∈fp,I0 X aa H b)(ho:∀b∈fp,∃o,s.heap.get? b=some o/\∀v,o.data≠.cell v):Inv X (aa++HM fp s.heap) σ H s :=
 I.GL λp hp=>(qd.mp hp).elim (λz=>I.pin p (qt _ z)) λz=>by obtain⟨hb,e⟩:=MG z;obtain⟨f0,f1,f2,_⟩:=hf p.1 hb;obtain⟨o,e',d⟩:=ho p.1 hb;rw[e]at e';cases e';exact⟨e,f0,f1,f2,d⟩
theorem Inv.EF(I:Inv X (aa++pl) σ H s):Inv X aa σ H s:=I.GL λp hp=>I.pin p (qt _ (qk _ hp))
theorem Ww{tb}(hp:PassesOwn (model X.prog X.w) X.A X.env X.xe)(hc:X.calm=true)(hi:PI X tg aC wi)(hg:PG X tg g)(hb:PSs X body tb)
  (hs:∀x,foldedSetIterable aC X.env x=pure x:=by intro _;rfl):PS X (.For tg aC body [] pos) (tFor wi g tb):=by
 intro aa s σ H D I h;refine wpAny_For (thn (hi aa s σ H _ I h) λv s1 h1=>thn h1 λjn s2 h2=>?_) hs;obtain⟨it,fp,tn,J,H2,e,I2,T,pj,f2,W,⟨m0,w0⟩,turn⟩:=h2;subst e;have dh:∀{H':Hp},(∀b∈fp,H' b=none)->∀b∈fp,I0 X aa H' b:=λhn b hb=>⟨hn b hb,(f2 b hb).2⟩
 refine codeAny_forLoop_any (λn s'=>∃i ax H',Inv X aa ax H' s'/\tn i s'.heap/\(∀b∈fp,H' b=none)/\W i n ax H') ?_ m0 ⟨0,σ,H2,I2,pj,λb hb=>(f2 b hb).1,w0⟩
 rintro n s3 ⟨i,gS,H3,I3,st3,fr3,w3⟩
 rcases turn i n gS H3 w3 with⟨stop,qn⟩|⟨go,N,hN,step⟩
 .refine wpAny_passesOwn hp (thn (T.done X rfl rfl rfl hc i aa s3 gS H3 X.xe I3 (dh fr3) st3 stop) λr s4 ao=>?_);obtain⟨hr,I4⟩:= ao;subst hr;exact wpAny_execs_nil ⟨gS,H3,I4,qn⟩
 .refine wpAny_passesOwn hp (thn (T.item X rfl rfl rfl hc i aa s3 gS H3 X.xe I3 (dh fr3) st3 go) λr s4 ao=>?_);obtain⟨u,hr,h4⟩:= ao;subst hr;refine wpAny_passesOwn hp (thn h4 λ_ s5 ao=>?_);obtain⟨x,H5,I5,r5,y5,kE,m7⟩:= ao;have mQ:=I5.pinned (dh m7) (T.obj _ _ kE);refine wpAny_passesOwn hp (thn (hg _ s5 gS H5 x u _ mQ r5 (step x H5 y5)) λ_ s6 ao=>?_);obtain⟨pA,H6,I6,q6⟩:= ao;refine wpAny_passesOwn hp (thn (hb _ s6 pA H6 _ I6 q6) λf s7 q7=>?_);have again:∀{eR:St}{H7:Hp},Inv X (aa++HM fp s5.heap) eR H7 s7->N eR H7->∃m,m<n/\∃i ax H',Inv X aa ax H' s7/\tn i s7.heap/\(∀b∈fp,H' b=none)/\W i m ax H':=λ{eR H7} I7 n7=>by obtain⟨m',hm,w7⟩:=hN eR H7 n7;refine⟨m',hm,i+1,eR,H7,I7.EF,T.keep _ _ _ kE λb hb o e=>(I7.pin (b,o) (qt _ (qt _ (Dg hb e)))).1,λb hb=>?_,w7⟩;obtain⟨o,e,d⟩:=T.obj _ _ kE b hb;exact(I7.pin (b,o) (qt _ (qt _ (Dg hb e)))).2.1
  cases f with|next=>obtain⟨eR,H7,I7,n7⟩:=q7;exact again I7 n7|cont=>obtain⟨eR,H7,I7,n7⟩:=q7;exact again I7 n7|brk=>obtain⟨eR,H7,I7,q7⟩:=q7;exact⟨eR,H7,I7.EF,q7⟩|ret v=>obtain⟨x7,eR,H7,I7,r7,q7⟩:=q7;exact⟨x7,eR,H7,I7.EF,r7,q7⟩
abbrev R2:=V->V->Hp->VK->Prop
def OpR(X:Cx)(f:Value->Value->Sem Value)(r:R2):Prop :=
 ∀(aa:List (Addr×Obj))(s:Shared)(σ:St)(H:Hp)(x y:V)(v u:Value)(Q:VK),Inv X aa σ H s->RelV x v->RelV y u->r x y H Q ->
  wpAny (model X.prog X.w) X.A (f v u) (EP X aa σ Q) X.xe s
def UnR(X:Cx)(f:Value->Sem Value)(r:V->Hp->VK->Prop):Prop :=
 ∀(aa:List (Addr×Obj))(s:Shared)(σ:St)(H:Hp)(x:V)(v:Value)(Q:VK),Inv X aa σ H s->RelV x v->r x H Q ->
  wpAny (model X.prog X.w) X.A (f v) (EP X aa σ Q) X.xe s
def B6(X:Cx)(f:Value)(r:List V->Hp->VK->Prop):Prop :=
 ∀(aa:List (Addr×Obj))(s:Shared)(σ:St)(H:Hp)(xs:List V)(us:List Value)(Q:VK),Inv X aa σ H s->Vals xs us->r xs H Q ->
  wpAny (model X.prog X.w) X.A (call f us) (EP X aa σ Q) X.xe s
def TruR(X:Cx)(r:V->Hp->(Bool->Hp->Prop)->Prop):Prop :=
 ∀(aa:List (Addr×Obj))(s:Shared)(σ:St)(H:Hp)(x:V)(v:Value)(Q:Bool->Hp->Prop),Inv X aa σ H s->RelV x v->r x H Q ->
  wpAny (model X.prog X.w) X.A (truthy v) (TP X aa σ Q) X.xe s
def tOp(r:R2)(ta tb:TE):TE:=λσ H Q=>ta σ H λx H1=>tb σ H1 λy H2=>r x y H2 Q
def tUn(r:V->Hp->VK->Prop)(ta:TE):TE:=λσ H Q=>ta σ H λx H1=>r x H1 Q
inductive rI(C:Int->Int->Prop)(g:Int->Int->V)(x:V)(y:V)(H:Hp)(Q:VK):Prop
 |mk (i j:_) (h0:x=.int i) (h1:y=.int j) (h2:C i j) (h3:Q (g i j) H)
inductive rI0(g:Int->Int->V)(x:V)(y:V)(H:Hp)(Q:VK):Prop
 |mk (i j:_) (h0:x=.int i) (h1:y=.int j) (h2:Q (g i j) H)
def rU(g:Int->V):V->Hp->VK->Prop:=λx H Q=>∃i,x=.int i/\Q (g i) H
variable{a c:Expr}{tc:TE}
theorem JbM(ha:PE X a ta)(hb:PE X b tb){R:V->V->Hp->Prop}(I:Inv X aa σ H s)
  (h:ta σ H λx H1=>tb σ H1 λy H2=>R x y H2) {f:Value->Value->Sem Value}
  (hf:∀v u s2 x y H2,Inv X aa σ H2 s2->RelV x v->RelV y u->R x y H2->wpAny (model X.prog X.w) X.A (f v u) Q X.xe s2) :
  wpAny (model X.prog X.w) X.A (eval a X.env) (λv aB=>wpAny (model X.prog X.w) X.A (eval b X.env) (λu cf=>wpAny (model X.prog X.w) X.A (f v u) Q X.xe cf) X.xe aB) X.xe s:=by
 refine thn (ha aa s σ H _ I h) λv s1 ao=>?_
 obtain⟨x,H1,I1,r1,q1⟩:= ao;refine thn (hb aa s1 σ H1 _ I1 q1) λu s2 ao=>?_
 obtain⟨y,H2,I2,r2,q2⟩:= ao;exact hf v u s2 x y H2 I2 r1 r2 q2
theorem JaI(ho:OpR X (binaryOp op) r)(ha:PE X a ta)(hb:PE X b tb):PE X (.BinOp a op b pos) (tOp r ta tb):=by intro aa s σ H Q I h;exact wpAny_BinOp (JbM ha hb I h λv u s2 x y H2 I2 rx ry q=>ho aa s2 σ H2 x y v u Q I2 rx ry q)
theorem JaF(ho:UnR X (unaryOp op) r)(ha:PE X a ta):PE X (.UnaryOp op a pos) (tUn r ta):=by intro aa s σ H Q I h;exact UnaryOp_ (thn (ha aa s σ H _ I h) λv s1 ⟨x,H1,I1,r1,q1⟩=>ho aa s1 σ H1 x v Q I1 r1 q1)
theorem opI{g:Int->Int->Int}
  (cY:∀(i j:Int)(t u:Tok)(s:Shared)(Q:Value->Shared->Prop)(E:Value->Shared->Prop),C i j->Q (.int (g i j) s.toks) {s with toks:=s.toks+1}->wpAny (model X.prog X.w) X.A (f (.int i t) (.int j u)) Q E s) :
  OpR X f (rI C λi j=>.int (g i j)):=by
 intro aa s σ H x y v u Q I rx ry h;obtain⟨i,j,rfl,rfl,hc,q⟩:=h;obtain⟨t,rfl⟩:=rx;obtain⟨t',rfl⟩:=ry;exact cY i j t t' s _ _ hc ⟨.int (g i j),H,I.tok _,⟨_,rfl⟩,q⟩
theorem Jb2{g:Int->Int->Int}
  (cY:∀(i j:Int)(t u:Tok)(s:Shared)(Q:Value->Shared->Prop)(E:Value->Shared->Prop),Q (.int (g i j) s.toks) {s with toks:=s.toks+1}->wpAny (model X.prog X.w) X.A (f (.int i t) (.int j u)) Q E s) :
  OpR X f (rI0 λi j=>.int (g i j)):=by
 intro aa s σ H x y v u Q I rx ry h;obtain⟨i,j,rfl,rfl,q⟩:=h;obtain⟨t,rfl⟩:=rx;obtain⟨t',rfl⟩:=ry;exact cY i j t t' s _ _ ⟨.int (g i j),H,I.tok _,⟨_,rfl⟩,q⟩
theorem JaQ{g:Int->Int->Bool}
  (cY:∀(i j:Int)(t u:Tok)(s:Shared)(Q:Value->Shared->Prop)(E:Value->Shared->Prop),Q (.bool (g i j)) s->wpAny (model X.prog X.w) X.A (f (.int i t) (.int j u)) Q E s) :
  OpR X f (rI0 λi j=>.v (g i j)):=by
 intro aa s σ H x y v u Q I rx ry h;obtain⟨i,j,rfl,rfl,q⟩:=h;obtain⟨t,rfl⟩:=rx;obtain⟨t',rfl⟩:=ry;exact cY i j t t' s _ _ ⟨.v (g i j),H,I,rfl,q⟩
def Jch(i j:Int):Prop:=0<j/\j<1073741824
def Jcg(i j:Int):Prop:=0<=j/\j<=1000000/\i.natAbs<2^64
def Zt(i j:Int):Prop:=(-(2^64)<i/\i<2^64)\/(-(2^64)<j/\j<2^64)
theorem Zt.ok(h:Zt i j):IntMulOk i j:=by
 rcases h with⟨h1,h2⟩|⟨h1,h2⟩
 .exact .of_left (intBits_le_64 h1 h2)
 .exact .of_right (intBits_le_64 h1 h2)
theorem W6:OpR X (binaryOp .Add) (rI0 λi j=>.int (i+j)):=Jb2 λ_ _ _ _ _ _ _ q=>add_int q
theorem WX:OpR X (binaryOp .Sub) (rI0 λi j=>.int (i-j)):=Jb2 λ_ _ _ _ _ _ _ q=>sub_int q
theorem Tj:OpR X (binaryOp .FloorDiv) (rI Jch λi j=>.int (i/j)):=opI λi j _ _ _ _ _ hc q=>by have h1:=hc.1;have h2:j<1073741824:=hc.2;exact floordiv_int (by lia) (by rwa[Int.fdiv_eq_ediv_of_nonneg i (by lia)]) (.inl (PyProof.noPylong_small (by lia)))
theorem WZ:OpR X (binaryOp .Mod) (rI (λ_ j=>0<j) λi j=>.int (i%j)):=opI λi j _ _ _ _ _ hc q=>by exact mod_int' (by lia) (by rwa[Int.fmod_eq_emod_of_nonneg i (by lia)])
theorem WY:OpR X (binaryOp .Pow) (rI Jcg λi j=>.int (i^j.toNat)):=opI λ_ _ _ _ _ _ _ hc q=>pow_int_small hc.1 hc.2.1 hc.2.2 q
theorem unI{g:Int->Int}
  (cY:∀(i:Int)(t:Tok)(s:Shared)(Q:Value->Shared->Prop)(E:Value->Shared->Prop),Q (.int (g i) s.toks) {s with toks:=s.toks+1}->wpAny (model X.prog X.w) X.A (f (.int i t)) Q E s) :
  UnR X f (rU λi=>.int (g i)):=by
 intro aa s σ H x v Q I rx h;obtain⟨i,rfl,q⟩:=h;obtain⟨t,rfl⟩:=rx;exact cY i t s _ _ ⟨.int (g i),H,I.tok _,⟨_,rfl⟩,q⟩
theorem VT:UnR X (unaryOp .USub) (rU λi=>.int (-i)):=unI λ_ _ _ _ _ q=>neg_int q
def SG:V->V->Bool
 |.l,.l=>true|.l,.int _=>true|.int _,.l=>true|.l,.v _=>true|.v _,.l=>true|.l,.str _=>true|.str _,.l=>true
 |.int _,.int _=>true|.v _,.v _=>true|.str _,.str _=>true|.zJ _,.zJ _=>true
 |.int _,.str _=>true|.str _,.int _=>true|.v _,.str _=>true|.str _,.v _=>true
 |_,_=>false
def rEq:R2:=λx y H Q=>SG x y=true/\Q (.v (decide (x=y))) H
def rNe:R2:=λx y H Q=>SG x y=true/\Q (.v (!decide (x=y))) H
theorem NQ:decide (V.int i=V.int j)=(i==j):=by rw[rp];simp
theorem RU:decide (V.v i=V.v j)=(i==j):=by rw[rp];simp
theorem NO:decide (V.str i=V.str j)=(i==j):=by rw[rp];simp
theorem NR:decide (V.zJ i=V.zJ j)=(i.toList==j.toList):=by rw[rp];cases i;cases j;simp
theorem AL(I:Inv X aa σ H s)(q:Q (.v k) H)(e:k=k'):EP X aa σ Q (.bool k') s:=by subst e;exact⟨.v k,H,I,rfl,q⟩
theorem W4:OpR X (compareOp .Eq) rEq:=by
 intro aa s σ H x y v u Q I rx ry h;obtain⟨hs,q⟩:=h;cases x with
 |l =>cases rx;cases y with|l=>cases ry;exact PySem.EqNone.eq_none_none (AL I q (by simp))|v j=>cases ry;exact PySem.EqNone.eq_none_bool (AL I q (by simp))|int j=>obtain⟨t',rfl⟩:=ry;exact PySem.EqNone.eq_none_int (AL I q (by simp))|str j=>obtain⟨t',rfl⟩:=ry;exact PySem.EqNone.eq_none_str (AL I q (by simp))|_=>exact absurd (show false=true from hs) qN
 |v i =>cases rx;cases y with|l=>cases ry;exact PySem.EqNone.eq_bool_none (AL I q (by simp))|v j=>cases ry;exact eq_bool (AL I q RU)|str j=>obtain⟨t',rfl⟩:=ry;exact PySem.EqMixed.eq_bool_str (AL I q (by simp))|_=>exact absurd (show false=true from hs) qN
 |int i =>obtain⟨t,rfl⟩:=rx;cases y with|l=>cases ry;exact PySem.EqNone.eq_int_none (AL I q (by simp))|int j=>obtain⟨t',rfl⟩:=ry;exact eq_int (AL I q NQ)|str j=>obtain⟨t',rfl⟩:=ry;exact PySem.EqMixed.eq_int_str (AL I q (by simp))|_=>exact absurd (show false=true from hs) qN
 |str i =>obtain⟨t,rfl⟩:=rx;cases y with|l=>cases ry;exact PySem.EqNone.eq_str_none (AL I q (by simp))|v j=>cases ry;exact PySem.EqMixed.eq_str_bool (AL I q (by simp))|int j=>obtain⟨t',rfl⟩:=ry;exact PySem.EqMixed.eq_str_int (AL I q (by simp))|str j=>obtain⟨t',rfl⟩:=ry;exact eq_str (AL I q NO)|_=>exact absurd (show false=true from hs) qN
 |zJ i =>obtain⟨t,rfl⟩:=rx;cases y with|zJ j=>obtain⟨t',rfl⟩:=ry;exact PySem.W.eq_bytes (AL I q NR)|_=>exact absurd (show false=true from hs) qN
 |_=>cases y<;>exact absurd (show false=true from hs) qN
theorem JaP:OpR X (compareOp .NotEq) rNe:=by
 intro aa s σ H x y v u Q I rx ry h;obtain⟨hs,q⟩:=h;cases x with
 |l =>cases rx;cases y with|l=>cases ry;exact PySem.EqNone.ne_none_none (AL I q (by simp))|v j=>cases ry;exact PySem.EqNone.ne_none_bool (AL I q (by simp))|int j=>obtain⟨t',rfl⟩:=ry;exact PySem.EqNone.ne_none_int (AL I q (by simp))|str j=>obtain⟨t',rfl⟩:=ry;exact PySem.EqNone.ne_none_str (AL I q (by simp))|_=>exact absurd (show false=true from hs) qN
 |v i =>cases rx;cases y with|l=>cases ry;exact PySem.EqNone.ne_bool_none (AL I q (by simp))|v j=>cases ry;exact ne_bool (AL I q (congrArg not RU))|str j=>obtain⟨t',rfl⟩:=ry;exact PySem.EqMixed.ne_bool_str (AL I q (by simp))|_=>exact absurd (show false=true from hs) qN
 |int i =>obtain⟨t,rfl⟩:=rx;cases y with|l=>cases ry;exact PySem.EqNone.ne_int_none (AL I q (by simp))|int j=>obtain⟨t',rfl⟩:=ry;exact ne_int (AL I q (congrArg not NQ))|str j=>obtain⟨t',rfl⟩:=ry;exact PySem.EqMixed.ne_int_str (AL I q (by simp))|_=>exact absurd (show false=true from hs) qN
 |str i =>obtain⟨t,rfl⟩:=rx;cases y with|l=>cases ry;exact PySem.EqNone.ne_str_none (AL I q (by simp))|v j=>cases ry;exact PySem.EqMixed.ne_str_bool (AL I q (by simp))|int j=>obtain⟨t',rfl⟩:=ry;exact PySem.EqMixed.ne_str_int (AL I q (by simp))|str j=>obtain⟨t',rfl⟩:=ry;exact ne_str (AL I q (congrArg not NO))|_=>exact absurd (show false=true from hs) qN
 |zJ i =>obtain⟨t,rfl⟩:=rx;cases y with|zJ j=>obtain⟨t',rfl⟩:=ry;exact PySem.W.ne_bytes (AL I q (congrArg not NR))|_=>exact absurd (show false=true from hs) qN
 |_=>cases y<;>exact absurd (show false=true from hs) qN
theorem W0:OpR X (compareOp .Lt) (rI0 λi j=>.v (decide (i<j))):=JaQ λ_ _ _ _ _ _ _ q=>lt_int q
theorem Ti:OpR X (compareOp .LtE) (rI0 λi j=>.v (decide (i<=j))):=JaQ λ_ _ _ _ _ _ _ q=>le_int q
theorem W3:OpR X (compareOp .Gt) (rI0 λi j=>.v (decide (j<i))):=JaQ λ_ _ _ _ _ _ _ q=>gt_int q
theorem HV:OpR X (compareOp .In) (λx y H Q=>∃i j,x=.str i/\y=.str j/\Q (.v (!(Builtin.Str.occurrences j i 0 j.length 1).isEmpty)) H):=by intro aa s σ H x y v u Q I rx ry h;obtain⟨i,j,rfl,rfl,q⟩:=h;obtain⟨t,rfl⟩:=rx;obtain⟨t',rfl⟩:=ry;exact in_str (AL I q rfl)
theorem Rk:OpR X (compareOp .Is) (λx y H Q=>y=.l/\Q (.v (decide (x=.l))) H):=by
 intro aa s σ H x y v u Q I rx ry h;obtain⟨rfl,q⟩:=h;cases ry;refine is_none_gen (AL I q ?_);cases x<;>first
  |(cases rx;rfl)
  |(obtain⟨t,rfl⟩:=rx;rfl)
theorem Te:OpR X (compareOp .IsNot) (λx y H Q=>y=.l/\Q (.v (!decide (x=.l))) H):=by
 intro aa s σ H x y v u Q I rx ry h;obtain⟨rfl,q⟩:=h;cases ry;refine isnot_none_gen (AL I q ?_);cases x<;>first
  |(cases rx;rfl)
  |(obtain⟨t,rfl⟩:=rx;rfl)
theorem CY(b:Expr)(h:op≠.In:=by decide)(h2:op≠.NotIn:=by decide):behindInMarks op b=false:=by
 have e1:(op==CmpOp.In)=false:=by cases op<;>first|rfl|exact absurd rfl h
 have e2:(op==CmpOp.NotIn)=false:=by cases op<;>first|rfl|exact absurd rfl h2
 cases b<;>simp[behindInMarks,e1,e2]
theorem Tc(ho:OpR X (compareOp op) r)(ha:PE X a ta)(hb:PE X b tb)(hm:behindInMarks op b=false):PE X (.Compare a [op] [b] pos) (tOp r ta tb):=by intro aa s σ H Q I h;exact wpAny_Compare1 (JbM ha hb I h λv u s2 x y H2 I2 rx ry q=>ho aa s2 σ H2 x y v u Q I2 rx ry q) hm
def Sr(t:TE):TT:=λσ H Q=>t σ H λx H'=>∃k,x=.v k/\Q k H'
theorem SR(ho:OpR X (compareOp op) r)(ha:PE X a ta)(hb:PE X b tb)(hm:behindInMarks op b=false):PT X (.Compare a [op] [b] pos) (Sr (tOp r ta tb)):=by intro aa s σ H Q I h;refine wpAny_isTrue_Compare1 (thn (ha aa s σ H _ I h) λv s1 ⟨x,H1,I1,r1,q1⟩=>thn (hb aa s1 σ H1 _ I1 q1) λu s2 ⟨y,H2,I2,r2,q2⟩ =>thn (ho aa s2 σ H2 x y v u _ I2 r1 r2 q2) λc s3 ⟨z,H3,I3,r3,k,e,q3⟩=>?_) hm;subst e;cases r3;exact wpAny_truthy_bool ⟨H3,I3,q3⟩
def Mc(r r':R2)(ta tb tc:TE):TE:=λσ H Q=>ta σ H λx H1=>tb σ H1 λy H2=>r x y H2 λz H3=>∃k,z=.v k /\
 (if k=true then tc σ H3 λw' H4=>r' y w' H4 Q else Q (.v false) H3)
theorem OY(ho:OpR X (compareOp op) r)(bE:OpR X (compareOp op') r')(ha:PE X a ta)(hb:PE X b tb)(hc:PE X c tc)
  (hm:lastMarks [op,op'] [b,c]=false:=by with_unfolding_all rfl):PT X (.Compare a [op,op'] [b,c] pos) (Sr (Mc r r' ta tb tc)):=by
 intro aa s σ H Q I h;refine isTrue_chain (thn (ha aa s σ H _ I h) λv s1 ⟨x,H1,I1,r1,q1⟩=>test_link (thn (hb aa s1 σ H1 _ I1 q1) λu s2 ⟨y,H2,I2,r2,q2⟩ =>thn (ho aa s2 σ H2 x y v u _ I2 r1 r2 q2) λd s3 ⟨z,H3,I3,r3,k,e,q3⟩=>?_)) hm;subst e;cases r3;refine wpAny_truthy_bool ?_;cases k with|false =>obtain⟨k',e',q'⟩:=q3;cases e';exact ite_ff ⟨H3,I3,q'⟩|true =>refine ite_tt (test_last (thn (hc aa s3 σ H3 _ I3 q3) λw' s4 ⟨z',H4,I4,r4,q4⟩=>thn (bE aa s4 σ H4 y z' u w' _ I4 r2 r4 q4) λd' s5 ao=>?_));obtain⟨z2,H5,I5,r5,k2,e2,q5⟩:= ao;subst e2;cases r5;exact wpAny_truthy_bool ⟨H5,I5,q5⟩
def JbR(K:Fg)(x:V)(H:Hp)(k:Bool):Prop :=
 match x with|.l=>k=false|.v b=>k=b|.int i=>k=(i !=0)|.str y=>y.length<=sizeLine/\k=((y.length:Int)!=0)|.zJ y=>y.size<=sizeLine/\k=((y.size:Int)!=0)|.ref p=>(∃xs,SqL K H p xs/\k=!xs.isEmpty)\/(∃xs,SqT K H p xs/\k=!xs.isEmpty)\/∃ag,H p=some (.o ag)/\k=!ag.isEmpty|_=>False
theorem Lu(r:KV ag vs):(!vs.isEmpty)=!ag.isEmpty:=by cases r<;>rfl
theorem Gq(r:Vals xs aq):(!aq.toArray.isEmpty)=!xs.isEmpty:=by cases r<;>simp
theorem Gp:(sizeLine:Nat)<2^63:=by rw[sizeLine_eq];decide
theorem VW:TruR X (λx H Q=>∃k,JbR X.K x H k/\Q k H):=by
 intro aa s σ H x v Q I rx h;obtain⟨k,e,q⟩:=h;have hs:=sizeLine_eq;cases x with
 |l =>cases rx;have e':=e;subst e';exact truthy_none ⟨H,I,q⟩
 |v b =>cases rx;have e':k=b:=e;subst e';exact wpAny_truthy_bool ⟨H,I,q⟩
 |int i =>obtain⟨t,rfl⟩:=rx;have e':=e;subst e';exact PySem.P.truthy_int ⟨H,I,q⟩
 |str y =>obtain⟨t,rfl⟩:=rx;obtain⟨hy,e'⟩:y.length<=sizeLine/\k=((y.length:Int)!=0):=e;subst e';exact PySem.P.truthy_str (by lia) ⟨H,I.tok _,q⟩
 |zJ y =>obtain⟨t,rfl⟩:=rx;obtain⟨hy,e'⟩:y.size<=sizeLine/\k=((y.size:Int)!=0):=e;subst e';exact PySem.W.truthy_bytes (by lia) ⟨H,I.tok _,q⟩
 |ref p =>
  cases rx;have e':=e;rcases e' with⟨xs,hx,e'⟩|⟨xs,hx,e'⟩|⟨ag,hx,e'⟩
  .subst e';obtain⟨aq,r,pl,hz⟩:=I.list hx;have hlen:=r.length;exact wpAny_truthy_list pl.isList (by simp only[qD];lia) ⟨H,I.tok _,by rwa[Gq r]⟩
  .subst e';obtain⟨aq,r,pl,hz⟩:=I.tuple hx;have hlen:=r.length;exact truthy_tuple pl (by simp only[qD];lia) ⟨H,I.tok _,by rwa[Gq r]⟩
  .subst e';obtain⟨hz,hS,vs,r,m⟩:ag.length<=sizeLine/\(p==sysModules)=false/\∃vs,KV ag vs/\s.heap.DictOf (AV X.prog X.w) p vs:=I.z9 p _ hx;have hlen:=Paired.length r;exact wpAny_truthy_dict hS m (by lia) ⟨H,I.tok _,by rwa[Lu r]⟩
 |_=>exact(show False from e).elim
theorem OX(ha:PE X a ta)(he:∀bq,isTrue a X.env bq=(do let v <- bq;standAt a.pos;holding [v] (truthy v))):
  PT X a (λσ H Q=>ta σ H λx H'=>∃k,JbR X.K x H' k/\Q k H'):=by
 intro aa s σ H Q I h;exact isTrue_plain (thn (ha aa s σ H _ I h) λv s1 ⟨x,H1,I1,r1,q1⟩=>VW aa s1 σ H1 x v Q I1 r1 q1) (he _)
theorem Ll:OpR X (binaryOp .Add) (λx y H Q=>∃i j,x=.str i/\y=.str j/\i.length+j.length<=sizeLine/\Q (.str (i++j)) H):=by intro aa s σ H x y v u Q I rx ry h;obtain⟨i,j,rfl,rfl,hz,q⟩:=h;obtain⟨t,rfl⟩:=rx;obtain⟨t',rfl⟩:=ry;exact add_str (λt' tk=>⟨.str (i++j),H,I.tok _,⟨_,rfl⟩,q⟩) hz
theorem vals1{x}(r:Vals [x] us):∃u,us=[u]/\RelV x u:=by cases r with|cons r1 r2=>cases r2;exact⟨_,rfl,r1⟩
theorem NX:B6 X (.type "int") (λxs H Q=>(∃i,xs=[.int i]/\Q (.int i) H)\/∃k,xs=[.v k]/\Q (.int (if k then 1 else 0)) H):=by
 intro aa s σ H xs us Q I r h;rcases h with⟨i,rfl,q⟩|⟨k,rfl,q⟩
 .obtain⟨u,rfl,t,rfl⟩:=vals1 r;exact call_int_int ⟨.int i,H,I,⟨_,rfl⟩,q⟩
 .obtain⟨u,rfl,r1⟩:=vals1 r;cases r1;exact call_int_bool ⟨.int (if k then 1 else 0),H,I.tok _,⟨_,rfl⟩,q⟩
structure Vj(h:Heap)(x dx C:Addr)(mA:Str->Option Value):Prop where
 obj:h.get? x=some (instObj C dx)
 ns:h.Ns1 dx mA
 ne:dx≠x
meta theorem MO(n:h.Ns1 dx mA):∃od,h.get? dx=some od/\∀name,lookIn name od=some (mA name):=by
 obtain⟨o,es,ep,ho,hd,hk,_,hm⟩:=n;refine⟨o,ho,λname=>?_⟩;have e:=hm name;unfold nsFind findBy at e;rw[<- Array.find?_toList]at e;unfold lookIn;rw[hd];dsimp only;split
 next y q=>rw[q]at e;exact congrArg some e
 .rename_i q;rw[q]at e;have a:es.toList.any (·.refKey)=false:=by rw[List.any_eq_false];intro y hy;obtain⟨z,t,jW⟩:=hk y (Array.mem_toList_iff.mp hy);simp[DictEntry.refKey,jW]
  have a':¬es.toList.any (·.refKey)=true:=by rw[a];exact qN
  rw[if_neg a'];exact congrArg some e
theorem Vj.look(I:Vj h x dx C mA):∃od,PySem.W.InstAt h x (instObj C dx) C (some od)/\∀name,lookIn name od=some (mA name) :=
 let⟨od,ho,hl⟩:=MO I.ns
 ⟨od,⟨I.obj,rfl,rfl,ho⟩,hl⟩
variable{prog:Program}{A:Around}{K:Fg}{dx C f:Addr}{mA:Str->Option Value}{name:Str}{v:Value}
theorem get_map(X:K.In s.heap)(I:Vj s.heap x dx C mA)(hg:plainGet K C name=true)(hh:hasDictIn K C=true)
  (ha:findIn K (.ref C) name=some none) (hv:mA name=some v) (oB:handedIn v=true) (h:Q v {s with toks:=s.toks+1}) :
  wpAny (model prog w) A (getAttr (.ref x) name expr) Q E s:=by
 obtain⟨od,J,hl⟩:=I.look;exact PySem.W.get_value X J (plainGet_of hg).1 (PySem.W.findObj_own hh ha rfl (by rw[hl,hv])) oB h
theorem P8(X:K.In s.heap)(I:Vj s.heap x dx C mA)(hg:plainGet K C name=true)
  (hf:findIn K (.ref C) name=some (some (.ref f))) (ht:isFn K (.ref f)=true) (hv:mA name=none) (h:Q (.ref f,[.ref x]) s) :
  wpAny (model prog w) A (getMethod (.ref x) name pl) Q E s:=by
 obtain⟨od,J,hl⟩:=I.look;exact PySem.W.method_fn X J (plainGet_of hg).1 (plainGet_of hg).2 hf (beq_iff_eq.mp ht) (by show(lookIn name od).map (·.isSome)=some false;rw[hl,hv];rfl) h
theorem SD(X:K.In s.heap)(I:Vj s.heap x dx C mA)
  (hs:findIn K (.ref C) "__setattr__"=some (some (.builtin "object.__setattr__"))) (hp:plainOver K C=true) (ht:takerIn K C name=some none) (hh:hasDictIn K C=true)
  (hw:PySem.Within mA ns) (hsz:ns.length<=sizeLine)
  (h:∀h',Vj h' x dx C (λy=>if y=name then some v else mA y)->Heap.SameBut dx s.heap h'->Q () {s with heap:=h',toks:=s.toks+2}) :
  wpAny (model prog w) A (setAttr (.ref x) name v) Q E s:=by
 obtain⟨od,J,hl⟩:=I.look;refine PySem.W.set_plain X J hs (PySem.W.osa_open X J hp ht λb=>?_);obtain⟨cd,hc,fq⟩:=PySem.W.any_some hh;have hx:=I.obj;refine p9 (qg (p9 (p9 (wpAny_loadPart hx (p9 (PySem.W.Looks.here (PySem.W.looks_clsIn X hc) ?_))))));rw[fq];refine qg (p9 (qg (p9 ?_)));refine wpAny_nsSet1 I.ns λh' eX ba=>?_
 obtain⟨oD,pH,pG,og,nN,nI⟩:=eX.count (PySem.Within.cons name v hw);refine p9 (wpAny_lookBehind og (by rw[nN];exact pastItsLine_dict (qF nI (by rw[qL];lia))) ?_);exact qg (h _ ⟨(ba.2 _ (Ne.symm I.ne)).trans I.obj,eX,I.ne⟩ ba)
theorem Kh(X:K.In s.heap)(hm:makesIn K C=true)
  (hi:findIn K (.ref C) "__init__"=some (some (.ref f))) (hf:PySem.W.typeIn K (.ref f)=some (.type "function"))
  (h:codeAny (model prog w) (A.under (.builtin "type.__call__" ⟨.ref C::vs,kw⟩)) (.call (.ref f) ⟨.ref (s.heap.objs.size+1)::vs,kw⟩) (PySem.W.InitBack (s.heap.objs.size+1) R)
   {s with heap:=(s.heap.push emptyDict).push (instObj C s.heap.objs.size)}) :
  codeAny (model prog w) A (.call (.ref C) ⟨vs,kw⟩) R s:=by
 exact PySem.W.make_core (PySem.W.makes_of X hm) (PySem.W.looks_findIn X hi) (λself=>PySem.W.bind_fn X self hf) (.inl rfl) h
def EJ(f:Str)(v:V):List (Str×V)->List (Str×V)
 | []=>[(f,v)]
 |(g,x)::r=>if g=f then(g,v)::r else(g,x)::EJ f v r
theorem Fb(f g:Str)(v:V):∀fs:List (Str×V),(EJ f v fs).lookup g=if g=f then some v else fs.lookup g
 | []=>by
  show List.lookup g [(f,v)]=_;by_cases h:g=f
  .have hb:=beq_iff_eq.mpr h;simp only[List.lookup,hb,if_pos h]
  .have hb:=beq_eq_false_iff_ne.mpr h;simp only[List.lookup,hb,if_neg h]
 |(k,x)::r=>by
  have ih:=Fb f g v r;rw[show EJ f v ((k,x)::r)=(if k=f then(k,v)::r else(k,x)::EJ f v r)from rfl];by_cases hk:k=f
  .rw[if_pos hk];by_cases h:g=k
   .have hb:=beq_iff_eq.mpr h;simp only[List.lookup,hb,if_pos (h.trans hk)]
   .have hb:=beq_eq_false_iff_ne.mpr h;simp only[List.lookup,hb,if_neg (λe:g=f=>h (e.trans hk.symm))]
  .rw[if_neg hk];by_cases h:g=k
   .have hb:=beq_iff_eq.mpr h;simp only[List.lookup,hb,if_neg (λe:g=f=>hk (h.symm.trans e))]
   .have hb:=beq_eq_false_iff_ne.mpr h;simp only[List.lookup,hb];exact ih
theorem Fe(f:Str)(v:V):∀fs:List (Str×V),f∈(EJ f v fs).map (·.1)/\∀g,g∈fs.map (·.1)->g∈(EJ f v fs).map (·.1)
 | []=>⟨by simp[EJ],λg h=>by simp at h⟩
 |(k,x)::r=>by
  obtain⟨i1,i2⟩:=Fe f v r;rw[show EJ f v ((k,x)::r)=(if k=f then(k,v)::r else(k,x)::EJ f v r)from rfl];by_cases hk:k=f
  .rw[if_pos hk];subst hk;exact⟨by simp,λg h=>by simpa using h⟩
  .rw[if_neg hk];refine⟨?_,λg h=>?_⟩
   .rw[qi];exact qf _ i1
   .rw[qi]at h ⊢;rcases qA.mp h with e|e
    .exact qA.mpr (.inl e)
    .exact qf _ (i2 g e)
theorem Fc(f:Str)(v:V):∀fs:List (Str×V),(EJ f v fs).length<=fs.length+1
 | []=>by simp[EJ]
 |(k,x)::r=>by
  have ih:=Fc f v r;rw[show EJ f v ((k,x)::r)=(if k=f then(k,v)::r else(k,x)::EJ f v r)from rfl];by_cases hk:k=f
  .rw[if_pos hk,qL,qL];lia
  .rw[if_neg hk,qL,qL];lia
theorem AN.some_of{v}{o}(r:AN (some v) o):∃u,o=some u/\RelV v u:=by cases o with|none=>exact(show False from r).elim|some u=>exact⟨u,rfl,r⟩
theorem AN.none_of{o}(r:AN none o):o=none:=by cases o with|none=>rfl|some u=>exact(show False from r).elim
theorem Nb{u}{v}(r:RelV v u):handedIn u=true:=by cases v with|l=>cases(show u=Value.none from r);rfl|v b=>cases(show u=Value.bool b from r);rfl|int i=>obtain⟨t,e⟩:=(show ∃t,u=Value.int i t from r);cases e;rfl|str x=>obtain⟨t,e⟩:=(show ∃t,u=Value.str x t from r);cases e;rfl|zJ b=>obtain⟨t,e⟩:=(show ∃t,u=Value.bytes b t from r);cases e;rfl|yP b=>obtain⟨t,e⟩:=(show ∃t,u=Value.float b t from r);cases e;rfl|ref a=>cases(show u=Value.ref a from r);rfl|ty n=>cases(show u=Value.type n from r);rfl
variable{a:Addr}{fs ar:List (Str×V)}
theorem JA(z9:HOk P w H h)(e:H a=some (.ins C dx fs)):∃mA,Vj h a dx C mA/\(∀f,AN (fs.lookup f) (mA f))/\PySem.Within mA (fs.map (·.1))/\fs.length<=1000/\H dx=some (.own a):=by
 obtain⟨d,z,ne,ob,mA,n,r,q⟩:=(show A7 P w H h a (.ins C dx fs)from z9 a _ e)
 exact⟨mA,⟨ob,n,ne⟩,r,q,z,d⟩
structure Cls(K:Fg)(C:Addr):Prop where
 pg:plainGet K C Str.empty=true
 hd:hasDictIn K C=true
 po:plainOver K C=true
 sa:findIn K (.ref C) "__setattr__"=some (some (.builtin "object.__setattr__"))
theorem Cls.get(c:Cls K C)(f:Str):plainGet K C f=true:=c.pg
def A8(K:Fg)(C:Addr)(f:Str):Prop:=findIn K (.ref C) f=some none
theorem A8.Jai{f}(n:A8 K C f):takerIn K C f=some none:=by unfold takerIn;rw[show findIn K (.ref C) f=some none from n];rfl
structure Meth(K:Fg)(C:Addr)(m:Str)(f:Addr):Prop where
 at_:findIn K (.ref C) m=some (some (.ref f))
 fn:isFn K (.ref f)=true
 kp:keepIn K (.ref f)=true
variable{f:Str}{v:V}
theorem Ly{b}(I:Inv X aa σ H s)(e:H a=some (.ins C dx fs))(c:Cls X.K C)(n:A8 X.K C f)(l:fs.lookup f=some v)
  (h:∀u s',Inv X aa σ H s'->RelV v u->Q u s'):wpAny (model X.prog X.w) A (getAttr (.ref a) f b) Q E s:=by
 obtain⟨mA,O,r,_,_,_⟩:=JA I.z9 e;obtain⟨u,hu,ru⟩:=AN.some_of (by rw[<- l];exact r f);exact get_map I.kIn O (c.get f) c.hd n hu (Nb ru) (h u _ (I.tok _) ru)
theorem Gr(I:Inv X aa σ H s)(e:H a=some (.ins C dx fs))(c:Cls X.K C)(k:Meth X.K C m g)(l:fs.lookup m=none)
  (h:Q (.ref g,[.ref a]) s):wpAny (model X.prog X.w) A (getMethod (.ref a) m pl) Q E s:=by
 obtain⟨mA,O,r,_,_,_⟩:=JA I.z9 e;have hn:=AN.none_of (by rw[<- l];exact r m);exact P8 I.kIn O (c.get m) k.at_ k.fn hn h
theorem La{u}(I:Inv X aa σ H s)(e:H a=some (.ins C dx fs))(c:Cls X.K C)(n:A8 X.K C f)(hl:fs.length<1000)(ry:RelV y u)
  (h:∀s',Inv X aa σ (upd H a (.ins C dx (EJ f y fs))) s'->Q () s'):wpAny (model X.prog X.w) A (setAttr (.ref a) f u) Q E s:=by
 obtain⟨mA,O,r,wi,_,ho⟩:=JA I.z9 e;have hz:(fs.map (·.1)).length<=sizeLine:=by rw[qe,sizeLine_eq];lia
 refine SD I.kIn O c.sa c.po n.Jai c.hd wi hz λh' O' sb=>h _ ?_
 have hd:∃o,h'.get? dx=some o:=let⟨o,_,_,e',_⟩:=O'.ns;⟨o,e'⟩;refine I.write (by rw[e];exact True.intro) (.inr ho) (λb q hb z=>(sb.2 b hb).trans z) hd ?_;refine⟨by rw[Aj O.ne];exact ho,?_,O.ne,O'.obj,_,O'.ns,λg=>?_,λg hg=>?_⟩
 .have:=Fc f y fs;lia
 .show AN ((EJ f y fs).lookup g) (if g=f then some u else mA g);rw[Fb];by_cases q:g=f
  .rwa[if_pos q,if_pos q]
  .rw[if_neg q,if_neg q];exact r g
 .by_cases q:g=f
  .rw[q];exact(Fe f y fs).1
  .refine(Fe f y fs).2 g (wi g λz=>hg ?_);show(if g=f then some u else mA g)=none;rwa[if_neg q]
theorem Inv.made(I:Inv X aa σ H s):Inv X aa σ (upd (upd H s.heap.objs.size (.own (s.heap.objs.size+1))) (s.heap.objs.size+1) (.ins C s.heap.objs.size []))
  {s with heap:=(s.heap.push emptyDict).push (instObj C s.heap.objs.size)}:=by
 have e1:(s.heap.push emptyDict).get? s.heap.objs.size=some emptyDict:=qo s.heap rfl;have e2:((s.heap.push emptyDict).push (instObj C s.heap.objs.size)).get? (s.heap.objs.size+1)=some (instObj C s.heap.objs.size):=by have:=qo (s.heap.push emptyDict) (o:=instObj C s.heap.objs.size) rfl;rwa[rG]at this
 have e3:(s.heap.push emptyDict).Ns s.heap.objs.size (λ_=>none):=⟨emptyDict,#[],_,e1,rfl,(λe he=>absurd he (by simp)),λ_=>rfl⟩
 have I1:=I.laid (a:=s.heap.objs.size) (o:=.own (s.heap.objs.size+1)) (h':=s.heap.push emptyDict) (t':=s.toks) (λb u q=>qa _ q) (qz _) ⟨_,e1⟩;refine I1.laid (a:=s.heap.objs.size+1) (o:=.ins C s.heap.objs.size []) (t':=s.toks) (λb u q=>qa _ q) (Nat.le_of_eq (rG _ _)) ?_;have ne:s.heap.objs.size≠s.heap.objs.size+1:=qI (tf _);refine⟨by rw[Aj ne,Am],sM _,ne,e2,λ_=>none,(Heap.Ns1.of_empty e3).at λo q=>qa _ q,λ_=>True.intro,λy hy=>absurd rfl hy⟩
theorem Vg(hb:attributeBase e f env (eval e env)=eval e env)
  (h:wpAny (model prog w) A (eval e env) (λo aB=>wpAny (model prog w) A (getAttr o f true) Q E aB) E s):wpAny (model prog w) A (eval (.Attribute e f pos) env) Q E s :=
 Attribute_any_ h (by rw[arm_eval_Attribute,hb])
inductive FldP(K:Fg)(f:Str)(Q:VK)(x:V)(H1:Hp):Prop
 |mk (a C dx fs v:_) (h0:x=.ref a) (h1:H1 a=some (.ins C dx fs)) (h2:Cls K C) (h3:A8 K C f) (h4:fs.lookup f=some v) (h5:Q v H1)
def JbV(K:Fg)(ta:TE)(f:Str):TE:=λσ H Q=>ta σ H (FldP K f Q)
def JbX(K:Fg)(ta tv:TE)(f:Str):TS:=λD σ H=>tv σ H λy H1=>ta σ H1 λx H2=>∃a C dx fs,x=.ref a/\H2 a=some (.ins C dx fs)/\Cls K C/\A8 K C f/\fs.length<1000 /\
 D.nx σ (upd H2 a (.ins C dx (EJ f y fs)))
variable{o value:Expr}{aR bV:Pos}{tv:TE}
theorem J8(he:PE X e ta)(hb:attributeBase e f X.env (eval e X.env)=eval e X.env):PE X (.Attribute e f pos) (JbV X.K ta f):=by intro aa s σ H Q I h;refine Vg hb (thn (he aa s σ H _ I h) λu s1 ao=>?_);obtain⟨x,H1,I1,rx,a,C,dx,fs,v,ex,ea,c,n,l,q⟩:= ao;subst ex;obtain rfl:u=Value.ref a:=rx;exact Ly I1 ea c n l λu' s2 I2 ru=>⟨v,H1,I2,ru,q⟩
theorem Wy(ha:PE X o ta)(hv:PE X value tv)(hs:swapsWith value (some (.Attribute o f aR)) pos.line X.env=pure false):PS X (.Assign [.Attribute o f aR] value pos) (JbX X.K ta tv f):=by intro aa s σ H D I h;refine plainObj_wpAny_Assign_Attribute (thn (hv aa s σ H _ I h) λu s1 ⟨y,H1,I1,ry,q⟩=>thn (ha aa s1 σ H1 _ I1 q) λov s2 ao=>?_) hs;obtain⟨x,H2,I2,rx,a,C,dx,fs,ex,ea,c,n,l,q2⟩:= ao;subst ex;obtain rfl:ov=Value.ref a:=rx;exact La I2 ea c n l ry λs3 I3=>⟨σ,_,I3,q2⟩
variable{Q:Value->Shared->Prop}{c:Value}{b:Bool}
structure CL(k:Nat)(A:Around):Prop where
 hd:A.handled=none
 dp:A.depth+3*k+5<recursionLimit
 un:A.units+16*k+200<cLine
theorem CL.mono(r:CL k A)(h:j<=k):CL j A:=⟨r.hd,by have:=r.dp;lia,by have:=r.un;lia⟩
theorem CL.deeper(r:CL (k+1) A)(env:Env):CL k (A.deeper env) :=
 ⟨r.hd,by have:=r.dp;show A.depth+1+3*k+5<_;lia,by have:=r.un;show A.units+3+16*k+200<_;lia⟩
theorem Lr{us:List Value}{kw:List (Str×Value)}:(A.under (.builtin "type.__call__" ⟨.ref C::us,kw⟩)).depth=A.depth+1:=by first|rfl|simp[guardIds]
theorem Lq{us:List Value}{kw:List (Str×Value)}:(A.under (.builtin "type.__call__" ⟨.ref C::us,kw⟩)).units=A.units+1:=by first|rfl|simp[Code.isFrame]
theorem CL.make(r:CL (k+1) A)(C:Addr)(us:List Value)(kw:List (Str×Value)):CL k (A.under (.builtin "type.__call__" ⟨.ref C::us,kw⟩)) :=
 ⟨r.hd,by have:=r.dp;rw[Lr];lia,by have:=r.un;rw[Lq];lia⟩
theorem CL.depth(r:CL k A):A.depth<recursionLimit:=by have:=r.dp;lia
theorem CL.units(r:CL k A):A.units+64<cLine:=by have:=r.un;lia
def Ze:TA:=λ_ H Q=>Q [] H
def Jap(ta:TE)(tr:TA):TA:=λσ H Q=>ta σ H λx H1=>tr σ H1 λxs H2=>Q (x::xs) H2
variable{es:List Expr}{t:TA}
theorem Gm:PA X [] Ze:=λ_ _ _ _ H Q I h=>Calls.spliced_nil ⟨[],H,I,.nil,h⟩
theorem Cy(ha:PE X e te)(hr:PA X es t)(hs:starEach (e::es) X.env=(false,eval e X.env)::starEach es X.env:=by rfl):PA X (e::es) (Jap te t):=by
 intro pos aa s σ H Q I h;rw[hs];refine Calls.spliced_cons (thn (ha aa s σ H _ I h) λu s1 ao=>?_);obtain⟨x,H1,I1,r1,q1⟩:= ao;refine thn (hr pos aa s1 σ H1 _ I1 q1) λus s2 ao => ?_
 obtain⟨xs,H2,I2,r2,q2⟩:= ao;exact⟨x::xs,H2,I2,.cons r1 r2,q2⟩
def tTup(t:TA):TE:=λσ H Q=>t σ H λxs H1=>xs.length<=sizeLine/\∀p,H1 p=none->Q (.ref p) (upd H1 p (.tup xs))
def tLst(t:TA):TE:=λσ H Q=>t σ H λxs H1=>xs.length<=sizeLine/\∀p,H1 p=none->Q (.ref p) (upd H1 p (.lst xs))
theorem WH(h:PA X es t):PE X (.Tuple es x1 pos) (tTup t):=by intro aa s σ H Q I hq;refine wpAny_Tuple_spliced (thn (h pos aa s σ H _ I hq) λus s1 ⟨xs,H1,I1,r,z,q⟩=>⟨by rw[<- r.length];exact z,?_⟩);have hf:=I1.z9.fresh (qz _);refine⟨.ref s1.heap.objs.size,upd H1 s1.heap.objs.size (.tup xs),I1.laid (λb u e=>qa _ e) (qz _) ?_,rfl,q _ hf⟩;exact⟨z,us,r,⟨_,qo _ rfl,rfl,_,rfl,rfl⟩⟩
theorem Ri(h:PA X es t):PE X (.List es pos) (tLst t):=by intro aa s σ H Q I hq;refine wpAny_List_spliced (thn (h pos aa s σ H _ I hq) λus s1 ⟨xs,H1,I1,r,z,q⟩=>⟨by rw[<- r.length];exact z,?_⟩);have hf:=I1.z9.fresh (qz _);refine⟨.ref s1.heap.objs.size,upd H1 s1.heap.objs.size (.lst xs),I1.laid (λb u e=>qa _ e) (qz _) ?_,rfl,q _ hf⟩;exact⟨z,us,0,r,qo _ rfl⟩
abbrev Sp:=List V->Hp->VK->XK->Prop
abbrev CXT:=List Env->Hp->Shared->XK->Value->Shared->Prop
structure Vl(P:Program)(w:World)(K:Fg)(mg:Str->Option Value)(base:Heap)(A:Around)(outer:List Env)(s:Shared)(H:Hp):Prop where
 frames:A.frames=some outer
 mod:Mod K mg base
 bs:∀b o,base.get? b=some o->s.heap.get? b=some o/\H b=none
 zw:base.objs.size<=s.heap.objs.size
 Kr:s.heap.FunFrames base outer
 zg:∀b∈frs outer,H b=none
 z9:HOk P w H s.heap
 bare:AllBare s.gens
inductive CE(outer:List Env)(P:Program)(w:World)(H:Hp)(s:Shared)(Q:VK)(u:Value)(s':Shared):Prop
 |mk (v:V) (H':Hp) (h0:s'.os=s.os) (h1:AllBare s'.gens) (h2:Un (frs outer) [] H H' s.heap s'.heap) (h3:HOk P w H' s'.heap) (h4:RelV v u) (h5:Q v H')
def CR(CX:CXT)(outer:List Env)(P:Program)(w:World)(H:Hp)(s:Shared)(Q:VK)(E:XK)(r:Result)(s':Shared):Prop :=
 match r with|.ok (.ret u)=>CE outer P w H s Q u s'|.ok _=>False|.error e=>CX outer H s E e s'
structure D4(P:Program)(w:World)(K:Fg)(mg:Str->Option Value)(base:Heap)(CX:CXT)(k:Nat)(f:Addr)(fd:FuncData)(ps:List Str)(sp:Sp):Prop where
 len:∀vs H Q E,sp vs H Q E->vs.length=ps.length
 run:∀(A:Around)(outer:List Env)(s:Shared)(H:Hp)(args:Args)(us:List Value)(vs:List V)(Q:VK)(E:XK),CL k A->Vl P w K mg base A outer s H->BindsTo s fd args (ps.zip us)->Vals vs us->sp vs H Q E ->
  codeAny (model P w) A (.call (.ref f) args) (CR CX outer P w H s Q E) s
theorem D4.imp{mg:Str->Option Value}{base:Heap}{CX:CXT}{k:Nat}{f:Addr}{fd:FuncData}{ps:List Str}{sp mE:Sp}(F:D4 P w K mg base CX k f fd ps sp)
  (h:∀vs H Q E,mE vs H Q E->sp vs H Q E):D4 P w K mg base CX k f fd ps mE :=
 ⟨λvs H Q E q=>F.len vs H Q E (h _ _ _ _ q),λA outer s H args us vs Q E hr he hb hv hs=>F.run A outer s H args us vs Q E hr he hb hv (h _ _ _ _ hs)⟩
theorem Vl.make{mg:Str->Option Value}{base:Heap}{outer:List Env}(e:Vl P w K mg base A outer s H)(C:Addr)(us:List Value)(kw:List (Str×Value)):
  Vl P w K mg base (A.under (.builtin "type.__call__" ⟨.ref C::us,kw⟩)) outer s H:=⟨by first|exact e.frames|(simpa[pushEnvs]using e.frames),e.mod,e.bs,e.zw,e.Kr,e.zg,e.z9,e.bare⟩
variable{s':Shared}
theorem Inv.Zl(I:Inv X aa σ H s):Vl X.prog X.w X.K X.mg X.base X.A X.stack s H :=
 ⟨I.ok.frames,I.ok.mod,I.bs,qF I.ok.zw I.sz,I.stack,I.Je,I.z9,I.bare⟩
theorem Inv.after{Q}{u}(I:Inv X aa σ H s)(h:CE X.stack X.prog X.w H s Q u s'):EP X aa σ Q u s':=by obtain⟨v,H',os,bare,un,z9,r,q⟩:=h;obtain⟨hh,g,d,t,dy⟩:=s';obtain rfl:dy=s.os:=os;exact⟨v,H',I.call un z9 bare (λb z=>absurd z (by simp)),r,q⟩
def Su(C:Addr)(m:Str)(sp:Sp)(bK:List V)(E:XK)(ta:TE)(t:TA):TE:=λσ H Q=>ta σ H λx H1=>∃a dx fs,x=.ref a/\H1 a=some (.ins C dx fs)/\fs.lookup m=none /\
 t σ H1 λvs H2=>sp (x::(vs++bK)) H2 Q E
def V0(C:Addr)(sp:Sp)(bK:List V)(E:XK)(t:TA):TE:=λσ H Q=>t σ H λvs H1=>∀x dx,H1 x=none->H1 dx=none->dx≠x ->
 sp (.ref x::(vs++bK)) (upd (upd H1 dx (.own x)) x (.ins C dx [])) (λv H2=>v=.l/\Q (.ref x) H2) E
def Binds(K:Fg)(fd:FuncData)(ps:List Str)(ds:List Value):Prop :=
 ∀(s:Shared)(us:List Value),K.In s.heap->(us++ds).length=ps.length->BindsTo s fd ⟨us,[]⟩ (ps.zip (us++ds))
theorem Binds.all{fd:FuncData}{ps:List Str}(h:∀us:List Value,us.length=ps.length->bindArgs fd ⟨us,[]⟩=pure (ps.zip us)):Binds K fd ps []:=λs us _ hl=>by rw[qS]at hl ⊢;exact .of_eq (h us hl)
def Passes(CX:CXT)(X:Cx)(E:XK):Prop:=∀(aa:List (Addr×Obj))(σ:St)(H:Hp)(s:Shared)(e:Value)(s':Shared),Inv X aa σ H s->CX X.stack H s E e s'->X.xe e s'
variable{CX:CXT}{k:Nat}{f:Addr}{fd:FuncData}{ps:List Str}{sp:Sp}{bK:List V}{ds:List Value}{E:XK}{x m:Str}{p aD:Pos}
theorem Wc{Q}(F:D4 X.prog X.w X.K X.mg X.base CX k f fd ps sp)(hr:CL k X.A)(hb:Binds X.K fd ps ds)(hd:Vals bK ds)(hx:Passes CX X E)
  (I:Inv X aa σ H s) (r:Vals vs us) (h:sp (vs++bK) H Q E):wpAny (model X.prog X.w) X.A (call (.ref f) us) (EP X aa σ Q) X.xe s:=by
 have r2:=r.append hd;have hl:(us++ds).length=ps.length:=by rw[<- r2.length];exact F.len _ _ _ _ h
 refine wpAny_call (codeAny_mono (F.run X.A X.stack s H ⟨us,[]⟩ (us++ds) (vs++bK) Q E hr I.Zl (hb s us I.kIn hl) r2 h) λr s' hq=>?_);cases r with|error e=>exact hx aa σ H s e s' I hq|ok fl =>cases fl with|ret u=>exact I.after hq|next=>exact False.elim hq|brk=>exact False.elim hq|cont=>exact False.elim hq
theorem Pd(he:PE X o ta)(c:Cls X.K C)(hm:Meth X.K C m f)(F:D4 X.prog X.w X.K X.mg X.base CX k f fd ps sp)(hr:CL k X.A)(hb:Binds X.K fd ps ds)(hd:Vals bK ds)(hx:Passes CX X E)
  (ht:eval (.Call (.Attribute o m aD) [] [] pos) X.env=(do
   let ov <- eval o X.env
   standAt aD.atName
   let(f,first) <- holding [ov] (getMethod ov m pl)
   callWith pos f first (backTo pos (starEach [] X.env)) (backToKw pos (keywordEach [] X.env))):=by rfl) :
  PE X (.Call (.Attribute o m aD) [] [] pos) (Su C m sp bK E ta Ze):=by
 intro aa s σ H Q I h;refine methodCall_KW (thn (he aa s σ H _ I h) λu s1 ao=>?_) ht;obtain⟨x,H1,I1,rx,a,dx,fs,ex,ea,l,q⟩:= ao;subst ex;obtain rfl:u=Value.ref a:=rx;refine Gr I1 ea c hm l ?_;exact PySem.W.callWith_K0 I1.kIn hm.kp (Wc (vs:=[.ref a]) F hr hb hd hx I1 (.cons rfl .nil) q)
structure Mk(K:Fg)(C f:Addr):Prop where
 makes:makesIn K C=true
 init:findIn K (.ref C) "__init__"=some (some (.ref f))
 fn:isFn K (.ref f)=true
 kp:keepIn K (.ref C)=true
theorem OP{Q}(M:Mk X.K C f)(F:D4 X.prog X.w X.K X.mg X.base CX k f fd ps sp)(hr:CL (k+1) X.A)(hb:Binds X.K fd ps ds)(hd:Vals bK ds)
  (hx:Passes CX X E) (I:Inv X aa σ H s) (r:Vals vs us)
  (h:∀x dx,H x=none->H dx=none->dx≠x->sp (.ref x::(vs++bK)) (upd (upd H dx (.own x)) x (.ins C dx [])) (λv H2=>v=.l/\Q (.ref x) H2) E) :
  wpAny (model X.prog X.w) X.A (call (.ref C) us) (EP X aa σ Q) X.xe s:=by
 have hq:=h (s.heap.objs.size+1) s.heap.objs.size (I.z9.fresh (Nat.le_succ _)) (I.z9.fresh (qz _)) (qI (tf _));have I2:=Inv.made (C:=C) I;have r2:Vals (V.ref (s.heap.objs.size+1)::(vs++bK)) (Value.ref (s.heap.objs.size+1)::(us++ds)):=.cons rfl (r.append hd);have hl:=by have e:=r2.length;rw[F.len _ _ _ _ hq]at e;exact e.symm
 refine wpAny_call (Kh I.kIn M.makes M.init (beq_iff_eq.mp M.fn) (codeAny_mono (F.run _ X.stack _ _ ⟨Value.ref (s.heap.objs.size+1)::us,[]⟩ (Value.ref (s.heap.objs.size+1)::(us++ds)) _ _ E (hr.make C us [])
  (I2.Zl.make C us []) (hb _ (Value.ref (s.heap.objs.size+1)::us) I2.kIn hl) r2 hq) λr s' eM=>?_))
 cases r with|error e=>exact hx aa σ _ _ e s' I2 eM|ok fl =>cases fl with|ret u =>obtain⟨v,H',I3,rv,ev,q3⟩:=I2.after eM;subst ev;exact⟨rv,⟨V.ref (s.heap.objs.size+1),H',I3,rfl,q3⟩⟩|next=>exact False.elim eM|brk=>exact False.elim eM|cont=>exact False.elim eM
theorem S8(M:Mk X.K C f)(F:D4 X.prog X.w X.K X.mg X.base CX k f fd ps sp)(hr:CL (k+1) X.A)(hg:Gl X x)(hm:X.mg x=some (.ref C))(hb:Binds X.K fd ps ds)(hd:Vals bK ds)(hx:Passes CX X E)
  (ha:PA X (e::es) t) (aS:(x==("__debug__":Str))=false:=by decide) (he:starEach (e::es) X.env=(false,eval e X.env)::starEach es X.env:=by rfl) (aG:(backTo pos (starEach es X.env)).any (·.1)=false:=by rfl) :
  PE X (.Call (.Name x p) (e::es) [] pos) (V0 C sp bK E t):=by
 intro aa s σ H Q I h;refine wpAny_Call_Name_kw (Dx I hg hm ?_ aS);refine callWith_K I.ok.mod.y1 M.kp (thn (ha pos aa s σ H _ I h) λus s1 ⟨vs,H1,I1,r,q⟩=>⟨I1.kIn,?_⟩) he aG;exact OP M F hr hb hd hx I1 r q
variable{ks:List Str}{oH:Pos}{pR:List Keyword}{tk:TA}{nm:Option Str}
variable{g:List Value->List Value->List Value}{gV:List V->List V->List V}
structure Hr(N P:List Str)(sc:Scope):Prop where
 kind:sc.kind=.function
 co:sc.isCoroutine=false
 gen:sc.isGenerator=false
 nd:N.Nodup
 pre:N.take P.length=P
 par:∀x∈P,sc.names.lookup x=some .local\/sc.names.lookup x=some .cell
 yO:∀y∈sc.names,y.2≠.free
theorem IL{kindOf:Str->Option NameKind}:∀{binds:List (Str×Value)}{m:Str->Option Value},(∀v,(x,v)∉binds)->bindL kindOf binds m x=m x
 | [],_,_=>rfl
 |(n,v)::r,m,h=>by
  unfold bindL;rw[IL λw hw=>h w (qf _ hw)];split
  .have:x≠n:=by rintro rfl;exact h v qB
   simp[this]
  .rfl
theorem IP{kindOf:Str->Option NameKind}:∀{binds:List (Str×Value)}{m:Str->Option Value},(∀v,(x,v)∉binds)->bindC kindOf binds m x=m x
 | [],_,_=>rfl
 |(n,v)::r,m,h=>by
  unfold bindC;rw[IP λw hw=>h w (qf _ hw)];split
  .rfl
  .have:x≠n:=by rintro rfl;exact h v qB
   simp[this]
theorem IM{kindOf:Str->Option NameKind}{v:Value}:∀{P:List Str}{vs:List Value}{i:Nat}{m:Str->Option Value},P.Nodup->P[i]?=some x->vs[i]?=some v->kindOf x=some .local ->
  bindL kindOf (P.zip vs) m x=some v
 | [],_,_,_,_,h,_,_=>by simp at h
 |_::_,[],_,_,_,_,h,_=>by simp at h
 |p::P,w::vs,0,m,nd,h1,h2,hk=>by simp at h1 h2;subst h1;subst h2;show bindL kindOf ((p,w)::P.zip vs) m p=_;unfold bindL;rw[IL λv hv=>(qR.mp nd).1 (rJ hv).1,if_pos hk];simp
 |p::P,w::vs,i+1,m,nd,h1,h2,hk=>by unfold bindL;exact IM (i:=i) (qR.mp nd).2 (by simpa using h1) (by simpa using h2) hk
theorem IQ{kindOf:Str->Option NameKind}{v:Value}:∀{P:List Str}{vs:List Value}{i:Nat}{m:Str->Option Value},P.Nodup->P[i]?=some x->vs[i]?=some v->kindOf x≠some .local ->
  bindC kindOf (P.zip vs) m x=some v
 | [],_,_,_,_,h,_,_=>by simp at h
 |_::_,[],_,_,_,_,h,_=>by simp at h
 |p::P,w::vs,0,m,nd,h1,h2,hk=>by simp at h1 h2;subst h1;subst h2;show bindC kindOf ((p,w)::P.zip vs) m p=_;unfold bindC;rw[IP λv hv=>(qR.mp nd).1 (rJ hv).1,if_neg hk];simp
 |p::P,w::vs,i+1,m,nd,h1,h2,hk=>by unfold bindC;exact IQ (i:=i) (qR.mp nd).2 (by simpa using h1) (by simpa using h2) hk
def start(N:List Str)(vs:List V):St:=vs.map some++List.replicate (N.length-vs.length) none
def LB(CX:CXT)(P:Program)(w:World)(K:Fg)(mg:Str->Option Value)(base:Heap)(N:List Str)(qual:Str)(scope:Scope)(f:Addr)(cd:Value)(A:Around)(outer:List Env)(s:Shared)(H:Hp)(E:XK):Cx where
 prog:=P
 w:=w
 K:=K
 mg:=mg
 base:=base
 A:=A.deeper (envOfC qual scope s.heap.objs.size f cd)
 N:=N
 z6:=s
 zo:=H
 env:=envOfC qual scope s.heap.objs.size f cd
 outer:=outer
 stack:=envOfC qual scope s.heap.objs.size f cd::outer
 ex:=[]
 calm:=true
 fn:=λ_=>true
 pn:=[]
 xe:=λe s'=>wpAny (model P w) (A.deeper (envOfC qual scope s.heap.objs.size f cd)) (leaving (envOfC qual scope s.heap.objs.size f cd) e) (λ_ kC=>CX outer H s E e kC) (λe' kC=>CX outer H s E e' kC) s'
theorem KI{sc:Scope}{n:Nat}(h:sc.names.lookup x=some .cell):∃c,(cellsFrom n sc.names []).lookup x=some c:=by have q:=PySem.W.cellsFrom_some sc.names n [] (.inl h);exact sE.mp q
theorem MZ{mg:Str->Option Value}{base:Heap}{N:List Str}{qual:Str}{scope:Scope}{cd:Value}{outer:List Env}{s1:Shared}{us:List Value}{vs:List V}
  (S:Hr N ps scope) (hd:A.handled=none) (e0:Vl P w K mg base A outer s H) (hl:vs.length=ps.length) (r:Vals vs us)
  (x:InCallC s s.heap.objs.size (bindL (envOfC qual scope s.heap.objs.size f cd).kindOf (ps.zip us) λ_=>none) (cellsFrom (s.heap.objs.size+1) scope.names []) (bindC (envOfC qual scope s.heap.objs.size f cd).kindOf (ps.zip us) λ_=>none) s1) :
  Inv (LB CX P w K mg base N qual scope f cd A outer s H E) [] (start N vs) H s1:=by
 have aG:ps.length<=N.length:=by have:=congrArg List.length S.pre;rw[qY]at this;lia
 obtain⟨h1,tk,rfl,hk⟩:=x.done;have iN:∀b:Addr,b∉(LB CX P w K mg base N qual scope f cd A outer s H E).ex:=λb z=>absurd (show b∈([]:List Addr)from z) (by simp)
 refine⟨⟨e0.mod,S.kind,rfl,rfl,qz _,λy z c h1 h2=>?_,λy hy=>?_,λy c _ h=>?_,λ_=>hd,Around.frames_deeper e0.frames,.inr ⟨rfl,rfl⟩,λb z=>absurd z (iN b),e0.bs,e0.zw,λb _ _=>iN b,λb z=>absurd z (iN b),e0.Kr,e0.zg⟩,
  rfl,e0.bare,Un.kept hk,⟨_,x.toInCall.ns,λi y v h1 h2 h3=>?_⟩,λy c h=>⟨_,x.cell y c h⟩,e0.z9.fresh (qz _),λy c h=>?_,λp hp=>absurd (show p∈([]:List (Addr×Obj))from hp) (by simp),e0.z9.kept hk,?_⟩
 .exact name_of_addr x.apart (PySem.mem_of_lookup h1) (PySem.mem_of_lookup h2)
 .have hy:scope.names.lookup y=some .cell\/scope.names.lookup y=some .free:=hy;rcases hy with hy|hy
  .exact KI hy
  .exact absurd rfl (S.yO _ (PySem.mem_of_lookup hy))
 .exact sS (x.above y c (PySem.mem_of_lookup h))
 .have hi:i<vs.length:=by
   unfold start at h2;by_cases hi:i<vs.length
   .exact hi
   .rw[rK (by simpa using hi)]at h2;rw[List.getElem?_replicate]at h2;split at h2<;>cases (h2)
  have ha:vs[i]?=some v:=by unfold start at h2;rw[sk (by simpa using hi),qH]at h2;cases e:vs[i]? with|none=>rw[e]at h2;cases (h2)|some a=>rw[e]at h2;cases (h2);rfl
  obtain⟨u,hu,rv⟩:=r.get ha;have hp:ps[i]?=some y:=by rwa[<- S.pre,sX (by lia)]
  have me:ps.Nodup:=by rw[<- S.pre];exact S.nd.sublist (sV _ _)
  refine⟨u,rv,?_⟩;rcases S.par y (qV hp)with k|k
  .exact .inl ⟨k,IM me hp hu k⟩
  .obtain⟨c,e⟩:=KI (n:=s.heap.objs.size+1) k;refine .inr ⟨.inl k,c,e,?_⟩;have q:=x.cell y c e;rwa[IQ me hp hu (by show scope.names.lookup y≠_;rw[k];decide)]at q
 .exact e0.z9.fresh (sS (x.above y c (PySem.mem_of_lookup h)))
 .unfold start;show _=N.length;rw[qv,qe,List.length_replicate]
  lia
variable{T:String}{r:List V->Hp->VK->Prop}
section
variable{id:String}
def tCB(r:List V->Hp->VK->Prop)(t:TA):TE:=λσ H Q=>t σ H λvs H1=>r vs H1 Q
theorem GN(hc:B6 X (.builtin id) r)(hg:Gl X x)(hm:X.mg x=none)(hv:bootBuiltins x=some (.builtin id))(ha:PA X (e::es) t)(hn:x≠"__name__":=by decide)(aS:(x==("__debug__":Str))=false:=by decide)
  (he:starEach (e::es) X.env=(false,eval e X.env)::starEach es X.env:=by rfl) (aG:(backTo pos (starEach es X.env)).any (·.1)=false:=by rfl):PE X (.Call (.Name x p) (e::es) [] pos) (tCB r t):=by
 intro aa s σ H Q I h;refine wpAny_Call_Name_kw (Dp I hg hm hv ?_ hn aS);exact PyProof.Rows.callWith_builtin1 (thn (ha pos aa s σ H _ I h) λus s1 ⟨vs,H1,I1,r1,q1⟩=>hc aa s1 σ H1 vs us Q I1 r1 q1) he aG
theorem MC(hc:B6 X (.type T) r)(hg:Gl X x)(hm:X.mg x=none)(hv:bootBuiltins x=some (.type T))(ha:PA X (e::es) t)(hn:x≠"__name__":=by decide)(aS:(x==("__debug__":Str))=false:=by decide)
  (he:starEach (e::es) X.env=(false,eval e X.env)::starEach es X.env:=by rfl) (aG:(backTo pos (starEach es X.env)).any (·.1)=false:=by rfl):PE X (.Call (.Name x p) (e::es) [] pos) (tCB r t):=by
 intro aa s σ H Q I h;refine wpAny_Call_Name_kw (Dp I hg hm hv ?_ hn aS);exact callWith_type1 (thn (ha pos aa s σ H _ I h) λus s1 ⟨vs,H1,I1,r1,q1⟩=>hc aa s1 σ H1 vs us Q I1 r1 q1) he aG
end
end Lake.L2
namespace HT
open PySem PyProof.Rows
section
open PySem.SeqAt
open PySem.AutoSeq1 (wpAny_loadPart')
open PySem.MeetsSeq PySem.MeetsSeq2 PySem.MeetsSeq3
end
variable{prog:Program}{w:World}{A:Around}{E:Value->Shared->Prop}{s:Shared}
theorem Vb(ht:IsTup s.heap t vs.toArray)(hb:IsTup s.heap b ws.toArray)(hv:vs≠[])
  (h1:ws=[]->Q (.ref t) s) (h2:ws≠[]->Q (.ref s.heap.objs.size) {s with heap:=s.heap.push {cls:=.type "tuple",data:=.seq (vs++ws).toArray} })
  (hsz:vs.length+ws.length<=sizeLine):wpAny (model prog w) A (binaryOp .Add (.ref t) (.ref b)) Q E s:=by
 obtain⟨⟨cls,dd,data,sl⟩,ho,hc,n,hd⟩:=id ht;obtain⟨⟨jD,i6,data2,jA⟩,gz,cz,n2,hd2⟩:=id hb;subst hc hd cz hd2;have e:vs.toArray++ws.toArray=(vs++ws).toArray:=by simp
 by_cases hw:ws=[]
 .exact concat_meets ⟨_,ho,rfl⟩ ⟨_,gz,rfl⟩ noFill_tuple_add seq_tuple_add slot_tuple_add entry_tuple_add (args_tuple_add_2 _ _)
   (tuple_addW1 t b vs.toArray ws.toArray n n2 dd i6 sl jA (by simpa using hv) (by simp[hw])) ⟨ho,gz,h1 hw⟩
 .refine concat_meets ⟨_,ho,rfl⟩ ⟨_,gz,rfl⟩ noFill_tuple_add seq_tuple_add slot_tuple_add entry_tuple_add (args_tuple_add_2 _ _)
   (tuple_addW2 t b vs.toArray ws.toArray n n2 dd i6 sl jA (by simpa using hv) (by simpa using hw) (by rwa[qD,qD])) ⟨ho,gz,?_⟩
  rw[e];exact h2 hw
def sIx(n d:Nat):Option Int->Nat
 |none=>d
 |some v=>if v<0 then(v+(n:Int)).toNat else min v.toNat n
theorem Cu(n d k:Nat):sIx n d (some (k:Int))=min k n:=by show(if(k:Int)<0 then((k:Int)+(n:Int)).toNat else min (k:Int).toNat n)=min k n;rw[if_neg (by lia),rD]
theorem JbW(n d:Nat)(hd:d<=n)(o:Option Int):sIx n d o<=n:=by
 cases o with
 |none=>exact hd
 |some v =>
  show(if v<0 then(v+(n:Int)).toNat else min v.toNat n)<=n;by_cases hv:v<0
  .rw[if_pos hv];lia
  .rw[if_neg hv];exact Nat.min_le_right _ _
theorem NT(v:Int)(n d:Nat):(if v<0 then max (v+(n:Int)) 0 else min v (n:Int))=((sIx n d (some v):Nat):Int):=by
 show(if v<0 then max (v+(n:Int)) 0 else min v (n:Int))=(((if v<0 then(v+(n:Int)).toNat else min v.toNat n):Nat):Int);by_cases hv:v<0
 .simp only[if_pos hv];lia
 .simp only[if_neg hv];lia
theorem LJ(lo hi:Option Int)(n:Nat):Builtin.Slice.sliceAdjust lo hi 1 (n:Int)=(((sIx n 0 lo:Nat):Int),((sIx n n hi:Nat):Int)):=by
 have h1:¬((1:Int)<0):=by lia
 unfold Builtin.Slice.sliceAdjust;refine Prod.ext ?_ ?_
 .cases lo with|none=>rfl|some v=>exact NT v n 0
 .cases hi with|none=>rfl|some v=>exact NT v n n
theorem Lg(i j:Nat):Builtin.Slice.slicePlaces (i:Int) (j:Int) 1=j-i:=by unfold Builtin.Slice.slicePlaces;split<;>lia
theorem Gb(p:IsPart v o)(h:Q o s):wpAny (model prog w) A (Builtin.Slice.slicePartIndex v) Q E s:=by cases p with|none=>exact slicePart_none h|int i t=>exact slicePart_int h
theorem CN{sl:Addr}{vl vu:Value}{lo hi:Option Int}{n:Nat}{Q:Int×Int×Nat->Shared->Prop}(hs:s.heap.IsSliceOf sl vl vu .none)(pl:IsPart vl lo)(pu:IsPart vu hi)
  (h:Q (((sIx n 0 lo:Nat):Int),1,sIx n n hi-sIx n 0 lo) s):wpAny (model prog w) A (Builtin.Slice.sliceApplied (.ref sl) (pure (n:Int))) Q E s:=by
 obtain⟨os,eJ,gL,h8⟩:=id hs;refine p9 (p9 (qJ eJ h8 (x:=vl) rfl (p9 (qJ eJ h8 (x:=vu) rfl (p9 (qJ eJ h8 (x:=.none) rfl (qg ?_)))))));refine p9 (slicePart_none ?_);refine p9 (Gb pl (p9 (Gb pu (p9 (qg ?_)))));show wpAny _ _ (match Builtin.Slice.sliceAdjust lo hi 1 (n:Int)with|(lo,hi)=>pure (lo,(1:Int),Builtin.Slice.slicePlaces lo hi 1)) _ _ s;rw[LJ lo hi n];show wpAny _ _ (pure (((sIx n 0 lo:Nat):Int),(1:Int),Builtin.Slice.slicePlaces ((sIx n 0 lo:Nat):Int) ((sIx n n hi:Nat):Int) 1)) _ _ s;rw[Lg];exact qg h
theorem Pa(xs:Array Value)(i k:Nat):((List.range k).filterMap λ(m:Nat)=>xs[((i:Int)+(m:Int)*1).toNat]?).toArray=((xs.toList.drop i).take k).toArray:=by
 have e:(λ(m:Nat)=>xs[((i:Int)+(m:Int)*1).toNat]?)=λm=>xs[i+m]?:=by
  funext m;have:((i:Int)+(m:Int)*1).toNat=i+m:=by lia
  rw[this]
 rw[e];have:=pick_run xs i k;rw[List.filterMap_map]at this;have e2:((λx=>xs[x]?)∘λx=>i+x)=λm=>xs[i+m]?:=rfl
 rw[e2]at this;rw[this]
theorem Ee{t sl:Addr}{items:Array Value}{vl vu:Value}{lo hi:Option Int}{Q:Value->Shared->Prop}(ht:IsTup s.heap t items)(hs:s.heap.IsSliceOf sl vl vu .none)(pl:IsPart vl lo)(pu:IsPart vu hi)
  (hw:¬(sIx items.size 0 lo=0/\sIx items.size items.size hi=items.size))
  (h:Q (.ref s.heap.objs.size) {s with heap:=s.heap.push {cls:=.type "tuple",data:=.seq ((items.toList.drop (sIx items.size 0 lo)).take (sIx items.size items.size hi-sIx items.size 0 lo)).toArray} })
  (hsz:items.size<=sizeLine):wpAny (model prog w) A (getItem (.ref t) (.ref sl)) Q E s:=by
 have dw:sizeOk (.seq ((items.toList.drop (sIx items.size 0 lo)).take (sIx items.size items.size hi-sIx items.size 0 lo)).toArray):=by
  show((items.toList.drop (sIx items.size 0 lo)).take (sIx items.size items.size hi-sIx items.size 0 lo)).toArray.size<=sizeLine;rw[qD,qY,rV,rT]
  lia
 obtain⟨os,eJ,gL,h8⟩:=id hs;have nE:s.TypeIs (.ref sl) "slice":=⟨os,eJ,gL⟩
 unfold getItem
 try with_reducible refine wpAny_holding ?_
 first|refine p9 (qg ?_)|skip
 refine p9 (wpAny_sequenceKey ht.typeIs (by decide) ?_);refine p9 (wpAny_callSpecial?_slot (name:=Str.ofString "__getitem__") ht.typeIs slot_tuple_getitem
  (wpAny_call_entry slot_tuple_getitem ht.typeIs entry_tuple_getitem ?_ (args_tuple_getitem _ _)))
 show wpAny _ _ (Builtin.Tuple.tupleItemsOf (.ref t) >>= _) _ _ s;refine p9 (tupleItemsOf_ ht ?_);refine p9 (wpAny_typeOf nE ?_);refine p9 (CN hs pl pu ?_);have j4:¬((((sIx items.size 0 lo:Nat):Int)==0&&(1:Int)==1&&(sIx items.size items.size hi-sIx items.size 0 lo)==items.size)=true):=by intro q;rw[qE,qE]at q;have q1:((sIx items.size 0 lo:Nat):Int)=0:=eq_of_beq q.1.1;have q2:sIx items.size items.size hi-sIx items.size 0 lo=items.size:=eq_of_beq q.2;exact hw ⟨by lia,by lia⟩
 show wpAny _ _ (if(((sIx items.size 0 lo:Nat):Int)==0&&(1:Int)==1&&(sIx items.size items.size hi-sIx items.size 0 lo)==items.size)=true then _ else _) _ _ s;rw[if_neg j4,Pa]
 first
  |exact p9 (m:=Builtin.Tuple.tupleExact _) (wpAny_newObj_type (qg ⟨_,rfl,qg h⟩) dw)
  |exact p9 (m:=Builtin.Tuple.tupleExact _) (wpAny_newObj_type (p9 (qg (qg ⟨_,rfl,qg h⟩))) dw)
  |exact p9 (p9 (m:=Builtin.Tuple.tupleExact _) (wpAny_newObj_type (qg (qg ⟨_,rfl,qg h⟩)) dw))
  |exact p9 (p9 (m:=Builtin.Tuple.tupleExact _) (wpAny_newObj_type (qg ⟨_,rfl,qg h⟩) dw))
end HT
namespace Lake.L2
open PySem PySem.Spec PyProof.Rows
abbrev TO:=St->Hp->(Option Int->Hp->Prop)->Prop
def PO(X:Cx)(e:Option Expr)(t:TO):Prop :=
 ∀(aa:List (Addr×Obj))(s:Shared)(σ:St)(H:Hp)(Q:Option Int->Hp->Prop),Inv X aa σ H s->t σ H Q ->
  wpAny (model X.prog X.w) X.A (evalPart e X.env) (λu s'=>∃o H',Inv X aa σ H' s'/\IsPart u o/\Q o H') X.xe s
def Ss:TO:=λ_ H Q=>Q none H
def Jak(t:TE):TO:=λσ H Q=>t σ H λx H1=>∃i,x=.int i/\Q (some i) H1
theorem intsAre_of:∀{us:List Value},Vals (ns.map V.int) us->IntsAre us ns:=by induction ns with|nil=>intro us r;rw[sf]at r;cases r;exact .nil|cons n ns ih =>intro us r;cases r with|cons r1 r2 =>obtain⟨t,e⟩:=r1;subst e;exact .cons n t (ih r2)
variable{X:Cx}{e:Expr}{te:TE}{lo hi:Option Expr}{tl th:TO}{pos p2:Pos}
theorem S0:PO X none Ss:=by intro aa s σ H Q I h;exact qg ⟨none,H,I,.none,h⟩
theorem SY(h:PE X e te):PO X (some e) (Jak te):=by
 intro aa s σ H Q I hw;refine thn (h aa s σ H _ I hw) λu s1 ao=>?_
 obtain⟨x,H1,I1,r1,q1⟩:= ao;obtain⟨i,rfl,q⟩:=q1;obtain⟨t,rfl⟩:=r1;exact⟨some i,H1,I1,.int i t,q⟩
def SlR(X:Cx)(r:V->Option Int->Option Int->Hp->VK->Prop):Prop :=
 ∀(aa:List (Addr×Obj))(s:Shared)(σ:St)(H:Hp)(x:V)(v vl vu:Value)(lo hi:Option Int)(sl:Addr)(Q:VK),Inv X aa σ H s->RelV x v->s.heap.IsSliceOf sl vl vu .none->IsPart vl lo->IsPart vu hi->r x lo hi H Q ->
  ∃T id,typeLookup (.type T) "__getitem__"=pure (some (.builtin id))/\s.TypeIs v T/\wpAny (model X.prog X.w) X.A (getItem v (.ref sl)) (EP X aa σ Q) X.xe s
theorem SlR.or(h:SlR X r)(h':SlR X r'):SlR X (λx lo hi H Q=>r x lo hi H Q\/r' x lo hi H Q):=by
 intro aa s σ H x v vl vu lo hi sl Q I rx hs pl pu q;rcases q with q|q
 .exact h aa s σ H x v vl vu lo hi sl Q I rx hs pl pu q
 .exact h' aa s σ H x v vl vu lo hi sl Q I rx hs pl pu q
def tSl(r:V->Option Int->Option Int->Hp->VK->Prop)(te:TE)(tl th:TO):TE:=λσ H Q=>te σ H λx H1=>tl σ H1 λl H2=>th σ H2 λu H3=>r x l u H3 Q
theorem J7{r:V->Option Int->Option Int->Hp->VK->Prop}(hr:SlR X r)(he:PE X e te)(hl:PO X lo tl)(hu:PO X hi th):PE X (.Subscript e (.Slice lo hi none p2) pos) (tSl r te tl th):=by
 intro aa s σ H Q I h;refine Subscript_ (thn (he aa s σ H _ I h) λv s1 ao=>?_);obtain⟨x,H1,I1,r1,q1⟩:= ao;refine wpAny_Slice (thn (hl aa s1 σ H1 _ I1 q1) λvl s2 ⟨l,H2,I2,pl,q2⟩=>thn (hu aa s2 σ H2 _ I2 q2) λvu s3 ao=>?_);obtain⟨u,H3,I3,pu,q3⟩:= ao;refine qg ?_;have I4:Inv X aa σ H3 {s3 with heap:=s3.heap.push {cls:=.type "slice",data:=.fields #[vl,vu,.none]} }:=I3.kept (t':=s3.toks) λb ob q=>qa _ q
 obtain⟨T,id,hT,ht,hg⟩:=hr aa {s3 with heap:=s3.heap.push {cls:=.type "slice",data:=.fields #[vl,vu,.none]} } σ H3 x v vl vu l u s3.heap.objs.size Q I4 r1 (Heap.IsSliceOf.new ..) pl pu q3;exact tail_any (ops:=[.ref s3.heap.objs.size,v]) ht hT hg (by with_unfolding_all rfl)
def U4(xs:List V)(lo hi:Option Int):List V:=(xs.drop (HT.sIx xs.length 0 lo)).take (HT.sIx xs.length xs.length hi-HT.sIx xs.length 0 lo)
theorem Fs(xs:List V)(lo hi:Option Int):(U4 xs lo hi).length<=xs.length:=by
 unfold U4;rw[qY,rV]
 lia
def rSlT(K:Fg):V->Option Int->Option Int->Hp->VK->Prop:=λx lo hi H Q=>∃a xs,x=.ref a/\SqT K H a xs /\
 ¬(HT.sIx xs.length 0 lo=0/\HT.sIx xs.length xs.length hi=xs.length)/\∀p,H p=none->Q (.ref p) (upd H p (.tup (U4 xs lo hi)))
theorem V5:SlR X (rSlT X.K):=by
 intro aa s σ H x v vl vu lo hi sl Q I rx hs pl pu h;obtain⟨a,xs,rfl,hx,hw,q⟩:=h;cases rx;obtain⟨aq,r,ht,hz⟩:=I.tuple hx;have hlen:aq.toArray.size=xs.length:=by rw[qD];exact r.length.symm
 refine⟨"tuple",_,PyProof.Rows.slot_tuple_getitem.lookup,ht.typeIs,?_⟩;refine HT.Ee ht hs pl pu (by rwa[hlen]) ?_ (by rwa[hlen]);rw[hlen];refine⟨.ref s.heap.objs.size,_,I.laid (t':=s.toks) (o:=.tup (U4 xs lo hi)) (λb ob q=>qa _ q) (qz _) ?_,rfl,q _ (I.z9.fresh (qz _))⟩;exact⟨qF (Fs xs lo hi) hz,_,(r.drop (HT.sIx xs.length 0 lo)).take (HT.sIx xs.length xs.length hi-HT.sIx xs.length 0 lo),PlT.new _ _⟩
def Wi(K:Fg):R2:=λx y H Q=>∃a b xs ys,x=.ref a/\y=.ref b/\SqT K H a xs/\SqT K H b ys/\xs≠[]/\xs.length+ys.length<=sizeLine /\
 (ys=[]->Q (.ref a) H)/\(ys≠[]->∀p,H p=none->Q (.ref p) (upd H p (.tup (xs++ys))))
theorem Vals.Jp(r:Vals xs us):us=[]↔xs=[]:=by cases r with|nil=>simp|cons _ _=>simp
theorem To:OpR X (binaryOp .Add) (Wi X.K):=by intro aa s σ H x y v u Q I rx ry h;obtain⟨a,b,xs,ys,rfl,rfl,ha,hb,hx,hz,q1,q2⟩:=h;cases rx;cases ry;obtain⟨aq,r1,p1,_⟩:=I.tuple ha;obtain⟨aW,r2,p2,_⟩:=I.tuple hb;refine HT.Vb p1 p2 (λz=>hx (r1.Jp.mp z)) (λz=>⟨.ref a,H,I,rfl,q1 (r2.Jp.mp z)⟩) (λz=>?_) (by rwa[<- r1.length,<- r2.length]);refine⟨.ref s.heap.objs.size,_,I.laid (λb ob q=>qa _ q) (qz _) ?_,rfl,q2 (λw=>z (r2.Jp.mpr w)) _ (I.z9.fresh (qz _))⟩;exact⟨by rw[qv];exact hz,_,r1.append r2,PlT.new _ _⟩
def ixN(n:Nat)(i:Int):Option Nat:=if 0<=i then(if i<n then some i.toNat else none)else if -(n:Int)<=i then some (i+n).toNat else none
def atI{α:Type}(xs:List α)(i:Int):Option α:=(ixN xs.length i).bind λj=>xs[j]?
theorem MW(h:ixN n i=some j):seqIndex? i n=some j/\j<n/\-(n:Int)<=i/\i<n:=by
 unfold ixN at h;by_cases h0:0<=i
 .rw[if_pos h0]at h;by_cases h1:i<n
  .rw[if_pos h1]at h;have e:=Option.some.inj h;exact⟨by rw[seqIndex_of h0 h1,e],by lia,by lia,h1⟩
  .rw[if_neg h1]at h;cases h
 .rw[if_neg h0]at h;by_cases h1:-(n:Int)<=i
  .rw[if_pos h1]at h;have e:=Option.some.inj h;exact⟨by rw[seqIndex_neg (by lia) h1,e],by lia,h1,by lia⟩
  .rw[if_neg h1]at h;cases h
theorem JS(h:atI xs i=some v):∃j,seqIndex? i xs.length=some j/\xs[j]?=some v/\j<xs.length/\-(xs.length:Int)<=i/\i<xs.length:=by unfold atI at h;cases e:ixN xs.length i with|none=>rw[e]at h;cases h|some j =>rw[e]at h;obtain⟨h1,h2,h3,h4⟩:=MW e;exact⟨j,h1,h,h2,h3,h4⟩
theorem A6{α:Type}{xs:List α}{j:Nat}{v:α}(h:xs[j]?=some v):atI xs (j:Int)=some v:=by
 have hj:j<xs.length:=(ql.mp h).1;have e:ixN xs.length (j:Int)=some j:=by unfold ixN;rw[if_pos (by lia),if_pos (by lia)];simp
 unfold atI;rwa[e]
def JV(b:Expr):Prop:=∀o i,subscripted b false o i=operate [o,i] (getItem o i)
def IxR(X:Cx)(r:R2):Prop :=
 ∀(value slice:Expr)(aa:List (Addr×Obj))(s:Shared)(σ:St)(H:Hp)(x y:V)(v u:Value)(Q:VK),Inv X aa σ H s->RelV x v->RelV y u->r x y H Q ->
  subscripted slice false v u=operate [v,u] (getItem v u)->wpAny (model X.prog X.w) X.A (subscriptTail value slice v u) (EP X aa σ Q) X.xe s
def MtR(X:Cx)(id:String)(r:V->List V->Hp->VK->Prop):Prop :=
 ∀(aa:List (Addr×Obj))(s:Shared)(σ:St)(H:Hp)(x:V)(xs:List V)(v:Value)(us:List Value)(Q:VK),Inv X aa σ H s->RelV x v->Vals xs us->r x xs H Q ->
  wpAny (model X.prog X.w) X.A (call (.builtin id) (v::us)) (EP X aa σ Q) X.xe s
variable{a b:Expr}{ta tb:TE}
variable{o:Expr}{es:List Expr}{to:TE}{name:Str}{aD aE:Pos}{T:String}{r:V->List V->Hp->VK->Prop}
section
theorem IxR.or{r}(h:IxR X r)(h':IxR X r'):IxR X (λx y H Q=>r x y H Q\/r' x y H Q):=by
 intro value slice aa s σ H x y v u Q I rx ry q hs;rcases q with q|q
 .exact h value slice aa s σ H x y v u Q I rx ry q hs
 .exact h' value slice aa s σ H x y v u Q I rx ry q hs
theorem JaL{r}(hr:IxR X r)(ha:PE X a ta)(hb:PE X b tb)(hs:JV b):PE X (.Subscript a b pos) (tOp r ta tb):=by intro aa s σ H Q I h;exact Subscript_ (JbM ha hb I h λv u s2 x y H2 I2 rx ry q=>hr a b aa s2 σ H2 x y v u Q I2 rx ry q (hs _ _))
inductive Jb0(K:Fg)(x:V)(y:V)(H:Hp)(Q:VK):Prop
 |mk (p xs i v:_) (h0:x=.ref p) (h1:y=.int i) (h2:SqL K H p xs) (h3:atI xs i=some v) (h4:Q v H)
inductive JbY(K:Fg)(x:V)(y:V)(H:Hp)(Q:VK):Prop
 |mk (p xs i v:_) (h0:x=.ref p) (h1:y=.int i) (h2:SqT K H p xs) (h3:atI xs i=some v) (h4:Q v H)
inductive JbZ(x:V)(y:V)(H:Hp)(Q:VK):Prop
 |mk (z i c:_) (h0:x=.str z) (h1:y=.int i) (h2:z.length<=sizeLine) (h3:atI z.cps.toList i=some c) (h4:Q (.str ⟨#[c]⟩) H)
theorem T9:IxR X (Jb0 X.K):=by
 intro value slice aa s σ H x y v u Q I rx ry h hs;obtain⟨p,xs,i,z,rfl,rfl,hq,he,q⟩:=h;cases rx;obtain⟨t,rfl⟩:=ry;obtain⟨aq,r,pl,hz⟩:=I.list hq;obtain⟨j,h1,h2,h3,h4,h5⟩:=JS he;obtain⟨w,ew,cZ⟩:=r.get h2;have hl:=r.length;have hn:=Gp;have aT:EP X aa σ Q w s:=⟨z,H,I,cZ,q⟩
 by_cases h0:0<=i
 .have hj:i.toNat=j:=by rw[seqIndex_of h0 h5]at h1;exact Option.some.inj h1
  exact item_listR pl.isList h0 (by lia) (by rw[hj];simpa using ew) aT hs
 .have hj:(i+(aq.toArray.size:Int)).toNat=j:=by rw[seqIndex_neg (by lia) h4]at h1;rw[qD,<- hl];exact Option.some.inj h1
  exact subscriptTail_builtinR (x:=w) pl.isList.typeIs slot_list_getitem.lookup
   (wpAny_getItem_list_neg (Q:=λr s'=>r=w/\EP X aa σ Q r s') pl.isList (by lia) (by rw[qD]<;>lia) (by lia) (by rw[hj];simpa using ew) ⟨rfl,aT⟩) hs
theorem Xy:IxR X (JbY X.K):=by
 intro value slice aa s σ H x y v u Q I rx ry h hs;obtain⟨p,xs,i,z,rfl,rfl,hq,he,q⟩:=h;cases rx;obtain⟨t,rfl⟩:=ry;obtain⟨aq,r,pl,hz⟩:=I.tuple hq;obtain⟨j,h1,h2,h3,h4,h5⟩:=JS he;obtain⟨w,ew,cZ⟩:=r.get h2;have hl:=r.length;have hn:=Gp;have aT:EP X aa σ Q w s:=⟨z,H,I,cZ,q⟩
 exact subscriptTail_builtinR (x:=w) pl.typeIs slot_tuple_getitem.lookup
  (getItem_tuple (j:=j) (Q:=λr s'=>r=w/\EP X aa σ Q r s') pl (by lia) (by lia) (by rwa[qD,<- hl]) (by simpa using ew) ⟨rfl,aT⟩) hs
theorem Xz:IxR X JbZ:=by
 intro value slice aa s σ H x y v u Q I rx ry h hs;obtain⟨z,i,c,rfl,rfl,hz,he,q⟩:=h;obtain⟨t,rfl⟩:=rx;obtain⟨t',rfl⟩:=ry;obtain⟨j,h1,h2,h3,h4,h5⟩:=JS he;have hl:z.cps.toList.length=z.length:=by simp[Str.length]
 rw[hl]at h1 h4 h5;have hn:=Gp;exact tail_any (typeIs_str s z t) slot_str_getitem.lookup (getItem_str (c:=c) (by have e1:decide (i < -(2^63:Int))=false:=qK (by lia);have e2:decide (i>=2^63)=false:=qK (by lia);rw[e1,e2,Bool.or_false]) (by rw[h1];simpa using h2) ⟨.str ⟨#[c]⟩,H,I.tok _,⟨_,rfl⟩,q⟩) hs
def rIx(K:Fg):R2:=λx y H Q=>Jb0 K x y H Q\/JbY K x y H Q\/JbZ x y H Q
theorem XA:IxR X (rIx X.K):=T9.or (Xy.or Xz)
theorem Lo(aq:List Value)(n j:Nat)(u:Value):Obj.mapSeq (·.setIfInBounds j u) {cls:=.type "list",data:=.seq aq.toArray n}={cls:=.type "list",data:=.seq (aq.set j u).toArray n}:=by simp[Obj.mapSeq]
theorem Inv.lst(I:Inv X aa σ H s)(h:H p=some (.lst xs)):
  ∃(aq:List Value)(n:Nat),Vals xs aq/\s.heap.get? p=some {cls:=.type "list",data:=.seq aq.toArray n}/\xs.length<=sizeLine:=by
 obtain⟨z,aq,n,r,e⟩:=I.z9 p _ h;exact⟨aq,n,r,e,z⟩
theorem Inv.Xo{aa:List (Addr×Obj)}{σ:St}{H:Hp}{s:Shared}{p:Addr}{xs ys:List V}{aq bF:List Value}{n n':Nat}{f:Obj->Obj}(I:Inv X aa σ H s)(h:H p=some (.lst xs))
  (ho:s.heap.get? p=some {cls:=.type "list",data:=.seq aq.toArray n}) (hf:f {cls:=.type "list",data:=.seq aq.toArray n}={cls:=.type "list",data:=.seq bF.toArray n' }) (r:Vals ys bF) (hz:ys.length<=sizeLine) (t:Nat) :
  Inv X aa σ (upd H p (.lst ys)) {s with heap:=s.heap.update p f,toks:=t}:=by
 have e:(s.heap.update p f).get? p=some {cls:=.type "list",data:=.seq bF.toArray n' }:=by rw[rn f ho (by rw[hf]<;>rfl),hf]
 refine I.write (x:=p) (e:=p) (by rw[h];trivial) (.inl rfl) (λb u hb q=>(rj _ _ (Ne.symm hb)).trans q) ⟨_,e⟩ ?_;exact⟨hz,bF,n',r,e⟩
inductive SJ(o:V)(i:V)(v:V)(H:Hp)(Q:Hp->Prop):Prop
 |mk (p xs k j:_) (h0:o=.ref p) (h1:i=.int k) (h2:H p=some (.lst xs)) (h3:ixN xs.length k=some j) (h4:Q (upd H p (.lst (xs.set j v))))
theorem set_list:QT X SJ:=by
 intro aa s σ H o i v ov iv u Q I ro ri rv h;obtain⟨p,xs,k,j,rfl,rfl,hp,hj,q⟩:=h;cases ro;obtain⟨t,rfl⟩:=ri;obtain⟨aq,n,r,ho,hz⟩:=I.lst hp;obtain⟨h1,h2,h3,h4⟩:=MW hj;have hl:=r.length;have hn:=Gp;have I':Inv X aa σ (upd H p (.lst (xs.set j v))) {s with heap:=s.heap.update p (Obj.mapSeq (·.setIfInBounds j u))} :=
  I.Xo hp ho (Lo aq n j u) (r.set rv j) (by rwa[List.length_set]) s.toks
 by_cases h0:0<=k
 .have hk:k.toNat=j:=by rw[seqIndex_of h0 h4]at h1;exact Option.some.inj h1
  exact PySem.W.ki_setAt ho h0 (by lia) (by rwa[qD,<- hl]) (by rw[hk];exact⟨_,I',q⟩)
 .have hk:(k+(aq.toArray.size:Int)).toNat=j:=by rw[seqIndex_neg (by lia) h3]at h1;rw[qD,<- hl];exact Option.some.inj h1
  exact PySem.W.ki_setBack ho (by lia) (by rwa[qD,<- hl]) (by lia) (by rw[hk];exact⟨_,I',q⟩)
theorem HB(lo hi:Option Int)(n:Nat):(sliceBounds lo hi none n).1=((HT.sIx n 0 lo:Nat):Int)/\(sliceBounds lo hi none n).2.1=((HT.sIx n n hi:Nat):Int)/\(sliceBounds lo hi none n).2.2=1:=by
 refine⟨?_,?_,rfl⟩
 .cases lo with
  |none=>simp[sliceBounds,HT.sIx]
  |some i =>
   simp only[sliceBounds,HT.sIx,sm,if_true];by_cases h:i<0
   .simp only[h,if_true]<;>lia
   .simp only[h,if_false]<;>lia
 .cases hi with
  |none=>simp[sliceBounds,HT.sIx]
  |some i =>
   simp only[sliceBounds,HT.sIx,sm,if_true];by_cases h:i<0
   .simp only[h,if_true]<;>lia
   .simp only[h,if_false]<;>lia
theorem GH(aq:List Value)(lo hi:Option Int):slicePick aq.toArray lo hi none=((aq.drop (HT.sIx aq.length 0 lo)).take (HT.sIx aq.length aq.length hi-HT.sIx aq.length 0 lo)).toArray:=by obtain⟨h1,h2,h3⟩:=HB lo hi aq.toArray.size;unfold slicePick;rw[h1,h2,h3];simp only[sliceRange_one,pick_run]<;>rfl
inductive rSlL(K:Fg)(x:V)(lo:Option Int)(hi:Option Int)(H:Hp)(Q:VK):Prop
 |mk (a xs:_) (h0:x=.ref a) (h1:SqL K H a xs) (h2:∀p,H p=none->Q (.ref p) (upd H p (.lst (U4 xs lo hi))))
theorem SA:SlR X (rSlL X.K):=by intro aa s σ H x v vl vu lo hi sl Q I rx hs pl pu h;obtain⟨a,xs,rfl,hx,q⟩:=h;cases rx;obtain⟨aq,r,ht,hz⟩:=I.list hx;have hlen:=r.length;refine⟨"list",_,slot_list_getitem.lookup,ht.isList.typeIs,?_⟩;refine wpAny_getItem_list_slice ht.isList hs pl pu .none (by simp) ?_ (by rw[qD]<;>lia);rw[GH,<- hlen];refine⟨.ref s.heap.objs.size,_,I.laid (λb ob q=>qa _ q) (qz _) ?_,rfl,q _ (I.z9.fresh (qz _))⟩;exact⟨qF (Fs xs lo hi) hz,_,0,(r.drop (HT.sIx xs.length 0 lo)).take (HT.sIx xs.length xs.length hi-HT.sIx xs.length 0 lo),qo _ rfl⟩
def Eh:V->Bool
 |.l=>true
 |.v _=>true
 |.int _=>true
 |.str _=>true
 |_=>false
def eqV:V->V->Bool
 |.l,.l=>true
 |.v a,.v b=>a==b
 |.v a,.int b=>(if a then 1 else 0)==b
 |.int a,.v b=>a==(if b then 1 else 0)
 |.int a,.int b=>a==b
 |.str a,.str b=>a==b
 |_,_=>false
theorem RQ(ry:RelV y u)(rx:RelV x v)(fy:Eh y=true)(fx:Eh x=true):SeqAt.EqAt A s u v (eqV y x):=by
 cases y with
 |l =>cases ry;cases x with|l=>cases rx;exact SeqAt.EqAt.same _|v b=>cases rx;exact SeqAt.EqAt.none_bool b|int b=>obtain⟨t,rfl⟩:=rx;exact SeqAt.EqAt.none_int b t|str b=>obtain⟨t,rfl⟩:=rx;exact SeqAt.EqAt.none_str b t|_=>exact absurd (show false=true from fx) qN
 |v a =>cases ry;cases x with|l=>cases rx;exact SeqAt.EqAt.bool_none a|v b=>cases rx;exact SeqAt.EqAt.bool_bool a b|int b=>obtain⟨t,rfl⟩:=rx;exact SeqAt.EqAt.bool_int a b t|str b=>obtain⟨t,rfl⟩:=rx;exact SeqAt.EqAt.bool_str a b t|_=>exact absurd (show false=true from fx) qN
 |int a =>obtain⟨t',rfl⟩:=ry;cases x with|l=>cases rx;exact SeqAt.EqAt.int_none a t'|v b=>cases rx;exact SeqAt.EqAt.int_bool a t' b|int b=>obtain⟨t,rfl⟩:=rx;exact SeqAt.EqAt.int_int a t' b t|str b=>obtain⟨t,rfl⟩:=rx;exact SeqAt.EqAt.int_str a t' b t|_=>exact absurd (show false=true from fx) qN
 |str a =>obtain⟨t',rfl⟩:=ry;cases x with|l=>cases rx;exact SeqAt.EqAt.str_none a t'|v b=>cases rx;exact SeqAt.EqAt.str_bool a t' b|int b=>obtain⟨t,rfl⟩:=rx;exact SeqAt.EqAt.str_int a t' b t|str b=>obtain⟨t,rfl⟩:=rx;exact SeqAt.EqAt.str_str a t' b t|_=>exact absurd (show false=true from fx) qN
 |_=>exact absurd (show false=true from fy) qN
def eqU(x:V)(u:Value):Bool:=match u with|.none=>eqV .l x|.bool b=>eqV (.v b) x|.int i _=>eqV (.int i) x|.str z _=>eqV (.str z) x|_=>false
theorem RK(r:RelV y u)(f:Eh y=true):eqU x u=eqV y x:=by cases y with|l=>cases r;rfl|v b=>cases r;rfl|int i=>obtain⟨t,rfl⟩:=r;rfl|str z=>obtain⟨t,rfl⟩:=r;rfl|_=>exact absurd (show false=true from f) qN
theorem FJ:∀{xs:List V}{us:List Value},Vals xs us->xs.all Eh=true->us.any (eqU x)=xs.any λy=>eqV y x
 |_,_,.nil,_=>rfl
 |y::xs,u::us,.cons r t,f=>by rw[sZ,qE]at f;rw[sI,sI,RK r f.1,FJ t f.2]
theorem DP(rx:RelV x v)(fx:Eh x=true):∀{xs:List V}{us:List Value},Vals xs us->xs.all Eh=true->∀u∈us,SeqAt.EqAt A s u v (eqU x u)
 |_,_,.nil,_=>λu hu=>by cases hu
 |y::xs,u::us,.cons r t,f=>λu' hu=>by
  rw[sZ,qE]at f;rcases qA.mp hu with rfl|hu
  .rw[RK r f.1];exact RQ r rx f.1 fx
  .exact DP rx fx t f.2 u' hu
def inV(x:V)(xs:List V):Bool:=xs.any λy=>eqV y x
inductive rIn(K:Fg)(neg:Bool)(x:V)(y:V)(H:Hp)(Q:VK):Prop
 |mk (p xs:_) (h0:y=.ref p) (h1:(SqL K H p xs\/SqT K H p xs)/\Eh x=true/\xs.all Eh=true/\Q (.v (if neg then !inV x xs else inV x xs)) H)
theorem HW:OpR X (compareOp .In) (rIn X.K false):=by
 intro aa s σ H x y v u Q I rx ry h;obtain⟨p,xs,rfl,hq,fx,fs,q⟩:=h;cases ry;rcases hq with hq|hq
 .obtain⟨aq,r,pl,hz⟩:=I.list hq;refine SeqAt.in_listAt (eqU x) pl.isList (λw hw=>DP rx fx r fs w (by simpa using hw)) ⟨.v _,H,I,rfl,?_⟩;rwa[show aq.toArray.any (eqU x)=aq.any (eqU x) by simp,FJ r fs]
 .obtain⟨aq,r,pl,hz⟩:=I.tuple hq;refine SeqAt.in_tupleAt (eqU x) pl (λw hw=>DP rx fx r fs w (by simpa using hw)) ⟨.v _,H,I,rfl,?_⟩;rwa[show aq.toArray.any (eqU x)=aq.any (eqU x) by simp,FJ r fs]
theorem HS:OpR X (compareOp .NotIn) (rIn X.K true):=by
 intro aa s σ H x y v u Q I rx ry h;obtain⟨p,xs,rfl,hq,fx,fs,q⟩:=h;cases ry;rcases hq with hq|hq
 .obtain⟨aq,r,pl,hz⟩:=I.list hq;refine SeqAt.notIn_listAt (eqU x) pl.isList (λw hw=>DP rx fx r fs w (by simpa using hw)) ⟨.v _,H,I,rfl,?_⟩;rwa[show aq.toArray.any (eqU x)=aq.any (eqU x) by simp,FJ r fs]
 .obtain⟨aq,r,pl,hz⟩:=I.tuple hq;refine SeqAt.notIn_tupleAt (eqU x) pl (λw hw=>DP rx fx r fs w (by simpa using hw)) ⟨.v _,H,I,rfl,?_⟩;rwa[show aq.toArray.any (eqU x)=aq.any (eqU x) by simp,FJ r fs]
theorem HR:OpR X (compareOp .NotIn) (λx y H Q=>∃i j,x=.str i/\y=.str j/\Q (.v (!(!(Builtin.Str.occurrences j i 0 j.length 1).isEmpty))) H):=by intro aa s σ H x y v u Q I rx ry h;obtain⟨i,j,rfl,rfl,q⟩:=h;obtain⟨t,rfl⟩:=rx;obtain⟨t',rfl⟩:=ry;exact notIn_str ⟨.v _,H,I,rfl,q⟩
theorem IJ:B6 X (.builtin "len") (λxs H Q=>∃p ys,xs=[.ref p]/\(SqL X.K H p ys\/SqT X.K H p ys)/\Q (.int ys.length) H):=by
 intro aa s σ H xs us Q I r h;obtain⟨p,ys,rfl,hq,q⟩:=h;obtain⟨u,rfl,rx⟩:=vals1 r;cases rx;have hn:=Gp;rcases hq with hq|hq
 .obtain⟨aq,r',pl,hz⟩:=I.list hq;have hlen:=r'.length;exact Calls.call_len_list pl.isList (by simp only[qD]<;>lia) ⟨.int ys.length,H,I.tok _,⟨s.toks+1,by rw[qD,hlen]⟩,q⟩
 .obtain⟨aq,r',pl,hz⟩:=I.tuple hq;have hlen:=r'.length;exact len_tuple pl (by simp only[qD]<;>lia) ⟨.int ys.length,H,I.tok _,⟨s.toks+1,by rw[qD,hlen]⟩,q⟩
theorem II:B6 X (.builtin "len") (λxs H Q=>∃z,xs=[.str z]/\z.length<=sizeLine/\Q (.int z.length) H):=by intro aa s σ H xs us Q I r h;obtain⟨z,rfl,hz,q⟩:=h;obtain⟨u,rfl,t,rfl⟩:=vals1 r;have hn:=Gp;exact len_str (by lia) ⟨.int z.length,H,I.tok _,⟨_,rfl⟩,q⟩
theorem IH:B6 X (.type "list") (λxs H Q=>∃p ys,xs=[.ref p]/\(SqL X.K H p ys\/SqT X.K H p ys)/\∀l,H l=none->Q (.ref l) (upd H l (.lst ys))):=by
 intro aa s σ H xs us Q I r h;obtain⟨p,ys,rfl,hq,q⟩:=h;obtain⟨u,rfl,rx⟩:=vals1 r;cases rx;have aT:∀(aq:List Value),Vals ys aq->ys.length<=sizeLine->∀(h':Heap)(c':Nat),(∀b o',s.heap.get? b=some o'->h'.get? b=some o') ->
   h'.get? s.heap.objs.size=some {cls:=.type "list",dict:=none,data:=.seq aq.toArray c',slots:=#[]}->EP X aa σ Q (.ref s.heap.objs.size) {s with heap:=h' }:=λaq r' hz h' c' kp e =>
  ⟨.ref s.heap.objs.size,_,I.laid (t':=s.toks) kp (qz _) (show A7 X.prog X.w _ h' _ (.lst ys)from⟨hz,aq,c',r',e⟩),rfl,q _ (I.z9.fresh (qz _))⟩
 rcases hq with hq|hq
 .obtain⟨aq,r',pl,hz⟩:=I.list hq;have hlen:=r'.length;obtain⟨o,ho,hc,n,hd⟩:=pl.isList;exact call_list_seq p (.inl rfl) ho hc hd (λh' c' kp e=>aT aq r' hz h' c' kp e) (by simp only[qD]<;>lia)
 .obtain⟨aq,r',pl,hz⟩:=I.tuple hq;have hlen:=r'.length;obtain⟨o,ho,hc,n,hd⟩:=pl;exact call_list_seq p (.inr rfl) ho hc hd (λh' c' kp e=>aT aq r' hz h' c' kp e) (by simp only[qD]<;>lia)
theorem Hf:B6 X (.type "tuple") (λxs H Q=>∃p ys,xs=[.ref p]/\((SqL X.K H p ys/\∀l,H l=none->Q (.ref l) (upd H l (.tup ys)))\/(SqT X.K H p ys/\Q (.ref p) H))):=by
 intro aa s σ H xs us Q I r h;obtain⟨p,ys,rfl,h⟩:=h;obtain⟨u,rfl,rx⟩:=vals1 r;cases rx;rcases h with⟨hq,q⟩|⟨hq,q⟩
 .obtain⟨aq,r',pl,hz⟩:=I.list hq;have hlen:=r'.length;refine call_tuple_list pl.isList (λh' kp=>?_) (by simp only[qD]<;>lia);have I1:Inv X aa σ H {s with heap:=h' }:=I.kept (t':=s.toks) kp;have I2:Inv X aa σ (upd H h'.objs.size (.tup ys)) {s with heap:=h'.push {cls:=.type "tuple",data:=.seq aq.toArray} } :=
   I1.laid (t':=s.toks) (λb o e=>qa _ e) (qz _) (show A7 X.prog X.w _ _ _ (.tup ys)from⟨hz,aq,r',PlT.new _ _⟩)
  exact⟨.ref h'.objs.size,_,I2,rfl,q _ (I1.z9.fresh (qz _))⟩
 .obtain⟨aq,r',pl,hz⟩:=I.tuple hq;exact call_tuple_same pl ⟨.ref p,H,I,rfl,q⟩
def tyV(K:Fg)(T:String)(x:V)(H:Hp):Prop:=match x with
 |.str _=>T="str"
 |.int _=>T="int"
 |.ref p=>(T="list"/\∃xs,SqL K H p xs)\/(T="tuple"/\∃o,K.lookup p=some o/\o.cls=.type "tuple"/\o.dict=none)\/
   (T="dict"/\((∃ag,H p=some (.o ag))\/∃ag,H p=some (.dT ag)))\/(T="set"/\∃S n,H p=some (.set S n))
 |_=>False
theorem VU{aa:List (Addr×Obj)}{σ:St}{H:Hp}{s:Shared}{T:String}{x:V}{v:Value}(I:Inv X aa σ H s)(r:RelV x v)(ty:tyV X.K T x H):
  s.TypeIs v T/\∀a,v=.ref a->∃ob,s.heap.get? a=some ob/\ob.dict=none:=by
 cases x with
 |str z =>obtain⟨t,rfl⟩:=r;cases(show T="str" from ty);exact⟨typeIs_str s z t,λ_ e=>nomatch e⟩
 |int i =>obtain⟨t,rfl⟩:=r;cases(show T="int" from ty);exact⟨typeIs_int s i t,λ_ e=>nomatch e⟩
 |ref p =>
  cases r;rcases ty with⟨rfl,xs,hq⟩|⟨rfl,o,hk,hc,hd⟩|⟨rfl,hk⟩|⟨rfl,S,n,hk⟩
  .obtain⟨aq,_,pl,_⟩:=I.list hq;refine⟨pl.isList.typeIs,λa e=>?_⟩;cases e;obtain⟨o,n,e,c,hd,_⟩:=pl;exact⟨o,e,hd⟩
  .refine⟨⟨o,I.kIn p o hk,hc⟩,λa e=>?_⟩;cases e;exact⟨o,I.kIn _ o hk,hd⟩
  .have z:∃o,s.heap.get? p=some o/\o.ExactDict:=by
    rcases hk with⟨ag,hk⟩|⟨ag,hk⟩
    .obtain⟨_,_,_,_,o,_,_,e,ex,_⟩:=I.z9 p _ hk;exact⟨o,e,ex⟩
    .obtain⟨_,_,_,_,o,_,_,e,ex,_⟩:=I.z9 p _ hk;exact⟨o,e,ex⟩
   obtain⟨o,e,ex⟩:=z;refine⟨⟨o,e,ex.1⟩,λa e2=>?_⟩;cases e2;exact⟨o,e,ex.2.1⟩
  .obtain⟨o,_,_,_,e,ex,_⟩:=I.z9 p _ hk;refine⟨⟨o,e,ex.1⟩,λa e2=>?_⟩;cases e2;exact⟨o,e,ex.2.1⟩
 |_=>exact False.elim ty
def tBM(K:Fg)(T:String)(r:V->List V->Hp->VK->Prop)(to:TE)(t:TA):TE:=λσ H Q=>to σ H λx H1=>tyV K T x H1/\t σ H1 λxs H2=>r x xs H2 Q
variable{t:TA}{id:String}
theorem WS(pa:PlainAttrs T)(slot:Slot T name id)(eO:typeOf (.builtin id)=pure (.type "method_descriptor"))(hm:MtR X id r)(ho:PE X o to)(ha:PA X (e::es) t)
  (cy:attributeBase o name X.env (eval o X.env)=eval o X.env:=by rfl)
  (eC:((backTo aE (starEach (e::es) X.env)).all (λx=>!x.1)&&(backToKw aE (keywordEach [] X.env)).all (λx=>x.1.isSome)
  &&decide ((e::es).length+([]:List Keyword).length+(if([]:List Keyword).isEmpty then 0 else 1)<30))=true:=by rfl)
  (cA:(aD.endLine==aE.line)=true:=by rfl) (hs:starEach (e::es) X.env=(false,eval e X.env)::starEach es X.env:=by rfl) (bH:(backTo aE (starEach es X.env)).any (·.1)=false:=by rfl) :
  PE X (.Call (.Attribute o name aD) (e::es) [] aE) (tBM X.K T r to t):=by
 intro aa s σ H Q I h;refine wpAny_Call_method_late cy eC cA rfl (thn (ho aa s σ H _ I h) λv s1 ao=>?_);obtain⟨x,H1,I1,r1,ty,q1⟩:= ao;obtain⟨h1,h2⟩:=VU I1 r1 ty;refine⟨T,id,pa,slot,eO,h1,h2,?_⟩;have hA:=ha aE aa s1 σ H1 _ I1 q1;rw[hs]at hA ⊢;refine Calls.callWith_builtin (by show(false||(backTo aE (starEach es X.env)).any (·.1))=false;rw[bH]<;>rfl) (Calls.evalArgs_plain ?_);refine thn hA λus s2 ao => ?_
 obtain⟨vs,H2,I2,r2,q2⟩:= ao;exact hm aa s2 σ H2 x vs v us Q I2 r1 r2 q2
end
def MtM(X:Cx)(id:String)(r:V->List V->Hp->VK->Prop):Prop :=
 ∀(aa:List (Addr×Obj))(s:Shared)(σ:St)(H:Hp)(x:V)(xs:List V)(v:Value)(us:List Value)(Q:VK),Inv X aa σ H s->RelV x v->Vals xs us->r x xs H Q ->
  wpAny (model X.prog X.w) X.A (call (.builtin id) (v::us)) (EP X aa σ Q) X.xe s
theorem Vals.one:∀{x:V}{us:List Value},Vals [x] us->∃u,us=[u]/\RelV x u
 |_,_,.cons r .nil=>⟨_,rfl,r⟩
theorem Vals.reverse(h:Vals xs us):Vals xs.reverse us.reverse:=by induction h with|nil=>exact .nil|cons r t ih=>rw[sW,sW];exact Vals.append ih (.cons r .nil)
variable{aa:List (Addr×Obj)}{σ:St}{H:Hp}{s:Shared}{l b:Addr}{xs ys zs:List V}
theorem Inv.lset{aq bF:List Value}{n:Nat}{f:Array Value->Array Value}{t':Nat}(I:Inv X aa σ H s)(hH:H l=some (.lst xs))
  (e:s.heap.get? l=some {cls:=.type "list",data:=.seq aq.toArray n}) (hf:f aq.toArray=bF.toArray) (hv:Vals ys bF) (hz:ys.length<=sizeLine) :
  Inv X aa σ (upd H l (.lst ys)) {s with heap:=s.heap.update l (Obj.mapSeq f),toks:=t' }:=by
 have q:=PySem.IsL.update e f;rw[hf]at q;refine I.write (by rw[hH];exact trivial) (.inl rfl) (λb' u hb hu=>(rj s.heap (Obj.mapSeq f) (Ne.symm hb)).trans hu) ⟨_,q⟩ ?_;exact⟨hz,bF,_,hv,q⟩
theorem Inv.lnew(I:Inv X aa σ H s)(hv:Vals ys aq)(hz:ys.length<=sizeLine):
  Inv X aa σ (upd H s.heap.objs.size (.lst ys)) {s with heap:=s.heap.push {cls:=.type "list",data:=.seq aq.toArray},toks:=t' } :=
 I.laid (λ_ _ q=>qa _ q) (qz _) ⟨hz,aq,0,hv,qo _ rfl⟩
theorem Inv.fresh(I:Inv X aa σ H s):H s.heap.objs.size=none:=I.z9.fresh (qz _)
theorem Inv.JaX(I:Inv X aa σ H s)(hH:H l=some (.lst xs)):xs.length<=sizeLine/\∃(aq:List Value)(n:Nat),Vals xs aq/\xs.length=aq.length/\s.heap.get? l=some {cls:=.type "list",data:=.seq aq.toArray n}:=by obtain⟨z,aq,n,r,e⟩:=I.z9 l _ hH;exact⟨z,aq,n,r,r.length,e⟩
inductive Mp(x:V)(vs:List V)(H:Hp)(Q:VK):Prop
 |mk (l xs y:_) (h0:x=.ref l) (h1:vs=[y]) (h2:H l=some (.lst xs)) (h3:xs.length<sizeLine) (h4:Q .l (upd H l (.lst (xs++[y]))))
theorem HY:MtM X "list.append" Mp:=by
 intro aa s σ H x vs v us Q I rx rv h;obtain⟨l,xs,y,rfl,rfl,hH,hz,q⟩:=h;cases rx;obtain⟨u,rfl,ru⟩:=rv.one;obtain⟨z,aq,n,r,hl,e⟩:=I.JaX hH;refine call_meets F.slot_list_append ⟨_,e,rfl⟩ F.entry_list_append (F.args_list_append_2 _ _) (PySem.list_append l aq.toArray n u (by rw[qD];lia)) ⟨e,?_⟩;refine⟨.l,_,I.lset hH e (by simp) (r.append (.cons ru .nil)) ?_,rfl,q⟩;rw[qv,qT]
 lia
inductive Jb1(x:V)(y:V)(H:Hp)(Q:VK):Prop
 |mk (l b xs zs:_) (h0:x=.ref l) (h1:y=.ref b) (h2:H l=some (.lst xs)) (h3:H b=some (.lst zs)) (h4:xs.length+zs.length<=sizeLine) (h5:∀p,H p=none->Q (.ref p) (upd H p (.lst (xs++zs))))
theorem W5:OpR X (binaryOp .Add) Jb1:=by
 intro aa s σ H x y v u Q I rx ry h;obtain⟨l,b,xs,zs,rfl,rfl,hH,hB,hz,q⟩:=h;cases rx;cases ry;obtain⟨z,aq,n,r,hl,e⟩:=I.JaX hH;obtain⟨z2,aW,n2,r2,eW,e2⟩:=I.JaX hB;refine PySem.P.add_list e e2 ?_ (by rw[qD,qD];lia);have ea:aq.toArray++aW.toArray=(aq++aW).toArray:=by simp
 rw[ea];exact⟨.ref _,_,I.lnew (t':=s.toks) (r.append r2) (by rw[qv];lia),rfl,q _ I.fresh⟩
variable{prog:Program}{w:World}{A:Around}{E:Value->Shared->Prop}
set_option maxRecDepth 100000 in
section
variable{κ:Type}[DecidableEq κ]
def Jc(ag:List (κ×V))(k:κ):Option V:=(ag.find? λkv=>decide (kv.1=k)).map (·.2)
def putK(ag:List (κ×V))(k:κ)(v:V):List (κ×V) :=
 if(ag.any λkv=>decide (kv.1=k))=true then ag.map (λkv=>if kv.1=k then(kv.1,v)else kv)else ag++[(k,v)]
theorem DK{p:κ×V}{r:List (κ×V)}{k:κ}(e:p.1=k):Jc (p::r) k=some p.2:=by simp[Jc,e]
theorem DL{p:κ×V}{r:List (κ×V)}{k:κ}(e:¬p.1=k):Jc (p::r) k=Jc r k:=by simp[Jc,e]
theorem JX(k:κ):∀ag:List (κ×V),(ag.any λkv=>decide (kv.1=k))=(Jc ag k).isSome
 | []=>rfl
 |p::r=>by
  rw[sI];by_cases e:p.1=k
  .simp only[DK e,qP e,Bool.true_or,Option.isSome_some]
  .rw[DL e,qK e,Bool.false_or];exact JX k r
theorem Dw(ag:List (κ×V))(k:κ)(v:V):(putK ag k v).length<=ag.length+1:=by
 unfold putK;split
 .rw[qe];lia
 .rw[qv,qL,List.length_nil];lia
theorem AN.CZ{o}(r:AN o u):o.isSome=u.isSome:=by
 cases o with
 |none=>cases u with|none=>rfl|some _=>exact(show False from r).elim
 |some _=>cases u with|none=>exact(show False from r).elim|some _=>rfl
theorem KV.val{ag:List (κ×V)}{vs:List (κ×Value)}(r:KV ag vs)(k:κ):AN (Jc ag k) (valueAt vs k):=by
 induction r with
 |nil=>exact True.intro
 |@cons p q ps qs h t ih =>
  obtain⟨h1,h2⟩:=h;by_cases e:p.1=k
  .have e':q.1=k:=h1.symm.trans e;have b:valueAt (q::qs) k=some q.2:=by simp[valueAt,e']
   rwa[DK e,b]
  .have e':¬q.1=k:=λz=>e (h1.trans z)
   have b:valueAt (q::qs) k=valueAt qs k:=by simp[valueAt,e']
   rwa[DL e,b]
theorem KV.any{ag:List (κ×V)}{vs:List (κ×Value)}(r:KV ag vs)(k:κ):(ag.any λkv=>decide (kv.1=k))=vs.any λkv=>decide (kv.1=k):=by induction r with|nil=>rfl|cons h t ih=>rw[sI,sI,ih,h.1]
theorem KV.Jat(r:KV ag vs)(k:κ)(ry:RelV y u):
  KV (ag.map λkv=>if kv.1=k then(kv.1,y)else kv) (vs.map λkv=>if kv.1=k then(kv.1,u)else kv):=by
 induction r with
 |nil=>exact .nil
 |@cons p q ps qs h t ih =>
  rw[qi,qi];refine .cons ?_ ih;obtain⟨h1,h2⟩:=h;by_cases e:p.1=k
  .rw[if_pos e,if_pos (h1.symm.trans e)];exact⟨h1,ry⟩
  .rw[if_neg e,if_neg (λz=>e (h1.trans z))];exact⟨h1,h2⟩
theorem KV.put(r:KV ag vs)(k:κ)(ry:RelV y u):KV (putK ag k y) (stored vs k u):=by
 unfold putK stored;rw[r.any k];by_cases e:(vs.any λkv=>decide (kv.1=k))=true
 .rw[if_pos e,if_pos e];exact r.Jat k ry
 .rw[if_neg e,if_neg e];exact Paired.snoc r ⟨rfl,ry⟩
theorem KV.length(r:KV ag vs):ag.length=vs.length:=Paired.length r
end
theorem Jz(r:RelV (kV k) u):(AV P w).is k u=true:=by cases k with|inl i=>obtain⟨t,e⟩:=(show ∃t,u=Value.int i t from r);subst e;exact Js P w i t|inr x=>obtain⟨t,e⟩:=(show ∃t,u=Value.str x t from r);subst e;exact Jr P w x t
theorem Ie:∀{ks:List Key}{us:List Value},Vals (ks.map kV) us->ItemsAre (AV P w) ks us
 | [],_,r=>by rw[sf]at r;cases r;exact .nil
 |k::ks,_,r=>by cases r with|cons h t=>exact .cons (Jz h) (Ie t)
abbrev KT(H:Hp):List (List Key×V)->List (List Key×Addr×Value)->Prop:=Paired λp q=>p.1=q.1/\H q.2.1=some (.tup (p.1.map kV))/\RelV p.2 q.2.2
theorem KT.val{ag:List (List Key×V)}{xs:List (List Key×Addr×Value)}(r:KT H ag xs)(k:List Key):AN (Jc ag k) ((atKey xs k).map (·.2)):=by
 induction r with
 |nil=>exact True.intro
 |@cons p q ps qs h t ih =>
  obtain⟨h1,_,h2⟩:=h;by_cases e:p.1=k
  .have e':q.1=k:=h1.symm.trans e;have b:atKey (q::qs) k=some q.2:=by simp[atKey,e']
   rwa[DK e,b]
  .have e':¬q.1=k:=λz=>e (h1.trans z)
   have b:atKey (q::qs) k=atKey qs k:=by simp[atKey,e']
   rwa[DL e,b]
theorem KT.Jat{xs}(r:KT H ag xs)(k:List Key)(ry:RelV y u):
  KT H (ag.map λkv=>if kv.1=k then(kv.1,y)else kv) (xs.map (putAt k u)):=by
 induction r with
 |nil=>exact .nil
 |@cons p q ps qs h t ih =>
  rw[qi,qi];refine .cons ?_ ih;obtain⟨h1,h2,h3⟩:=h;unfold putAt;by_cases e:p.1=k
  .rw[if_pos e,if_pos (h1.symm.trans e)];exact⟨h1,h2,ry⟩
  .rw[if_neg e,if_neg (λz=>e (h1.trans z))];exact⟨h1,h2,h3⟩
theorem KT.put{ag:List (List Key×V)}{xs:List (List Key×Addr×Value)}(r:KT H ag xs)(k:List Key){y:V}{u:Value}(hb:H b=some (.tup (k.map kV)))(ry:RelV y u):
  KT H (putK ag k y) (storedH xs k b u):=by
 have e:(ag.any λkv=>decide (kv.1=k))=(atKey xs k).isSome:=by rw[JX,(r.val k).CZ,Option.isSome_map]
 unfold putK storedH;rw[e];by_cases q:(atKey xs k).isSome=true
 .rw[if_pos q,if_pos q];exact r.Jat k ry
 .rw[if_neg q,if_neg q];exact Paired.snoc r ⟨rfl,hb,ry⟩
theorem KT.keeps{xs}(r:KT H ag xs)(ht:∀b ys,H b=some (.tup ys)->H' b=some (.tup ys)):KT H' ag xs :=
 Paired.JaW r λ_ _ z=>⟨z.1,ht _ _ z.2.1,z.2.2⟩
variable{P:Program}{h:Heap}{a:Addr}
theorem Wf(ok:HOk P w H h)(e:Rd H a u):A7 P w H h a u:=e.ok ok
theorem Iy(ok:HOk P w H h)(e:Rd H a (.o ag)):ag.length<=sizeLine/\(a==sysModules)=false/\∃vs,KV ag vs/\h.DictOf (AV P w) a vs :=
 show A7 P w H h a (.o ag)from Wf ok e
theorem YT(ok:HOk P w H h)(e:H a=some (.o ag)):ag.length<=sizeLine/\(a==sysModules)=false/\∃vs,KV ag vs/\h.DictOf (AV P w) a vs:=Iy ok (.inl e)
theorem Ib(ok:HOk P w H h)(e:H a=some (.tup (ks.map kV))):(tupleKind (AV P w)).is h ks a:=by
 obtain⟨_,aq,r,o,h1,h2,n,h3,_⟩:=(show A7 P w H h a (.tup (ks.map kV))from ok a _ e)
 exact⟨o,aq.toArray,n,h1,h2,h3,by simpa using Ie r⟩
theorem NJ{ag:List (List Key×V)}(ok:HOk P w H h)(e:Rd H a (.dT ag)):ag.length<=sizeLine/\(a==sysModules)=false /\
  ∃xs,KT H ag xs/\h.DictOfH (tupleKind (AV P w)) a xs:=by
 obtain⟨z,y,xs,r,o,es,ep,h1,h2,h3,h4,h5⟩:=(show A7 P w H h a (.dT ag)from Wf ok e)
 refine⟨z,y,xs,r,o,es,ep,h1,h2,h3,h4,λx hx=>?_,h5⟩;have all:∀{l:List (List Key×V)}{m:List (List Key×Addr×Value)},KT H l m->∀x∈m,(tupleKind (AV P w)).is h x.1 x.2.1:=by
  intro l m q
  induction q with
  |nil=>intro x hx;exact nomatch hx
  |@cons p q ps qs hq t ih =>
   intro x hx;rcases qA.mp hx with e|hx
   .subst e;exact Ib ok (by rw[<- hq.1];exact hq.2.1)
   .exact ih x hx
 exact all r x hx
theorem JbK(ok:HOk P w H h)(e:H a=some (.dT ag)):ag.length<=sizeLine/\(a==sysModules)=false /\
  ∃xs,KT H ag xs/\h.DictOfH (tupleKind (AV P w)) a xs:=NJ ok (.inl e)
def Ja(H:Hp)(a:Addr)(y:V)(r:Option V):Prop :=
 (∃ag k,Rd H a (.o ag)/\y=kV k/\r=Jc ag k)\/∃ag k b,Rd H a (.dT ag)/\y=.ref b/\H b=some (.tup (k.map kV))/\r=Jc ag k
def LO(H:Hp)(a:Addr)(y v:V)(H':Hp):Prop :=
 (∃ag k,H a=some (.o ag)/\y=kV k/\ag.length<sizeLine/\H'=upd H a (.o (putK ag k v)))\/
 ∃ag k b,H a=some (.dT ag)/\y=.ref b/\H b=some (.tup (k.map kV))/\ag.length<sizeLine/\H'=upd H a (.dT (putK ag k v))
theorem Ja.k{ag:List (Key×V)}{k:Key}(e:H a=some (.o ag)):Ja H a (kV k) (Jc ag k):=.inl ⟨ag,k,.inl e,rfl,rfl⟩
theorem Ja.t{ag:List (List Key×V)}{k:List Key}(e:H a=some (.dT ag))(eb:H b=some (.tup (k.map kV))):Ja H a (.ref b) (Jc ag k):=.inr ⟨ag,k,b,.inl e,rfl,eb,rfl⟩
theorem LO.k{ag:List (Key×V)}{k:Key}{v:V}(e:H a=some (.o ag))(hl:ag.length<sizeLine):LO H a (kV k) v (upd H a (.o (putK ag k v))):=.inl ⟨ag,k,e,rfl,hl,rfl⟩
theorem LO.t{ag:List (List Key×V)}{k:List Key}{v:V}(e:H a=some (.dT ag))(eb:H b=some (.tup (k.map kV)))(hl:ag.length<sizeLine):
  LO H a (.ref b) v (upd H a (.dT (putK ag k v))):=.inr ⟨ag,k,b,e,rfl,eb,hl,rfl⟩
variable{y v:V}{u r:Value}{o:Option V}
theorem Inv.big(I:Inv X aa σ H s):sysModules<s.heap.objs.size:=by have h:=(I.mod.glob.keeps I.bk).lt;exact se (by decide) h
theorem IB(hu:A.units+1<cLine)(I:Inv X aa σ H s)(g:Ja H a y (some v))(ry:RelV y u)(h:∀w' s',Inv X aa σ H s'->RelV v w'->Q w' s'):
  wpAny (model X.prog X.w) A (getItem (.ref a) u) Q E s:=by
 rcases g with⟨ag,k,e,ey,l⟩|⟨ag,k,b,e,ey,eb,l⟩
 .subst ey;obtain⟨z,hd,vs,aP,dd⟩:=Iy I.z9 e;obtain⟨w',hw,cZ⟩:=AN.some_of (by rw[l];exact aP.val k);exact wpAny_getItem_of (Jz ry) dd.mapOf hw (h w' _ (I.tok _) cZ)
 .subst ey;cases(show u=Value.ref b from ry);obtain⟨z,hd,xs,aP,dd⟩:=NJ I.z9 e;obtain⟨w',hw,cZ⟩:=AN.some_of (by rw[l];exact aP.val k);obtain⟨p,hp,oq⟩:=qw.mp hw;refine wpAny_getItem_heap (tupleKind_room_in1 hu) (Ib I.z9 eb) dd hp ?_;rw[oq];exact h w' _ (I.tok _) cZ
theorem d_in(hu:A.units+1<cLine)(I:Inv X aa σ H s)(g:Ja H a y o)(ry:RelV y u)(h:∀s',Inv X aa σ H s'->Q (.bool o.isSome) s'):
  wpAny (model X.prog X.w) A (compareOp .In u (.ref a)) Q E s:=by
 rcases g with⟨ag,k,e,ey,l⟩|⟨ag,k,b,e,ey,eb,l⟩
 .subst ey;obtain⟨z,hd,vs,aP,dd⟩:=Iy I.z9 e;refine wpAny_in_of (Jz ry) hd dd.mapOf ?_;rw[<- (aP.val k).CZ,<- l];exact h _ (I.tok _)
 .subst ey;cases(show u=Value.ref b from ry);obtain⟨z,hd,xs,aP,dd⟩:=NJ I.z9 e;refine wpAny_in_heap (tupleKind_room_in1 hu) (Ib I.z9 eb) hd dd ?_;have q:=(aP.val k).CZ;rw[Option.isSome_map]at q;rw[<- q,<- l];exact h _ (I.tok _)
theorem U2(hu:A.units+1<cLine)(I:Inv X aa σ H s)(g:Ja H a y o)(ry:RelV y u)(h:∀s',Inv X aa σ H s'->Q (.bool (!o.isSome)) s'):
  wpAny (model X.prog X.w) A (compareOp .NotIn u (.ref a)) Q E s:=by
 rcases g with⟨ag,k,e,ey,l⟩|⟨ag,k,b,e,ey,eb,l⟩
 .subst ey;obtain⟨z,hd,vs,aP,dd⟩:=Iy I.z9 e;refine wpAny_notIn_of (Jz ry) hd dd.mapOf ?_;rw[<- (aP.val k).CZ,<- l];exact h _ (I.tok _)
 .subst ey;cases(show u=Value.ref b from ry);obtain⟨z,hd,xs,aP,dd⟩:=NJ I.z9 e;refine wpAny_notIn_heap (tupleKind_room_in1 hu) (Ib I.z9 eb) hd dd ?_;have q:=(aP.val k).CZ;rw[Option.isSome_map]at q;rw[<- q,<- l];exact h _ (I.tok _)
theorem JM(I:Inv X aa σ H s)(mu:Mut (H a))(hs:Heap.SameBut a s.heap h')(he:∃q,h'.get? a=some q)(new:A7 X.prog X.w (upd H a ob) h' a ob):
  Inv X aa σ (upd H a ob) {s with heap:=h',toks:=t' } :=
 I.write mu (.inl rfl) (λb q hb z=>(hs.2 b hb).trans z) he new
theorem NL(z:ag.length<=sizeLine)(hd:(a==sysModules)=false)(aP:KV ag vs)(dd:h'.DictOf (AV P w) a vs):
  A7 P w H' h' a (.o ag):=⟨z,hd,vs,aP,dd⟩
theorem IA{H':Hp}{Q:Unit->Shared->Prop}(hu:A.units+1<cLine)(I:Inv X aa σ H s)(g:LO H a y v H')(ry:RelV y u)(rv:RelV v r)(h:∀s',Inv X aa σ H' s'->Q () s'):
  wpAny (model X.prog X.w) A (setItem (.ref a) u r) Q E s:=by
 rcases g with⟨ag,k,e,ey,l,eH⟩|⟨ag,k,b,e,ey,eb,l,eH⟩
 .subst ey eH;obtain⟨z,hd,vs,aP,dd⟩:=YT I.z9 e;have hz:vs.length<=sizeLine:=by rwa[<- aP.length]
  have hl:(putK ag k v).length<=sizeLine:=by have:=Dw ag k v;lia
  refine wpAny_setItem_pairs (hsz:=hz) (Jz ry) dd λh' eZ hs=>h _ ?_
  have he:∃q,h'.get? a=some q:=let⟨q,_,_,hq,_⟩:=eZ;⟨q,hq⟩;exact JM I (by rw[e];exact True.intro) hs he (NL hl hd (aP.put k rv) eZ)
 .subst ey eH;cases(show u=Value.ref b from ry);obtain⟨z,hd,xs,aP,dd⟩:=JbK I.z9 e;have hz:xs.length<=sizeLine:=by rwa[<- Paired.length aP]
  have hl:(putK ag k v).length<=sizeLine:=by have:=Dw ag k v;lia
  refine wpAny_setItem_heap (hsz:=hz) (tupleKind_room_in1 hu) (Ib I.z9 eb) dd λh' eZ hs=>h _ ?_
  obtain⟨q,es,ep,hq,h2,h3,h4,_,h5⟩:=eZ;refine JM I (by rw[e];exact True.intro) hs ⟨q,hq⟩ ⟨hl,hd,_,(aP.put k eb rv).keeps λc ys ec=>?_,q,es,ep,hq,h2,h3,h4,h5⟩;rwa[Aj (JaT ec e (λz=>nomatch z))]
variable{ag:List (Key×V)}{k:Key}
theorem JbL(I:Inv X aa σ H s)(e:Rd H a (.o ag))(h:∀t s',Inv X aa σ H s'->Q (.int ag.length t) s'):wpAny (model X.prog X.w) A (call (.builtin "len") [.ref a]) Q E s:=by obtain⟨z,hd,vs,aP,dd⟩:=Iy I.z9 e;refine call_len_dict hd dd (by rw[<- aP.length];rw[sizeLine_eq]at z;lia) ?_;rw[<- aP.length];exact h _ _ (I.tok _)
def JbS(i:Expr):Prop:=∀ov iv,subscripted i false ov iv=operate [ov,iv] (getItem ov iv)
theorem Sw{env:Env}{value slice:Expr}{id:String}{Q:Value->Shared->Prop}
  (hl:typeLookup (.type T) "__getitem__"=pure (some (.builtin id))) (hs:JbS slice)
  (h:wpAny (model prog w) A (eval value env) (λo aB=>wpAny (model prog w) A (eval slice env) (λi cf=>cf.TypeIs o T/\wpAny (model prog w) A (getItem o i) Q E cf) E aB) E s) :
  wpAny (model prog w) A (eval (.Subscript value slice pos) env) Q E s:=by
 refine Subscript_ (wpAny_mono h (λo aB aJ=>wpAny_mono aJ (λi cf b7=>?_) λ_ _ x=>x) λ_ _ x=>x);obtain⟨hT,b7⟩:=b7;refine p9 ?_;refine p9 (wpAny_specialOf hT hl ?_);have aT:wpAny (model prog w) A (subscripted slice false o i) (λr bg=>wpAny (model prog w) A (letTemporaryGo value o r >>= λ_=>pure r) Q E bg) E cf:=by rw[hs o i];exact wpAny_operating (wpAny_mono b7 (λr bg dM=>p9 (wpAny_letTemporaryGo (qg dM))) λ_ _ x=>x)
 first
  |exact qg (p9 aT)
  |exact p9 (qg (p9 aT))
  |exact p9 aT
theorem Fp(I:Inv X aa σ H s)(g:Ja H a y o):s.TypeIs (.ref a) "dict":=by
 rcases g with⟨ag,k,e,_,_⟩|⟨ag,k,b,e,_,_,_⟩
 .obtain⟨_,_,vs,_,dd⟩:=Iy I.z9 e;exact dd.typeIs
 .obtain⟨_,_,xs,_,dd⟩:=NJ I.z9 e;exact dd.typeIs
def Jao(td ty:TE):TE:=λσ H Q=>td σ H λx H1=>ty σ H1 λy H2=>∃a v,x=.ref a/\Ja H2 a y (some v)/\Q v H2
def Wb(td ty tv:TE):TS:=λD σ H=>tv σ H λv H1=>td σ H1 λx H2=>ty σ H2 λy H3=>∃a H4,x=.ref a/\LO H3 a y v H4/\D.nx σ H4
variable{o i value:Expr}{aR bV:Pos}{td ty tv:TE}
theorem Ta(hu:X.A.units+1<cLine)(ho:PE X o td)(hi:PE X i ty)(hs:JbS i):PE X (.Subscript o i pos) (Jao td ty):=by intro aa s σ H Q I h;refine Sw PySem.F.slot_dict_getitem.lookup hs (thn (ho aa s σ H _ I h) λu s1 ⟨x,H1,I1,rx,q1⟩=>thn (hi aa s1 σ H1 _ I1 q1) λiv s2 ao=>?_);obtain⟨y,H2,I2,ry,a,v,ex,g,q2⟩:= ao;subst ex;obtain rfl:u=Value.ref a:=rx;exact⟨Fp I2 g,IB hu I2 g ry λw' s3 I3 cZ=>⟨v,H2,I3,cZ,q2⟩⟩
theorem Jl(hu:X.A.units+1<cLine)(ho:PE X o td)(hi:PE X i ty)(hv:PE X value tv)(hs:swapsWith value (some (.Subscript o i aR)) pos.line X.env=pure false):
  PS X (.Assign [.Subscript o i aR] value pos) (Wb td ty tv):=by
 intro aa s σ H D I h;refine wpAny_Assign_Subscript (thn (hv aa s σ H _ I h) λr s1 ⟨v,H1,I1,rv,q1⟩=>thn (ho aa s1 σ H1 _ I1 q1) λu s2 ⟨x,H2,I2,rx,q2⟩=>thn (hi aa s2 σ H2 _ I2 q2) λiv s3 ao=>?_) hs;obtain⟨y,H3,I3,ry,a,H4,ex,g,q3⟩:= ao;subst ex;obtain rfl:u=Value.ref a:=rx;exact IA hu I3 g ry rv λs4 I4=>⟨σ,H4,I4,q3⟩
theorem Ky(h:Heap)(hb:sysModules<h.objs.size):A7 P w H (h.push {cls:=.type "dict",data:=.dict #[]}) h.objs.size (.o []) :=
 ⟨sM _,beq_eq_false_iff_ne.mpr (Ne.symm (qI hb)),[],.nil,Heap.DictOf.new h⟩
def V1:TE:=λ_ H Q=>∀p,H p=none->Q (.ref p) (upd H p (.o []))
theorem J9:PE X (.Dict [] [] pos) V1:=λaa s σ H Q I h =>wpAny_Dict_empty ⟨.ref s.heap.objs.size,_,I.laid (λ_ _ q=>qa _ q) (qz _) (Ky s.heap I.big),rfl,h _ (I.z9.fresh (qz _))⟩
def Mb:List (TE×TE)->St->Hp->(List (V×V)->Hp->Prop)->Prop
 | [],_,H,Q=>Q [] H
 |(tk,tv)::r,σ,H,Q=>tk σ H λx H1=>tv σ H1 λy H2=>Mb r σ H2 λps H3=>Q ((x,y)::ps) H3
abbrev VV:List (V×V)->List (Value×Value)->Prop:=Paired λp q=>RelV p.1 q.1/\RelV p.2 q.2
def PPs(X:Cx)(pos:Pos)(cD:List (Option Expr))(values:List Expr)(gi:List (TE×TE)):Prop :=
 ∀(aa:List (Addr×Obj))(s:Shared)(σ:St)(H:Hp)(Q:List (V×V)->Hp->Prop),Inv X aa σ H s->Mb gi σ H Q ->
  wpAny (model X.prog X.w) X.A (evalPairs (pairTrees cD values X.env pos)) (λvs s'=>∃ps H',Inv X aa σ H' s'/\VV ps vs/\Q ps H') X.xe s
theorem SX:PPs X pos [] [] []:=λaa s σ H Q I h=>pairTrees_nil_walk ⟨[],H,I,.nil,h⟩
theorem O6{k}{v}(hk:PE X k tk)(hv:PE X v tv)(hr:PPs X pos ks vs gi):
  PPs X pos (some k::ks) (v::vs) ((tk,tv)::gi):=λaa s σ H Q I h =>
 pairTrees_cons_walk (thn (hk aa s σ H _ I h) λu s1 ⟨x,H1,I1,rx,q1⟩=>thn (hv aa s1 σ H1 _ I1 q1) λw2 s2 ⟨y,H2,I2,ry,q2⟩ =>thn (hr aa s2 σ H2 _ I2 q2) λws s3 ⟨ps,H3,I3,aP,q3⟩=>⟨(x,y)::ps,H3,I3,.cons ⟨rx,ry⟩ aP,q3⟩)
def DO(ag more:List (Key×V)):List (Key×V):=more.foldl (λav kv=>putK av kv.1 kv.2) ag
theorem KV.merge:∀{more:List (Key×V)}{rs:List (Key×Value)}{ag:List (Key×V)}{vs:List (Key×Value)},KV more rs->KV ag vs->KV (DO ag more) (merged vs rs):=by
 intro more rs ag vs r
 induction r generalizing ag vs with
 |nil=>intro q;exact q
 |@cons p q ps qs h t ih =>
  intro r0;have e:KV (putK ag p.1 p.2) (stored vs q.1 q.2):=by have:=r0.put p.1 h.2;rwa[<- h.1]
  exact ih e
theorem DR:∀(more ag:List (Key×V)),(DO ag more).length<=ag.length+more.length
 | [],ag=>by show ag.length<=ag.length+0;lia
 |p::r,ag=>by have h1:=DR r (putK ag p.1 p.2);have h2:=Dw ag p.1 p.2;show(DO (putK ag p.1 p.2) r).length<=_;rw[qL];lia
theorem Gv:∀{ag:List (Key×V)}{ws:List (Value×Value)},VV (ag.map λkv=>(kV kv.1,kv.2)) ws->∃rs,Carries (AV P w) ws rs/\KV ag rs
 | [],_,r=>by rw[sf]at r;cases r;exact⟨[],True.intro,.nil⟩
 |p::ag,_,r=>by cases r with|@cons a b as bs h t =>obtain⟨rs,c,q⟩:=Gv t;obtain⟨b1,b2⟩:=b;exact⟨(p.1,b2)::rs,⟨Jz h.1,rfl,c⟩,.cons ⟨rfl,h.2⟩ q⟩
def Jan(gi:List (TE×TE)):TE:=λσ H Q=>∀p,H p=none->Mb gi σ (upd H p (.o [])) λps H2=>H2 p=some (.o [])/\∃ag:List (Key×V),ps=ag.map (λkv=>(kV kv.1,kv.2))/\ag.length<=15/\Q (.ref p) (upd H2 p (.o (DO [] ag)))
theorem S9{cD:List (Option Expr)}{values:List Expr}{gi:List (TE×TE)}(h:PPs X pos cD values gi)(cH:cD.all (·.isSome)=true)(hl:cD.length=values.length)(h0:cD≠[])
  (nh:cD.length<=15):PE X (.Dict cD values pos) (Jan gi):=by
 intro aa s σ H Q I q;have hn:=I.z9.fresh (qz s.heap.objs.size);have I1:=I.laid (a:=s.heap.objs.size) (o:=.o []) (h':=s.heap.push {cls:=.type "dict",data:=.dict #[]}) (t':=s.toks) (λ_ _ q=>qa _ q) (qz _) (Ky s.heap I.big);refine wpAny_Dict_walk (knd:=AV X.prog X.w) cH hl h0 nh (thn (h aa _ σ _ _ I1 (q _ hn)) λws s2 ao=>?_);obtain⟨ps,H2,I2,aP,e,ag,ep,lk,q2⟩:= ao;subst ep;obtain⟨rs,c,rk⟩:=Gv (P:=X.prog) (w:=X.w) aP;obtain⟨z,hd,p0,r0,dd⟩:=YT I2.z9 e;cases r0;refine⟨rs,c,dd,λh' eZ hs=>⟨.ref s.heap.objs.size,_,?_,rfl,q2⟩⟩;have hz:(DO [] ag).length<=sizeLine:=by have h1:=DR ag [];rw[List.length_nil]at h1;rw[sizeLine_eq];lia
 have he:∃q,h'.get? s.heap.objs.size=some q:=let⟨q,_,_,hq,_⟩:=eZ;⟨q,hq⟩;exact JM I2 (by rw[e];exact True.intro) hs he (NL hz hd (rk.merge .nil) eZ)
variable{d:V}{o:Option V}
variable{o f:Expr}{tx:TE}
theorem Qx{Q:Value->Shared->Prop}(I:Inv X aa σ H s)(e:Rd H a (.o ag))(h:∀p s',H p=none->Inv X aa σ (upd H p (.o ag)) s'->Q (.ref p) s'):wpAny (model X.prog X.w) A (call (.type "dict") [.ref a]) Q E s:=by
 obtain⟨z,hd,vs,aP,dd⟩:=Iy I.z9 e;refine kt_call_dict hd dd (by rw[<- aP.length];exact z) λh' eZ hs=>?_
 refine h _ _ (I.z9.fresh (qz _)) (I.laid (a:=s.heap.objs.size) (o:=.o ag) (t':=s.toks) (λb q hq=>?_) (qz _) (NL z (beq_eq_false_iff_ne.mpr (Ne.symm (qI I.big))) aP eZ));exact(hs.2 b (qI (qp hq))).trans (qa _ hq)
end Lake.L2
namespace Att
open PySem PySem.W PySem.Calls PyProof.Rows
theorem Ff:∀(ns:List Int)(vs:List Value),WellAll P h vs (ns.map WData.int)->IntsAre vs ns:=by
 intro ns
 induction ns with|nil =>intro vs w;cases w;exact .nil|cons n ns ih =>intro vs w;cases w with|cons a b =>cases a;exact .cons _ _ (ih _ b)
theorem Mg{l:OpenLaw}{n:Nat}(hn:l.most=some n){P:Params}{h:Heap}{args:List WData}{vals:List Value}
  (dI:l.row.toRowW.claim.pre args=true) (iE:WellAll P h vals args) :
  ∃a vs ns,vals=[Value.ref a]/\args=[WData.list (ns.map WData.int)]/\h.get? a=some {cls:=.type "list",data:=.seq vs.toArray}/\IntsAre vs ns/\ns.length<=n:=by
 have ou:WShape.hasAll [] args [.list .int]=true:=(pre_splitW dI).1;have hc:l.pre.holds [] {args:=args}=true:=(pre_splitW dI).2;obtain⟨d,r,rfl,h1,h2⟩:=hasAllW_cons ou;obtain rfl:=hasAllW_nil h2;obtain⟨xs,rfl,h3⟩:=hasW_list h1;obtain⟨ns,rfl⟩:=items_int h3;have hlen:ns.length<=n:=by
  have h4:(WTm.not (.lt (.lit (.int (n:Int))) (.len (.arg 0)))).holds [] {args:=[.list (ns.map .int)]}=true:=by have h4:=(holds_andW hc).1;rwa[hn]at h4
  have h5:=condW_of h4 (w_not (w_lt w_lit (w_len_list (w_arg rfl))));refine Nat.le_of_not_lt λq=>?_
  first
   |(rw[qP q']at h5;exact absurd h5 (by decide))
   |(simp at h5;lia)
 cases iE with|cons w1 w2 =>cases w2;cases w1 with|list ho cH=>exact⟨_,_,ns,rfl,rfl,ho,Ff ns _ cH,hlen⟩
theorem Mw(l:OpenLaw)(args:List WData):l.row.toRowW.claim.post args (.bool true) args=true :=
 postW_of
  (show WShape.has [] (.bool true) .bool=true by first|rfl|decide|simp[WShape.armsAll])
  (show(WTm.eq .res (.lit (.bool true))).value [] {args:=args,res:=some (.bool true),after:=args}=some (.bool (true==true))from w_eq_bool (w_res rfl) w_lit) rfl
variable{prog:Program}{w:World}{A:Around}{E:Value->Shared->Prop}{s:Shared}{K:Frag}
end Att
namespace Lake.L2
open PySem PySem.Spec PyProof.Rows
theorem Hs:∀{vs:List Value}{ns:List Int},IntsAre vs ns->Vals (ns.map V.int) vs
 |_,_,.nil=>.nil
 |_,_,.cons n t h=>.cons ⟨t,rfl⟩ (Hs h)
def Zq(H:Hp):Prop:=∀b,H b=none\/∃o xs,H b=some (.frz o (.lst xs))
theorem PB{P:Program}{w:World}{K:Fg}{mg mb:Str->Option Value}{CX:CXT}{k:Nat}{fa a:Addr}{fd:FuncData}{x:Str}{sp:Sp}{aB:Shared}{vs:List Value}{ns:List Int}
  (KX:K.In aB.heap) (lD:aB.heap.Ns mainGlobals mg) (hb:aB.heap.Ns builtinsNs mb) (nH:∀x:Str,x≠"__name__"->mb x=bootBuiltins x) (jX:aB.heap.NoLimit) (hg:aB.gens=#[])
  (ha:aB.heap.get? a=some {cls:=.type "list",data:=.seq vs.toArray}) (hi:IntsAre vs ns) (hl:ns.length<=sizeLine) (hr:CL k callerA)
  (F:∀base:Heap,K.In base->base.Ns mainGlobals mg->D4 P w K mg base CX k fa fd [x] sp) (hV:∀(s:Shared)(u:Value),BindsTo s fd ⟨[u],[]⟩ [(x,u)])
  (eY:∀H:Hp,Zq H->SqL K H a (ns.map V.int)->sp [.ref a] H (λv _=>v=.v true) λ_ _ _=>False)
  (g9:∀H e s',CX [] H aB (λ_ _ _=>False) e s'->False) :
  codeAny (model P w) callerA (.call (.ref fa) ⟨[.ref a],[]⟩) (λr s'=>r=.ok (.ret (.bool true))/\OldK aB.heap s'.heap/\s'.os=aB.os/\AllBare s'.gens) aB:=by
 have rv:=Hs hi;have kj:=hi.length;have core:∀H:Hp,Zq H->SqL K H a (ns.map V.int)->HOk P w H aB.heap->(∀b,H b≠none->b=a)->(H a≠none->K.lookup a=none) ->
   codeAny (model P w) callerA (.call (.ref fa) ⟨[.ref a],[]⟩) (λr s'=>r=.ok (.ret (.bool true))/\OldK aB.heap s'.heap/\s'.os=aB.os/\AllBare s'.gens) aB:=by
  intro H hO hS z9 hA hK;have dq:∀{b:Addr}{o:Obj},aB.heap.get? b=some o->H b=none->(PU aB.heap H).get? b=some o:=λe n=>PR e n
  have iN:∀{b:Addr}{o:Obj}{es:Array DictEntry}{ep:Nat},aB.heap.get? b=some o->o.data=.dict es ep->H b=none:=λ{b o es ep} e d=>by cases q:H b with|none=>rfl|some u =>have e':b=a:=hA b (by rw[q];simp);subst e';rw[ha]at e;cases e;have d':Data.seq vs.toArray _=Data.dict es ep:=d;cases d'
  have ju:∀{b:Addr}{m:Str->Option Value},aB.heap.Ns b m->(PU aB.heap H).Ns b m:=λ{b m} ⟨o,es,ep,e,d,r⟩=>⟨o,es,ep,dq e (iN e d),d,r⟩
  have kX:K.In (PU aB.heap H):=λb o e=>dq (KX b o e) (by cases q:H b with|none=>rfl|some u =>have e':b=a:=hA b (by rw[q];simp);subst e';rw[hK (by rw[q];simp)]at e;cases e)
  have hM:Mod K mg (PU aB.heap H):=⟨kX,ju lD,⟨mb,ju hb,nH⟩,let⟨mc,h1,h2⟩:=jX;⟨mc,ju h1,h2⟩⟩
  have e0:Vl P w K mg (PU aB.heap H) callerA [] aB H:=⟨rfl,hM,λb o e=>Tz e,Nat.le_of_eq (Na _ _),trivial,λb hb=>absurd (show b∈([]:List Addr)from hb) (by simp),z9,.of_eq hg⟩
  refine codeAny_mono ((F _ kX (ju lD)).run callerA [] aB H ⟨[.ref a],[]⟩ [.ref a] [.ref a] _ _ hr e0 (hV aB (.ref a)) (.cons rfl .nil) (eY H hO hS)) λr s' h=>?_
  cases r with
  |error e=>exact(g9 H e s' h).elim
  |ok fl =>
   cases fl with
   |next=>exact False.elim h
   |brk=>exact False.elim h
   |cont=>exact False.elim h
   |ret u =>
    obtain⟨v,H',os,bare,un,j6,r',q⟩:=h;have q':v=.v true:=q;subst q';obtain rfl:u=Value.bool true:=r';refine⟨rfl,OldK.of_keep λb o e=>?_,os,bare⟩;cases q:H b with
    |none=>exact un.keep b o e q (by intro z;exact absurd (show b∈([]:List Addr)from z) (by simp)) (by simp)
    |some u =>
     rcases hO b with z|⟨ob,xs,z⟩
     .rw[q]at z;cases z
     .have z2:=un.zX b ob _ z;obtain⟨e1,_⟩:=z9 b _ z;obtain⟨e2,_⟩:=j6 b _ z2;rw[e]at e1;cases e1;exact e2
 cases hk:K.lookup a with
 |some o =>have e:=KX a o hk;rw[ha]at e;cases e;refine core (λ_=>none) (λ_=>.inl rfl) (.inr ⟨_,vs.toArray,_,hk,rfl,rfl,rfl,by rw[qD,kj];exact hl,by simpa using rv⟩) (λb u z=>by have z':(none:Option HO)=some u:=z;cases z') (λb z=>absurd rfl z) λz=>absurd rfl z
 |none =>
  refine core (λb=>if b=a then some (.frz {cls:=.type "list",data:=.seq vs.toArray} (.lst (ns.map V.int)))else none) (λb=>?_) (.inl (.inr ⟨{cls:=.type "list",data:=.seq vs.toArray},if_pos rfl⟩)) (λb u z=>?_) (λb z=>?_) λ_=>hk
  .by_cases hb:b=a
   .exact .inr ⟨_,_,if_pos hb⟩
   .exact .inl (if_neg hb)
  .by_cases hb:b=a
   .have z':=(if_pos hb).symm.trans z;cases z';subst hb;exact⟨ha,by rw[qe];exact hl,vs,_,rv,ha⟩
   .have z':=(if_neg hb).symm.trans z;cases z'
  .by_cases hb:b=a
   .exact hb
   .exact absurd (if_neg hb) z
def inClass(s:Stmt)(j:Nat):Stmt:=match s with|.ClassDef _ _ _ body _ _ _ _ _ _ _=>body.getD j (.Pass ⟨0,0,0,0⟩)|_=>.Pass ⟨0,0,0,0⟩
def Fq(s:Stmt):Arguments:=match s with|.FunctionDef _ a _ _ _ _ _ _ _ _=>a|_=>{posonlyargs:=[],args:=[],vararg:=none,kwonlyargs:=[],kw_defaults:=[],kwarg:=none,defaults:=[]}
def DC(s:Stmt):List Stmt:=match s with|.FunctionDef _ _ b _ _ _ _ _ _ _=>b|_=>[]
def Bd(s:Stmt):Scope:=match s with|.FunctionDef _ _ _ _ _ _ sc _ _ _=>sc|_=>{kind:=.function,names:=[],isGenerator:=false,isCoroutine:=false}
abbrev E0:XK:=λ_ _ _=>False
structure Fun(K:Fg)(x qual:Str)(st:Stmt)(f:Addr)(fd:FuncData):Prop where
 ex:∃(oc:Value)(od:Option Addr)(kV cm pm:Value)(an:Option Addr)(cdv ct:Value)(gf:Array (Option Value)),
  fd=fnOf x qual (Fq st) (DC st) (Bd st) .none kV cm pm an cdv ct/\K.lookup f=some ⟨oc,od,.func fd,gf⟩/\codeIn K cdv qual=true
 kp:keepIn K (.ref f)=true
variable{P:Program}{w:World}{K:Fg}{mg:Str->Option Value}{base:Heap}
theorem Fun.binds{x qual:Str}{st:Stmt}{f:Addr}{fd:FuncData}{ps:List Str}(F:Fun K x qual st f fd)
  (h:∀(kV cm pm:Value)(an:Option Addr)(cdv ct:Value)(us:List Value),us.length=ps.length->bindArgs (fnOf x qual (Fq st) (DC st) (Bd st) .none kV cm pm an cdv ct) ⟨us,[]⟩=pure (ps.zip us)):Binds K fd ps []:=by
 obtain⟨oc,od,kV,cm,pm,an,cdv,ct,gf,rfl,lk,dD⟩:=F.ex;exact .all (h kV cm pm an cdv ct)
theorem RE{x qual:Str}{st:Stmt}{f:Addr}{oc:Value}{od an:Option Addr}{gf:Array (Option Value)}{kV cm pm cdv ct:Value}(l:K.lookup f=some ⟨oc,od,.func (fnOf x qual (Fq st) (DC st) (Bd st) .none kV cm pm an cdv ct),gf⟩)
  (c:codeIn K cdv qual=true) (k:keepIn K (.ref f)=true):Fun K x qual st f (fnOf x qual (Fq st) (DC st) (Bd st) .none kV cm pm an cdv ct):=⟨⟨oc,od,kV,cm,pm,an,cdv,ct,gf,rfl,l,c⟩,k⟩
theorem Ja5(hr:CL k A):A.units+1<cLine:=Nat.lt_of_le_of_lt (Nat.add_le_add_left (by decide:1<=64) _) hr.units
variable{X:Cx}
theorem pv(i:Nat)(hN:X.N[i]?=some x:=by rfl)(hv:Vis X.env.scope x:=by first|exact Or.inl rfl|exact Or.inr (Or.inl rfl)|exact Or.inr (Or.inr rfl))(hd:(x==("__debug__":Str))=false:=by decide)
  (dD:(x==("__classdict__":Str))=false:=by decide):PE X (.Name x pos) (Oh i):=WG hN hv hd dD
section
variable{κ:Type}[DecidableEq κ]
end
theorem DD:∀(l:List (Str×NameKind))(cs:List (Str×Addr)),(∀y∈l,y.2=.free->∃c,env.cells.lookup y.1=some c)->(∀n c,cs.lookup n=some c->env.cells.lookup n=some c) ->
  ∃cl,(forIn l cs λ(x:Str×NameKind)(r:List (Str×Addr))=>match x with|(name,kind)=>if(kind==NameKind.free)=true then do let c <- cellOf env name;pure (ForInStep.yield ((name,c)::r))else pure (ForInStep.yield r))=(pure cl:Sem _) /\
   (∀n c,cl.lookup n=some c->env.cells.lookup n=some c)/\(∀y∈l,y.2=.free->∃c,cl.lookup y.1=some c)/\(∀n c,cs.lookup n=some c->∃c',cl.lookup n=some c')
 | [],cs,_,h2=>⟨cs,rfl,h2,(λ_ h=>nomatch h),λn c h=>⟨c,h⟩⟩
 |(n,k)::r,cs,h1,h2=>by
  by_cases e:k=.free
  .subst e;obtain⟨c,hc⟩:=h1 (n,.free) qB rfl;have e1:cellOf env n=(pure c:Sem _):=by unfold cellOf;rw[hc]
   obtain⟨cl,q1,q2,q3,q4⟩:=DD r ((n,c)::cs) (λy hy=>h1 y (qf _ hy)) (λn' c' q=>by rw[qX]at q;cases hb:n'==n with|true=>rw[hb]at q;cases q;rw[beq_iff_eq.mp hb];exact hc|false=>rw[hb]at q;exact h2 _ _ q);have fW:=q4 n c (by simp);refine⟨cl,?_,q2,λy hy hf=>?_,λn' c' q=>?_⟩
   .rw[List.forIn_cons];simp only[e1];exact q1
   .rcases qA.mp hy with rfl|hy
    .exact fW
    .exact q3 y hy hf
   .by_cases hb:n'=n
    .subst hb;exact fW
    .exact q4 n' c' (by rwa[qX,beq_eq_false_iff_ne.mpr hb])
  .obtain⟨cl,q1,q2,q3,q4⟩:=DD r cs (λy hy=>h1 y (qf _ hy)) h2;refine⟨cl,?_,q2,λy hy hf=>?_,q4⟩
   .rw[List.forIn_cons];have hb:(k==NameKind.free)=false:=by simpa using e
    simp only[hb,pure_bind];exact q1
   .rcases qA.mp hy with rfl|hy
    .exact absurd hf e
    .exact q3 y hy hf
theorem D1(h:∀y∈sc.names,y.2=.free->∃c,env.cells.lookup y.1=some c):
  ∃cl,closureFor sc env=pure cl/\(∀n c,cl.lookup n=some c->env.cells.lookup n=some c)/\(∀y∈sc.names,y.2=.free->∃c,cl.lookup y.1=some c):=by
 obtain⟨cl,q1,q2,q3,_⟩:=DD sc.names [] h (λn c q=>by simp at q);refine⟨cl,?_,q2,q3⟩;unfold closureFor;simp only[bind_pure];refine Eq.trans ?_ q1;congr 1
variable{prog:Program}{A:Around}{R:Result->Shared->Prop}{s:Shared}
theorem ID(I:Nat->Shared->Prop)
  (turn:∀n s,I n s->wpAny (model prog w) A (pyNext it) (λr aB=>match r with
   |none=>R (.ok .next) aB
   |some v=>wpAny (model prog w) A (letOwnedTupleGo target it v) (λ_ aB=>wpAny (model prog w) A (assign target env v) (λ_ cf =>
     wpAny (model prog w) A (forIn bA true λc r=>if r=true then do let ok <- isTrue c env (eval c env);pure (ForInStep.yield ok)else pure (ForInStep.yield r)) (λok bg =>
      if ok=true then wpAny (model prog w) A (eval bL env) (λx fJ =>wpAny (model prog w) A (call (.builtin "list.append") [av,x]) (λ_ iU=>∃m,m<n/\I m iU) (λ_ _=>False) fJ) (λ_ _=>False) bg
      else ∃m,m<n/\I m bg) (λ_ _=>False) cf) (λ_ _=>False) aB) (λ_ _=>False) aB) (λ_ _=>False) s)
  (n:Nat) (h:I n s) :
  codeAny (model prog w) A (.compLoop (.ListComp bL [⟨target,aC,bA,0⟩] scope pos) 0 it av env) R s:=by
 refine codeAny_loop rfl I (λn s hI=>?_) n h;refine wpAny_noted ?_;refine p9 (wpAny_standAt (p9 (wpAny_mono (turn n s hI) (λr aB aJ=>?_) λ_ _ h'=>h'.elim)));cases r with|none=>exact qg aJ|some v =>refine p9 (wpAny_mono aJ (λ_ mG iF=>?_) λ_ _ h'=>h'.elim);refine p9 (wpAny_mono iF (λ_ cf b7=>p9 (wpAny_mono b7 (λok bg dM=>?_) λ_ _ h'=>h'.elim)) λ_ _ h'=>h'.elim);cases ok with|false=>exact qg ⟨rfl,dM⟩|true =>exact p9 (p9 (wpAny_mono dM (λx fJ kh=>p9 (wpAny_mono kh (λ_ iU ki=>qg (qg ⟨rfl,ki⟩)) λ_ _ h'=>h'.elim)) λ_ _ h'=>h'.elim))
structure KY(fn sc:Scope):Prop where
 kind:sc.kind=.function
 yW:∀y∈sc.names,y.2≠.cell
 loc:∀y∈sc.names,y.2=.local->sc.names.lookup y.1=some .local
 fr:∀y∈sc.names,y.2=.free->fn.names.lookup y.1=some .cell\/fn.names.lookup y.1=some .free
def Ew(fn sc:Scope):Bool :=
 decide (sc.kind=.function)&&sc.names.all λy=>decide (y.2≠.cell)&&(decide (y.2≠.local)||decide (sc.names.lookup y.1=some .local)) &&
  (decide (y.2≠.free)||decide (fn.names.lookup y.1=some .cell)||decide (fn.names.lookup y.1=some .free))
theorem IC(h:Ew fn sc=true):KY fn sc:=by
 unfold Ew at h;rw[qE,qZ]at h;obtain⟨h1,h2⟩:=h;refine⟨qG h1,λy hy=>?_,λy hy e=>?_,λy hy e=>?_⟩
 all_goals
  have q:=h2 y hy;rw[qE,qE]at q;obtain⟨⟨q1,q2⟩,q3⟩:=q
 .exact qG q1
 .rw[sg]at q2;rcases q2 with q|q
  .exact absurd e (qG q)
  .exact qG q
 .rw[sg,sg]at q3;rcases q3 with(q|q)|q
  .exact absurd e (qG q)
  .exact .inl (qG q)
  .exact .inr (qG q)
theorem Ce{env:Env}:∀{names:List (Str×NameKind)},
  (names.map λ(n,k)=>if(k==NameKind.free&&env.scope.kind==.function&&env.kindOf n==some .cell)then(n,NameKind.cell)else(n,k)).lookup x=some k'->∃k,names.lookup x=some k/\(k'=k\/(k=.free/\k'=.cell))
 | [],h=>by simp at h
 |(n,k)::r,h=>by
  have h:List.lookup x ((if(k==NameKind.free&&env.scope.kind==.function&&env.kindOf n==some .cell)=true then(n,NameKind.cell)else(n,k))::_)=some k':=h;cases hx:x==n with
  |true =>
   refine⟨k,by simp[qX,hx],?_⟩;by_cases hc:(k==NameKind.free&&env.scope.kind==.function&&env.kindOf n==some .cell)=true
   .rw[if_pos hc]at h;simp only[qX,hx]at h;cases h;rw[qE,qE]at hc;exact .inr ⟨beq_iff_eq.mp hc.1.1,rfl⟩
   .rw[if_neg hc]at h;simp only[qX,hx]at h;cases h;exact .inl rfl
  |false =>
   obtain⟨k0,e1,e2⟩:=Ce (by
    by_cases hc:(k==NameKind.free&&env.scope.kind==.function&&env.kindOf n==some .cell)=true
    .rw[if_pos hc]at h;simpa only[qX,hx]using h
    .rw[if_neg hc]at h;simpa only[qX,hx]using h)
   exact⟨k0,by simp only[qX,hx];exact e1,e2⟩
def Bg(X:Cx)(N:List Str)(sc:Scope)(cl:List (Str×Addr))(C:Addr)(s:Shared)(H:Hp)(ex:List Addr):Cx :=
 {X with N:=N,z6:=s,zo:=H,env:=compEnvC sc cl C X.env,outer:=X.stack,stack:=X.stack,ex:=ex,fn:=λ_=>false,xe:=λ_ _=>False}
def DG(XN:List Str)(sc:Scope):List Str->List (Option Nat)->Bool
 | [],[]=>true
 |n::r,none::q=>DG XN sc r q
 |n::r,some i::q=>decide (XN[i]?=some n)&&decide (sc.names.lookup n=some .free)&&DG XN sc r q
 |_,_=>false
def EE(σ:St)(src:List (Option Nat)):St:=src.map λo=>o.bind λi=>(σ[i]?).join
theorem Fw:∀{N:List Str}{src:List (Option Nat)},DG XN sc N src=true->src.length=N.length
 | [],[],_=>rfl
 |_::r,none::q,h=>by rw[qL,qL,Fw (src:=q) h]
 |_::r,some i::q,h=>by unfold DG at h;rw[qE]at h;rw[qL,qL,Fw h.2]
 | [],_::_,h=>by cases h
 |_::_,[],h=>by cases h
theorem IG:∀{N:List Str}{src:List (Option Nat)}{j i:Nat}{n:Str},DG XN sc N src=true->N[j]?=some n->src[j]?=some (some i)->XN[i]?=some n/\sc.names.lookup n=some .free
 | [],_,j,i,n,_,h1,_=>by simp at h1
 |_::_,[],j,i,n,_,_,h2=>by simp at h2
 |n0::r,o::q,0,i,n,h,h1,h2=>by simp at h1 h2;subst h1;subst h2;unfold DG at h;rw[qE,qE]at h;exact⟨qG h.1.1,qG h.1.2⟩
 |n0::r,o::q,j+1,i,n,h,h1,h2=>by refine IG ?_ (by simpa using h1) (by simpa using h2);cases o with|none=>exact h|some k =>unfold DG at h;rw[qE]at h;exact h.2
variable{aa:List (Addr×Obj)}{σ:St}{H:Hp}{fp:List Addr}{N:List Str}{sc:Scope}{cl:List (Str×Addr)}{C:Addr}{src:List (Option Nat)}
theorem Y5(I:Inv X aa σ H s)(hf:∀b∈fp,I0 X aa H b)(gu:∀b∈fp,b<s.heap.objs.size)(hS:KY X.env.scope sc)(hC:s.heap.objs.size<=C)
  (cI:∀n c,cl.lookup n=some c->X.env.cells.lookup n=some c) (cz:∀y∈sc.names,y.2=.free->∃c,cl.lookup y.1=some c):(Bg X N sc cl C s H fp).Ok where
 mod:=I.ok.mod
 kind:=hS.kind
 glob:=I.ok.glob
 blt:=I.ok.blt
 above:=hC
 inj:=λx y c h1 h2=>I.ok.inj x y c (cI _ _ h1) (cI _ _ h2)
 has:=λx hx=>by
  have free:∀k',(k'=NameKind.cell\/k'=NameKind.free)->(relabel sc X.env).names.lookup x=some k'->∃c,cl.lookup x=some c:=λk' hk e=>by
   obtain⟨k,e1,e2⟩:=Ce e;have hm:=PySem.mem_of_lookup e1;exact cz _ hm (by
    rcases e2 with e2|⟨e2,_⟩
    .subst e2;rcases hk with hk|hk
     .exact absurd hk (hS.yW _ hm)
     .exact hk
    .exact e2)
  rcases hx with hx|hx
  .exact free _ (.inl rfl) hx
  .exact free _ (.inr rfl) hx
 zb:=λx c h _=>absurd (show false=true from h) qN
 hd:=I.ok.hd
 frames:=I.ok.frames
 yV:=.inl rfl
 yS:=λb hb=>⟨qI (qC (gu b hb) hC),λx c e=>(hf b hb).2.2.2.2.1 x c (cI x c e)⟩
 bs:=I.bs
 zw:=qF I.ok.zw I.sz
 zu:=λb o e hb=>by
  rcases(hf b hb).2.2.2.1 with z|z
  .exact I.ok.zu b o e z
  .exact absurd (qC (qp e) (qF I.ok.zw z)) (rd _)
 zv:=λb hb hz=>by
  rcases qA.mp (I.Hy b hz)with z|z
  .exact(hf b hb).2.1 z
  .exact(hf b hb).2.2.1 z
 Kr:=I.stack
 zg:=I.Je
theorem Vf(I:Inv X aa σ H s)(hf:∀b∈fp,I0 X aa H b)(gu:∀b∈fp,b<s.heap.objs.size)(hS:KY X.env.scope sc)
  (cI:∀n c,cl.lookup n=some c->X.env.cells.lookup n=some c) (cz:∀y∈sc.names,y.2=.free->∃c,cl.lookup y.1=some c) (aV:DG X.N sc N src=true)
  (hD:s.heap.objs.size<=D) (hC:s.heap.objs.size<=C) (ja:D≠C) (hk:∀b o,s.heap.get? b=some o->h'.get? b=some o) (hn:h'.Ns C m) (hl:h'.get? D=some {cls:=.type "list",data:=.seq (#[]:Array Value)}) :
  Inv (Bg X N sc cl C s H fp) aa (EE σ src) (upd H D (.lst [])) {s with heap:=h',toks:=tk}:=by
 have old:∀{b:Addr}{o:Obj},s.heap.get? b=some o->b≠D/\b≠C:=λ{b o} e=>⟨qI (qC (qp e) hD),qI (qC (qp e) hC)⟩
 refine⟨Y5 I hf gu hS hC cI cz,rfl,I.bare,Un.laid hk hD (I.z9.fresh hD),⟨m,hn,λj x v e1 e2 e3=>?_⟩,λx c e=>?_,?_,λx c e=>?_,λp hp=>?_,I.z9.laid hk hD ⟨sM _,[],0,.nil,hl⟩,?_⟩
 .unfold EE at e2;rw[qH]at e2;cases q:src[j]? with
  |none=>rw[q]at e2;cases e2
  |some o =>
   rw[q]at e2;cases o with
   |none=>cases e2
   |some i =>
    have g5:(σ[i]?).join=some v:=Option.some.inj e2;obtain⟨g1,g2⟩:=IG aV e1 q;obtain⟨m0,_,nY⟩:=I.loc;have fS:=hS.fr _ (PySem.mem_of_lookup g2) rfl;obtain⟨u,ru,lk⟩:=nY i x v g1 (by cases r:σ[i]? with|none=>rw[r]at g5;cases g5|some u=>rw[r]at g5;cases u with|none=>cases g5|some u=>have e5:=g5;cases e5;rfl) (fS.elim (λz=>.inr (.inl z)) λz=>.inr (.inr z));refine⟨u,ru,.inr ⟨?_,?_⟩⟩
    .rcases e3 with e3|e3|e3
     .obtain⟨k,r1,r2⟩:=Ce (show(relabel sc X.env).names.lookup x=some .local from e3);rw[g2]at r1;cases r1;rcases r2 with r2|⟨_,r2⟩<;>cases r2
     .exact .inl e3
     .exact .inr e3
    .obtain⟨c,hc⟩:=cz _ (PySem.mem_of_lookup g2) rfl;refine⟨c,hc,?_⟩;rcases lk with⟨lk,_⟩|⟨_,c',jd,z⟩
     .rcases fS with z|z
      .have z':X.env.kindOf x=some .cell:=z;rw[lk]at z';cases z'
      .have z':X.env.kindOf x=some .free:=z;rw[lk]at z';cases z'
     .have:=cI _ _ hc;rw[jd]at this;cases this;obtain⟨o,ho,hd⟩:=z;exact⟨o,hk _ _ ho,hd⟩
 .obtain⟨v,o,ho,hd⟩:=I.cell x c (cI x c e);exact⟨v,o,hk _ _ ho,hd⟩
 .show upd H D (.lst []) C=none;rw[Aj (Ne.symm ja)];exact(I.z9.fresh hC)
 .obtain⟨v,o,ho,hd⟩:=I.cell x c (cI x c e);rw[Aj (old ho).1];exact I.zZ x c (cI x c e)
 .obtain⟨p1,p2,p3,p4,p5⟩:=I.pin p hp;refine⟨hk _ _ p1,by rw[Aj (old p1).1];exact p2,(old p1).2,λz=>?_,p5⟩;rcases qA.mp (I.Hy _ z)with z|z
  .exact p3 z
  .exact p4 z
 .show(EE σ src).length=N.length;unfold EE;rw[qe];exact Fw aV
def R7(X:Cx)(bA:List Expr)(t:TT):Prop :=
 ∀(aa:List (Addr×Obj))(s:Shared)(σ:St)(H:Hp)(Q:Bool->Hp->Prop),Inv X aa σ H s->t σ H Q ->
  wpAny (model X.prog X.w) X.A (forIn bA true λc r=>if r=true then do let ok <- isTrue c X.env (eval c X.env);pure (ForInStep.yield ok)else pure (ForInStep.yield r)) (TP X aa σ Q) X.xe s
def tYes:TT:=λ_ H Q=>Q true H
theorem O8:R7 X [] tYes:=λaa s σ H Q I h=>qg ⟨H,I,h⟩
theorem O7(h:PT X c t):R7 X [c] t:=by intro aa s σ H Q I q;rw[List.forIn_cons];refine p9 (p9 (thn (h aa s σ H Q I q) λb s1 q1=>qg ?_));exact qg q1
def YV(J:It)(g:TG)(tt:TT)(te:TE)(Q:VK)(kH:St)(H1:Hp):Prop:=∀D,H1 D=none ->
 ∃W:Nat->Nat->St->Hp->Prop,(∃m,W 0 m kH (upd H1 D (.lst [])))/\∀i m τ H2,W i m τ H2 ->
  (J.stop i H2/\Q (.ref D) H2)\/(J.go i H2/\∃N:St->Hp->Prop,(∀jC H',N jC H'->∃m',m'<m/\W (i+1) m' jC H')/\∀x H3,J.yQ i H2 x H3->g x τ H3 λcj H4=>tt cj H4 λb H5 =>if b=true then te cj H5 λy H6=>∃ys,H6 D=some (.lst ys)/\ys.length<sizeLine/\N cj (upd H6 D (.lst (ys++[y])))else N cj H5)
def Sv(src:List (Option Nat))(wi:TI)(g:TG)(tt:TT)(te:TE):TE:=λσ H Q=>wi σ H λJ H1=>YV J g tt te Q (EE σ src) H1
variable{tg aC bL:Expr}{bA:List Expr}{pos:Pos}{wi:TI}{g:TG}{tt:TT}{te:TE}
theorem KC(aN:X.calm=true)(hS:KY X.env.scope sc)(aV:DG X.N sc N src=true)
  (hg:∀cl C s H fp,PG (Bg X N sc cl C s H fp) tg g) (ht:∀cl C s H fp,R7 (Bg X N sc cl C s H fp) bA tt) (he:∀cl C s H fp,PE (Bg X N sc cl C s H fp) bL te)
  {RR:Value->Addr->Result->Shared->Prop}
  (cI:∀n c,cl.lookup n=some c->X.env.cells.lookup n=some c) (cz:∀y∈sc.names,y.2=.free->∃c,cl.lookup y.1=some c)
  (I:Inv X aa σ H s) (T:Turn X.prog X.w X.K tg J fp it tn) (t0:tn 0 s.heap) (hf:∀b∈fp,I0 X aa H b) (hw:YV J g tt te Q (EE σ src) H)
  (hR:∀(D C:Addr)(s':Shared)(τ:St)(H':Hp)(m:Str->Option Value),s.heap.objs.size<=C->s'.heap.Ns C m->Inv (Bg X N sc cl C s H fp) aa τ H' s'->(∀b∈fp,H' b=none)->Q (.ref D) H'->RR (.ref D) C (.ok .next) s') :
  wpAny (model X.prog X.w) X.A (newList []) (λav bg=>wpAny (model X.prog X.w) X.A (newFunctionEnv sc X.env.globals cl [] X.env.qual none .none (some X.env)) (λgZ fJ =>codeAny (model X.prog X.w) X.A (.compStart (.ListComp bL [⟨tg,aC,bA,0⟩] sc pos) 0 (.ref it) av {gZ with scope:=relabel sc X.env}) (RR av gZ.locals) fJ) E bg) E s:=by
 have gu:∀b∈fp,b<s.heap.objs.size:=λb hb=>by obtain⟨o,e,_⟩:=T.obj 0 _ t0 b hb;exact qp e
 refine wpAny_newObj_type (wpAny_newFunctionEnv hS.yW (by intro y hy;simp at hy) (λaJ eG cN=>?_) hS.kind);generalize hH2:s.heap.push {cls:=.type "list",dict:=none,data:=.seq ([]:List Value).toArray}=H2 at eG cN ⊢;have hC:H2.objs.size=s.heap.objs.size+1:=by rw[<- hH2,rG]
 have ja:s.heap.objs.size≠H2.objs.size:=by rw[hC];exact qI (tf _)
 have fg:s.heap.objs.size<=H2.objs.size:=by rw[hC];exact Nat.le_succ _
 have old:=λb o e=>cN.extBut b o (qI (qC (qp e) fg)) (qa _ (hH2▸qa _ e))
 obtain⟨W,⟨m0,w0⟩,turn⟩:=hw s.heap.objs.size (I.z9.fresh (qz _));have Y0:Inv (Bg X N sc cl H2.objs.size s H fp) aa (EE σ src) (upd H s.heap.objs.size (.lst [])) {s with heap:=aJ,toks:=s.toks+([]:List (Str×Value)).length} :=
  Vf I hf gu hS cI cz aV (qz _) fg ja old eG (cN.extBut _ _ ja (qa _ (hH2▸qo _ rfl)))
 have t1:tn 0 aJ:=T.keep 0 _ _ t0 λb _ o e=>old b o e
 have dh:∀{H':Hp},(∀b∈fp,H' b=none)->∀b∈fp,I0 (Bg X N sc cl H2.objs.size s H fp) aa H' b:=λ{H'} hn b hb =>⟨hn b hb,qI (qC (gu b hb) fg),Y0.ok.zv b hb,.inl hb,(Y0.ok.yS b hb).2,(hf b hb).2.2.2.2.2⟩
 have loop:∀bg:Shared,bg={s with heap:=aJ,toks:=s.toks+([]:List (Str×Value)).length} ->
   codeAny (model X.prog X.w) X.A (.compLoop (.ListComp bL [⟨tg,aC,bA,0⟩] sc pos) 0 (.ref it) (.ref s.heap.objs.size) (compEnvC sc cl H2.objs.size X.env)) (RR (.ref s.heap.objs.size) H2.objs.size) bg:=by
  rintro bg rfl
  refine ID (λn s'=>∃i τ H',Inv (Bg X N sc cl H2.objs.size s H fp) aa τ H' s'/\tn i s'.heap/\(∀b∈fp,H' b=none)/\W i n τ H') ?_ m0 ⟨0,_,_,Y0,t1,(λb hb=>by
  rw[Aj (qI (gu b hb))];exact(hf b hb).1),w0⟩
  rintro n s4 ⟨i,τ,H4,I4,t4,fr4,w4⟩
  rcases turn i n τ H4 w4 with⟨stop,qn⟩|⟨go,Nx,hNx,step⟩
  .refine thn (T.done (Bg X N sc cl H2.objs.size s H fp) rfl rfl rfl aN i aa s4 τ H4 _ I4 (dh fr4) t4 stop) λr s5 ⟨hr,I5⟩=>?_
   subst hr;obtain⟨m5,n9,_⟩:=I5.loc;exact hR _ _ s5 τ H4 m5 fg n9 I5 fr4 qn
  .refine thn (T.item (Bg X N sc cl H2.objs.size s H fp) rfl rfl rfl aN i aa s4 τ H4 _ I4 (dh fr4) t4 go) λr s5 ⟨u,hr,h5⟩=>?_
   subst hr;refine thn h5 λ_ s6 ao=>?_
   obtain⟨x,H6,I6,r6,y6,kF,m8⟩:= ao;have again:∀{fN:St}{H7:Hp}{s7:Shared}{m':Nat},Inv (Bg X N sc cl H2.objs.size s H fp) (aa++HM fp s6.heap) fN H7 s7->m'<n->W (i+1) m' fN H7 ->
     ∃m,m<n/\∃i τ H',Inv (Bg X N sc cl H2.objs.size s H fp) aa τ H' s7/\tn i s7.heap/\(∀b∈fp,H' b=none)/\W i m τ H':=λ{fN H7 s7 m'} I7 hm w7=>by
    refine⟨m',hm,i+1,fN,H7,I7.EF,T.keep _ _ _ kF λb hb o e=>(I7.pin (b,o) (qt _ (qt _ (Dg hb e)))).1,λb hb=>?_,w7⟩;obtain⟨o,e,d⟩:=T.obj _ _ kF b hb;exact(I7.pin (b,o) (qt _ (qt _ (Dg hb e)))).2.1
   refine thn (hg cl H2.objs.size s H fp _ s6 τ H6 x u _ (I6.pinned (dh m8) (T.obj _ _ kF)) r6 (step x H6 y6)) λ_ s7 ao=>?_
   obtain⟨fN,H7,I7,q7⟩:= ao;refine thn (ht cl H2.objs.size s H fp _ s7 fN H7 _ I7 q7) λb s8 ao=>?_
   obtain⟨H8,I8,q8⟩:= ao;cases b with
   |false =>obtain⟨m',hm,w8⟩:=hNx _ _ q8;exact again I8 hm w8
   |true =>
    refine thn (he cl H2.objs.size s H fp _ s8 fN H8 _ I8 q8) λv s9 ao=>?_
    obtain⟨y,H9,I9,r9,ys,ny,hz,w9⟩:= ao;obtain⟨m',hm,w9⟩:=hNx _ _ w9;refine thn (HY _ s9 fN H9 (.ref s.heap.objs.size) [y] (.ref s.heap.objs.size) [v] (λ_ Hn=>W (i+1) m' fN Hn) I9 rfl (.cons r9 .nil) ⟨_,ys,y,rfl,rfl,ny,hz,w9⟩) λ_ pZ ao=>?_
    obtain⟨_,pC,mP,_,pw⟩:= ao;exact again mP hm pw
 exact codeAny_compStart_list (loop _ rfl) (T.self X.A 0 _ _ _ t1 (loop _ rfl))
theorem N5(I:Inv X aa σ H s)(hf:∀b∈fp,I0 X aa H b)(J:Inv (Bg X N sc cl C s H fp) aa τ H' s'):Inv X aa σ H' s' :=
 I.Y4 J.os J.base J.z9 J.bare λb hb=>⟨(hf b hb).2.2.2.1,(hf b hb).2.1,(hf b hb).2.2.2.2.1,(hf b hb).2.2.2.2.2⟩
theorem Ve(I:Inv X aa σ H s)(hC:s.heap.objs.size<=C)(hf:∀b∈fp,I0 X aa H b)
  (J:Inv (Bg X N sc cl C s H fp) aa τ H' s') (hs:Heap.SameBut C s'.heap h'):Inv X aa σ H' {s' with heap:=h' }:=by
 refine(N5 I hf J).turned (λb o hb e=>hs.extBut b o hb e) J.free (sR (qC I.lt hC)) (.inr (qF I.sz hC)) (λx c e z=>?_) λp hp z=>?_
 .obtain⟨v,q⟩:=I.cell x c e;exact absurd (qC q.lt (by rwa[z])) (rd _)
 .exact absurd (qC (qp (I.pin p hp).1) (by rwa[z])) (rd _)
theorem Tb(N:List Str)(src:List (Option Nat))(aN:X.calm=true)(hi:PI X tg aC wi)(hg:∀cl C s H fp,PG (Bg X N sc cl C s H fp) tg g)(ht:∀cl C s H fp,R7 (Bg X N sc cl C s H fp) bA tt)
  (he:∀cl C s H fp,PE (Bg X N sc cl C s H fp) bL te) (hS:Ew X.env.scope sc=true:=by rfl) (aV:DG X.N sc N src=true:=by rfl)
  (hs:∀x,foldedSetIterable aC X.env x=pure x:=by intro _;rfl):PE X (.ListComp bL [⟨tg,aC,bA,0⟩] sc pos) (Sv src wi g tt te):=by
 intro aa s σ H Q I h;have S:=IC hS;obtain⟨cl,jP,cI,cz⟩:=D1 λy hy e=>I.ok.has y.1 (S.fr y hy e)
 refine wpAny_comprehension_free rfl hs jP S.kind S.loc (thn (hi aa s σ H _ I h) λv s1 h1=>thn h1 λjn s2 h2=>?_);obtain⟨it,fp,tn,J,H2,e,I2,T,t2,f2,hw⟩:=h2;subst e;refine KC aN S aV hg ht he cI cz I2 T t2 f2 hw λD C s' τ H' m hC hn J' _ q=>?_
 exact⟨m,hn,λh' bj=>⟨.ref D,H',Ve I2 hC f2 J' bj,rfl,q⟩⟩
theorem Lf{i:Nat}{y:Str}{aR de:Pos}(N:List Str)(src:List (Option Nat))(aN:X.calm=true)(hN:X.N.Nodup)(ia:X.N[i]?=some y)(hy:Loc X.env.scope y)(hi:PI X tg aC wi)(hg:∀cl C s H fp,PG (Bg X N sc cl C s H fp) tg g)(ht:∀cl C s H fp,R7 (Bg X N sc cl C s H fp) bA tt)
  (he:∀cl C s H fp,PE (Bg X N sc cl C s H fp) bL te) (hS:Ew X.env.scope sc=true:=by rfl) (aV:DG X.N sc N src=true:=by rfl)
  (hs:∀x,foldedSetIterable aC X.env x=pure x:=by intro _;rfl) (iy:swapsWith (.ListComp bL [⟨tg,aC,bA,0⟩] sc pos) (some (.Name y aR)) de.line X.env=pure true:=by rfl)
  (hf:X.fn y=true\/X.env.scope.names.lookup y=some .local:=by first|exact .inl rfl|exact .inr rfl|assumption) :
  PS X (.Assign [.Name y aR] (.ListComp bL [⟨tg,aC,bA,0⟩] sc pos) de) (V3 (Sv src wi g tt te) (Qc i)):=by
 intro aa s σ H D0 I h;have S:=IC hS;obtain⟨cl,jP,cI,cz⟩:=D1 (sc:=sc) (env:=X.env) λy hy e=>I.ok.has y.1 (S.fr y hy e)
 rw[exec_Assign_Name_used _ _ _ _ iy];refine p9 (wpAny_standAt (p9 ?_));refine p9 (wpAny_mono (wpAny_comprehension_free (use:=some (assign (.Name y aR) X.env)) (Q:=λ_ s'=>SP X aa D0 .next s') rfl hs jP S.kind S.loc
  (thn (hi aa s σ H _ I h) λv s1 h1=>thn h1 λjn s2 h2=>?_)) (λ_ s' hq=>qg (qg hq)) λ_ _ e=>e)
 obtain⟨it,fp,tn,J,H2,e,I2,T,t2,f2,hw⟩:=h2;subst e;refine KC aN S aV hg ht he cI cz I2 T t2 f2 hw (RR:=λav C=>compPost (model X.prog X.w) X.A X.xe (some (assign (.Name y aR) X.env)) (λ_ s'=>SP X aa D0 .next s') av C) λD C s' τ H' m hC hn J' _ q=>?_
 have lX:∀{b:Addr}{o:Obj},s2.heap.get? b=some o->b≠C:=λe=>qI (qC (qp e) hC)
 have cC:∀x c,X.env.cells.lookup x=some c->c≠C:=λx c e=>by obtain⟨v,o,ho,_⟩:=I2.cell x c e;exact lX ho
 have lC:X.env.locals≠C:=qI (qC I2.lt hC);refine wpAny_assign_Name (Hx (N5 I2 f2 J') hN ia hy (v:=.ref D) rfl (λs3 I3 ao=>?_) hf);obtain⟨a,sb,ha⟩:= ao;refine⟨m,hn.sameBut sb (by
  rcases ha with rfl|ha
  .exact Ne.symm lC
  .exact Ne.symm (cC _ _ ha)),λh' iq=>⟨_,H',I3.turned (it:=C) (t':=s3.toks) (λb o hb e=>iq.extBut b o hb e) J'.free (Ne.symm lC) (.inr (qF I2.sz hC)) cC (λp hp z=>lX (I2.pin p hp).1 z),q⟩⟩
variable{a:Addr}{xs:List V}{Q:VK}{kH:St}{H1:Hp}
end Lake.L2
namespace PySem
namespace F
end F
variable{prog:Program}{w:World}{A:Around}{s:Shared}{R:Result->Shared->Prop}
variable{I:Addr}{fp wr:List Addr}{G:Array GenState->Array GenState->Prop}{n:Nat}{P:Nat->Value->Prop}{St:Nat->Shared->Prop}
variable{E:Value->Shared->Prop}
end PySem
namespace Lake.L2
open PySem PySem.Spec PyProof.Rows
variable{X:Cx}{aa:List (Addr×Obj)}{σ:St}{H:Hp}{s:Shared}
theorem OB(r:Vals ys aq)(h:ItemsOf (λi v=>aq.toArray[aq.toArray.size-1-i]?=some v) av aq.toArray.size):Vals ys.reverse av.toList:=by
 have e:av.toList=aq.reverse:=by
  apply List.ext_getElem?;intro i;obtain⟨h1,h2⟩:=h;have hs:aq.toArray.size=aq.length:=by simp
  by_cases hi:i<aq.length
  .have ha:av[i]?=some (av[i]'(by lia)):=by simp
   rw[List.getElem?_reverse (by lia)];have q':=by simpa using (h2 i _ ha)
   rw[q'];simp
  .rw[rN (by simp;lia),rN (by simp;lia)]
 rw[e];exact r.reverse
variable{a:Expr}{ta:TE}{p1 p2 cX aX:Pos}
theorem QH(hc:X.calm=true):B6 X (.builtin "sum") (λxs H Q=>∃(l:Addr)(ns:List Int),xs=[.ref l]/\SqL X.K H l (ns.map V.int)/\Q (.int ns.sum) H):=by
 intro aa s σ H xs us Q I r h;obtain⟨l,ns,rfl,hq,q⟩:=h;obtain⟨u,rfl,rx⟩:=vals1 r;cases rx;obtain⟨aq,rv,pl,hz⟩:=I.list hq;have hi:=intsAre_of rv;obtain⟨zs,hx⟩:=hi.allInts.items;refine sum_intListG (I.ok.hd hc) (hx▸pl.isList) λh' tk t' hk=>?_
 have e1:ns=zs.toList.map (·.1):=by rw[<- nums_intItems,<- hx];exact(show numsOf aq.toArray.toList=ns from hi.numsOf).symm
 have e2:preSum (numAt zs) zs.size=ns.sum:=by rw[preSum_eq,rY (by simp),e1]
 rw[e2];exact⟨.int ns.sum,H,I.kept hk,⟨_,rfl⟩,q⟩
theorem B4:∀{bs:List Bool}{us:List Value},Vals (bs.map V.v) us->us=bs.map Value.bool
 | [],_,.nil=>rfl
 |b::bs,_,.cons r t=>by cases(show _=Value.bool b from r);rw[qi,B4 t]
theorem QK(hc:X.calm=true):B6 X (.builtin "all") (λxs H Q=>∃(l:Addr)(bs:List Bool),xs=[.ref l]/\SqL X.K H l (bs.map V.v)/\Q (.v (bs.all id)) H):=by
 intro aa s σ H xs us Q I r h;obtain⟨l,bs,rfl,hq,q⟩:=h;obtain⟨u,rfl,rx⟩:=vals1 r;cases rx;obtain⟨aq,rv,pl,hz⟩:=I.list hq;have hb:=B4 rv;have hl:=pl.isList;refine call_all_walk (wpAny_pyIter_list hl ?_);refine⟨s.heap.objs.size,[s.heap.objs.size,l],[s.heap.objs.size],aq.toArray.size,_,_,λi=>(bs[i]?).getD true,rfl,Walks.list (A:=X.A.in1) (I.ok.hd hc) _ l (qI (by obtain⟨_,e,_⟩:=hl;exact qp e)) aq.toArray,
  ⟨⟨_,qo _ rfl,rfl,rfl⟩,hl.push _⟩,λi v s' Q' E' hP hQ=>?_,λh' tk hk=>?_⟩
 .have e:=by simpa using hP
  rw[hb,qH]at e;cases eb:bs[i]? with|none=>rw[eb]at e;cases e|some b =>rw[eb]at e;have e':=Option.some.inj e;subst e';simp only[eb]at hQ;exact wpAny_truthy_bool hQ
 .have e:((List.range aq.toArray.size).all λi=>(bs[i]?).getD true)=bs.all id:=by
   have hlen:aq.toArray.size=bs.length:=by rw[hb];simp
   rw[hlen];rw[rp,qZ,qZ];constructor
   .intro hh b hm;obtain⟨i,hi,rfl⟩:=sC hm;have:=hh i (rX.mpr hi);simpa[qb hi]using this
   .intro hh i hi;have dE:=rX.mp hi;have:=hh _ (su dE);simpa[qb dE]using this
  rw[e];exact⟨.v _,H,I.kept (λb o e=>hk b o (λhm=>by rw[qj.mp hm]at e;exact rd _ (qp e)) (qa _ e)),rfl,q⟩
theorem Th:OpR X (binaryOp .Mult) (rI IntMulOk λi j=>.int (i*j)):=opI λ_ _ _ _ _ _ _ hc q=>mul_int q hc
theorem ME:OpR X (binaryOp .Mult) (λx y H Q=>∃z n,x=.str z/\y=.int n/\MulOk z n/\Q (.str (Txt.mul z n)) H):=by intro aa s σ H x y v u Q I rx ry h;obtain⟨z,n,rfl,rfl,z9,q⟩:=h;obtain⟨t,rfl⟩:=rx;obtain⟨t',rfl⟩:=ry;exact SB.mul z9 λt' k=>⟨.str _,H,I.tok _,⟨_,rfl⟩,q⟩
variable{tg:Expr}
def Its(z:Str):It:=⟨λi _=>i<z.cps.size,λi H x H'=>H'=H/\∃c,z.cps[i]?=some c/\x=.str ⟨#[c]⟩,λi _=>z.cps.size<=i⟩
theorem XR(hQ:Q () s):wpAny M A (letOwnedTupleGo tg it (.str x t)) Q E s:=by
 cases tg<;>first
  |exact qg hQ
  |(cases it<;>exact qg hQ)
theorem OF{K:Fg}(it:Addr)(ty:String)(z:Str)(t:Tok)(eO:ty="str_ascii_iterator"\/ty="str_iterator"):Turn P w K tg (Its z) [it] it (λi h=>h.IsStrIter it ty z t i) where
 mem:=by simp
 obj:=λi h st b hb=>by
  have e:=by simpa using hb
  subst e;obtain⟨o,e,c,d⟩:=st;exact⟨o,e,λv z=>by rw[d]at z;cases z⟩
 keep:=λi h h' st k=>by obtain⟨o,e,c,d⟩:=st;exact⟨o,k it (by simp) o e,c,d⟩
 item:=by
  intro X hP hw hK hc i aa s σ H E I hf st hg;subst hP hw hK;obtain⟨f0,f1,f2,f3,f4,f5⟩:=hf it (by simp);have aT:∀(v:Value)(h':Heap)(tk:Nat),SignAt z i v->h'.IsStrIter it ty z t (i+1)->(∀b o,b∉[it]->s.heap.get? b=some o->h'.get? b=some o) ->
    ∃u,some v=some u/\wpAny (model X.prog X.w) X.A (letOwnedTupleGo tg (.ref it) u) (λ_ s2=>∃x H',Inv X aa σ H' s2/\RelV x u/\(Its z).yQ i H x H'/\s2.heap.IsStrIter it ty z t (i+1)/\∀b∈[it],H' b=none) E {s with heap:=h',toks:=tk}:=λv h' tk hv df kk=>by
   obtain⟨c,u,gL,rfl⟩:=hv;exact⟨_,rfl,XR ⟨.str ⟨#[c]⟩,H,(I.turned (λb o hb e=>kk b o (by simpa using hb) e) f0 f1 f3 f4 f5),⟨u,rfl⟩,⟨rfl,c,gL,rfl⟩,df,λb hb=>(hf b hb).1⟩⟩
  rcases eO with rfl|rfl
  .exact(Walks.strAscii (I.ok.hd hc) it z t).item i s _ _ hg st aT
  .exact(Walks.strWide (I.ok.hd hc) it z t).item i s _ _ hg st aT
 done:=by
  intro X hP hw hK hc i aa s σ H E I hf st hg;obtain⟨f0,f1,f2,f3,f4,f5⟩:=hf it (by simp);have hz:=Array.getElem?_eq_none hg;rcases eO with rfl|rfl
  .exact wpAny_pyNext_ascii_end (I.ok.hd hc) st hz λh' gp=>⟨rfl,I.turned (λb o hb e=>gp b o hb e) f0 f1 f3 f4 f5⟩
  .exact wpAny_pyNext_wide_end (I.ok.hd hc) st hz λh' gp=>⟨rfl,I.turned (λb o hb e=>gp b o hb e) f0 f1 f3 f4 f5⟩
 self:=λ_ _ _ _ _ st h=>by
  rcases eO with rfl|rfl
  .exact wpAny_pyIter_striter_ascii st h
  .exact wpAny_pyIter_striter_wide st h
variable{a:Addr}{xs:List V}{g:TG}{te:TE}{Q:VK}{kH:St}{H1:Hp}
section
variable{K:Fg}
end
section
variable(K:Fg)
end
structure FnAt(P:Program)(w:World)(K:Fg)(mg:Str->Option Value)(base:Heap)(CX:CXT)(x:Str)(k:Nat)(ps:List Str)(sp:Sp):Prop where
 ex:∃f fd,D4 P w K mg base CX k f fd ps sp/\mg x=some (.ref f)/\keepIn K (.ref f)=true/\Binds K fd ps []
variable{CX:CXT}{k:Nat}{ps:List Str}{sp:Sp}{E:XK}{x:Str}{p pos:Pos}{e:Expr}{es:List Expr}{t:TA}
theorem JaN(h:∃t,X.mg x=some (.int i t))(hg:Gl X x:=by rfl)(hd:(x==("__debug__":Str))=false:=by decide):PE X (.Name x pos) (tC (.int i)):=by obtain⟨t,h⟩:=h;exact MB hg h ⟨t,rfl⟩ hd
theorem JaM(h:∃t,X.mg x=some (.str z t))(hg:Gl X x:=by rfl)(hd:(x==("__debug__":Str))=false:=by decide):PE X (.Name x pos) (tC (.str z)):=by obtain⟨t,h⟩:=h;exact MB hg h ⟨t,rfl⟩ hd
theorem MS{k}(h:FX k v=true):RelV (kV k) v:=by
 rcases AR h with⟨i,t,rfl,rfl⟩|⟨x,t,rfl,rfl⟩
 .exact⟨t,rfl⟩
 .exact⟨t,rfl⟩
theorem LX(r:KV ag vs)(h:ItemsOf (λi v=>∃k x,vs[i]?=some (k,x)/\FX k v=true) av vs.length):Vals (ag.map λkv=>kV kv.1) av.toList:=by
 obtain⟨h1,h2⟩:=h;have key:∀(ag:List (Key×V))(vs:List (Key×Value))(l:List Value),KV ag vs->l.length=vs.length->(∀(j:Nat)(v:Value),l[j]?=some v->∃k x,vs[j]?=some (k,x)/\FX k v=true)->Vals (ag.map λkv=>kV kv.1) l:=by
  intro ag
  induction ag with
  |nil =>intro vs l r hl _;cases r;have:=rF (by simpa using hl);subst this;exact .nil
  |cons p ag ih =>
   intro vs l r hl hh;cases r with
   |@cons _ q _ vr e t =>
    cases l with
    |nil=>simp at hl
    |cons v l =>
     obtain⟨k,x,e1,e2⟩:=hh 0 v rfl;refine .cons ?_ (ih vr l t (by simpa using hl) λj w hw=>?_)
     .have:p.1=k:=by rw[e.1,(Option.some.inj e1)]
      show RelV (kV p.1) v;rw[this];exact MS e2
     .exact hh (j+1) w hw
 exact key ag vs av.toList r (by rwa[rT]) λj v e=>h2 j v (by rwa[<- Array.getElem?_toList])
structure Vt(P:Program)(w:World)(K:Fg)(mg:Str->Option Value)(base:Heap)(CX:CXT)(C:Addr)(m:Str)(k:Nat)(ps:List Str)(sp:Sp):Prop where
 cl:Cls K C
 ex:∃f fd,D4 P w K mg base CX k f fd ps sp/\Meth K C m f/\Binds K fd ps []
structure Vu(P:Program)(w:World)(K:Fg)(mg:Str->Option Value)(base:Heap)(CX:CXT)(x:Str)(C:Addr)(k:Nat)(ps:List Str)(sp:Sp):Prop where
 at_:mg x=some (.ref C)
 ex:∃f fd,D4 P w K mg base CX k f fd ps sp/\Mk K C f/\Binds K fd ps []
variable{C:Addr}{m:Str}{aD:Pos}{o:Expr}
theorem WM(G:Vt X.prog X.w X.K X.mg X.base CX C m k ps sp)(hr:CL k X.A)(hx:Passes CX X E)(he:PE X o ta)
  (ht:eval (.Call (.Attribute o m aD) [] [] pos) X.env=(do
   let ov <- eval o X.env
   standAt aD.atName
   let(f,first) <- holding [ov] (getMethod ov m pl)
   callWith pos f first (backTo pos (starEach [] X.env)) (backToKw pos (keywordEach [] X.env))):=by rfl) :
  PE X (.Call (.Attribute o m aD) [] [] pos) (Su C m sp [] E ta Ze):=by
 obtain⟨f,fd,F,hm,hb⟩:=G.ex;exact Pd he G.cl hm F hr hb .nil hx ht
theorem JaJ(G:Vu X.prog X.w X.K X.mg X.base CX x C k ps sp)(hr:CL (k+1) X.A)(hx:Passes CX X E)(ha:PA X (e::es) t)(hg:Gl X x:=by rfl)(aS:(x==("__debug__":Str))=false:=by decide)
  (he:starEach (e::es) X.env=(false,eval e X.env)::starEach es X.env:=by rfl) (aG:(backTo pos (starEach es X.env)).any (·.1)=false:=by rfl):PE X (.Call (.Name x p) (e::es) [] pos) (V0 C sp [] E t):=by
 obtain⟨f,fd,F,M,hb⟩:=G.ex;exact S8 M F hr hg G.at_ hb .nil hx ha aS he aG
def orR(r r':R2):R2:=λx y H Q=>r x y H Q\/r' x y H Q
theorem OpR.orR(h:OpR X f r)(h':OpR X f r'):OpR X f (orR r r'):=λaa s σ H x y v u Q I rx ry q=>q.elim (h aa s σ H x y v u Q I rx ry) (h' aa s σ H x y v u Q I rx ry)
theorem IxR.orR(h:IxR X r)(h':IxR X r'):IxR X (L2.orR r r'):=λvalue slice aa s σ H x y v u Q I rx ry q e=>q.elim (λq=>h value slice aa s σ H x y v u Q I rx ry q e) (λq=>h' value slice aa s σ H x y v u Q I rx ry q e)
inductive Wh(x:V)(y:V)(H:Hp)(Q:VK):Prop
 |mk (a v:_) (h0:x=.ref a) (h1:Ja H a y (some v)) (h2:Q v H)
inductive Jav(neg:Bool)(y:V)(x:V)(H:Hp)(Q:VK):Prop
 |mk (a o:_) (h0:x=.ref a) (h1:Ja H a y o) (h2:Q (.v (if neg then !o.isSome else o.isSome)) H)
theorem Rl(hu:X.A.units+1<cLine):OpR X (compareOp .In) (Jav false):=by intro aa s σ H y x v u Q I ry rx h;obtain⟨a,o,rfl,g,q⟩:=h;obtain rfl:u=Value.ref a:=rx;exact d_in hu I g ry λs3 I3=>⟨.v o.isSome,H,I3,rfl,q⟩
theorem MF(hu:X.A.units+1<cLine):OpR X (compareOp .NotIn) (Jav true):=by intro aa s σ H y x v u Q I ry rx h;obtain⟨a,o,rfl,g,q⟩:=h;obtain rfl:u=Value.ref a:=rx;exact U2 hu I g ry λs3 I3=>⟨.v (!o.isSome),H,I3,rfl,q⟩
theorem Ua(hu:X.A.units+1<cLine):IxR X Wh:=by
 intro value slice aa s σ H x y v u Q I rx ry h hs;obtain⟨a,w,rfl,g,q⟩:=h;obtain rfl:v=Value.ref a:=rx;have hT:=Fp I g;refine p9 ?_;refine p9 (wpAny_specialOf hT PySem.F.slot_dict_getitem.lookup ?_);have aT:wpAny (model X.prog X.w) X.A (subscripted slice false (.ref a) u) (λr bg=>wpAny (model X.prog X.w) X.A (letTemporaryGo value (.ref a) r >>= λ_=>pure r) (EP X aa σ Q) X.xe bg) X.xe s:=by rw[hs];exact wpAny_operating (wpAny_mono (IB hu I g ry λw' s3 I3 cZ=>⟨w,H,I3,cZ,q⟩) (λr bg dM=>p9 (wpAny_letTemporaryGo (qg dM))) λ_ _ x=>x)
 first
  |exact qg (p9 aT)
  |exact p9 (qg (p9 aT))
  |exact p9 aT
def WW(r r':Zb):Zb:=λo i v H Q=>r o i v H Q\/r' o i v H Q
theorem QT.orR(h:QT X r)(h':QT X r'):QT X (WW r r'):=λaa s σ H o i v ov iv u Q I r1 r2 r3 q=>q.elim (h aa s σ H o i v ov iv u Q I r1 r2 r3) (h' aa s σ H o i v ov iv u Q I r1 r2 r3)
inductive SK(o:V)(i:V)(v:V)(H:Hp)(Q:Hp->Prop):Prop
 |mk (a H4:_) (h0:o=.ref a) (h1:LO H a i v H4) (h2:Q H4)
theorem set_dict(hu:X.A.units+1<cLine):QT X SK:=by intro aa s σ H o i v ov iv u Q I ro ri rv h;obtain⟨a,H4,rfl,g,q⟩:=h;obtain rfl:ov=Value.ref a:=ro;exact IA hu I g ri rv λs4 I4=>⟨H4,I4,q⟩
def Rj(r r':List V->Hp->VK->Prop):List V->Hp->VK->Prop:=λvs H Q=>r vs H Q\/r' vs H Q
theorem B6.orR(h:B6 X f r)(h':B6 X f r'):B6 X f (Rj r r'):=λaa s σ H xs us Q I rx q=>q.elim (h aa s σ H xs us Q I rx) (h' aa s σ H xs us Q I rx)
def iSeq(K:Fg)(tl:TE):TI:=λσ H R=>tl σ H λx H1=>(∃a,x=.ref a/\(∃xs,SqL K H1 a xs)/\R (Itl K a) H1)\/(∃a,x=.ref a/\(∃xs,SqT K H1 a xs)/\R (Itt K a) H1)\/(∃z,x=.str z/\R (Its z) H1)
theorem WB(hl:PE X l tl):PI X tg l (iSeq X.K tl):=by
 intro aa s σ H R I h;have key:∀(x:V)(H1:Hp)(v:Value)(s1:Shared),Inv X aa σ H1 s1->RelV x v->((∃a,x=.ref a/\(∃xs,SqL X.K H1 a xs)/\R (Itl X.K a) H1)\/(∃a,x=.ref a/\(∃xs,SqT X.K H1 a xs)/\R (Itt X.K a) H1)\/(∃z,x=.str z/\R (Its z) H1)) ->
   wpAny (model X.prog X.w) X.A (pyIter v) (PIE X aa σ tg R) X.xe s1:=by
  intro x H1 v s1 I1 r1 q1;rcases q1 with⟨a,e,⟨xs,hq⟩,q⟩|⟨a,e,⟨xs,hq⟩,q⟩|⟨z,e,q⟩
  .subst e;cases r1;obtain⟨aq,rv,p,hz⟩:=I1.list hq;refine wpAny_pyIter_list p.isList ?_;refine⟨s1.heap.objs.size,[s1.heap.objs.size],_,_,H1,rfl,I1.kept λb o e=>qa _ e,L4 a _,⟨_,qo _ rfl,rfl,rfl⟩,λb hb=>?_,q⟩;have e:=by simpa using hb
   subst e;exact I1.Qj (qz _) (I1.z9.fresh (qz _))
  .subst e;cases r1;obtain⟨aq,rv,p,hz⟩:=I1.tuple hq;refine wpAny_pyIter_tuple (show s1.heap.IsTuple a aq.toArray from p) ?_;refine⟨s1.heap.objs.size,[s1.heap.objs.size],_,_,H1,rfl,I1.kept λb o e=>qa _ e,K2 a _,⟨_,qo _ rfl,rfl,rfl⟩,λb hb=>?_,q⟩;have e:=by simpa using hb
   subst e;exact I1.Qj (qz _) (I1.z9.fresh (qz _))
  .subst e;obtain⟨t,rfl⟩:=r1;have go:∀(ty:String),(ty="str_ascii_iterator"\/ty="str_iterator")->PIE X aa σ tg R (.ref s1.heap.objs.size) {s1 with heap:=s1.heap.push {cls:=.type ty,data:=.fields #[.str z t,.int 0 0]} }:=λty eO=>by
    refine⟨s1.heap.objs.size,[s1.heap.objs.size],_,_,H1,rfl,I1.kept λb o e=>qa _ e,OF _ ty z t eO,⟨_,qo _ rfl,rfl,rfl⟩,λb hb=>?_,q⟩;have e:=by simpa using hb
    subst e;exact I1.Qj (qz _) (I1.z9.fresh (qz _))
   cases ha:z.cps.all (·<128)
   .exact wpAny_pyIter_wide ha (go _ (.inr rfl))
   .exact wpAny_pyIter_ascii ha (go _ (.inl rfl))
 refine thn (hl aa s σ H _ I h) λv s1 ao => ?_
 obtain⟨x,H1,I1,r1,q1⟩:= ao;exact key x H1 v s1 I1 r1 q1
end Lake.L2
namespace PySem
namespace Zp
variable{prog:Program}{w:World}{A:Around}{E:Value->Shared->Prop}{s:Shared}
theorem OH(aL:s.heap.IsTupleIter it t i)(ht:s.heap.IsTuple t items)(hx:items[i]?=some x)
  (hQ:∀h',h'.IsTupleIter it t (i+1)->Heap.SameBut it s.heap h'->Q x {s with heap:=h' }):wpAny (model prog w) A (Builtin.SmallTypes.nextOf (.ref it)) Q E s:=by
 obtain⟨o,ho,hc,hd⟩:=id aL;obtain⟨ol,j7,_,nl,jT⟩:=ht;refine p9 (wpAny_callSpecial?_slot aL.typeIs F.slot_tuple_iterator_next (wpAny_call_entry F.slot_tuple_iterator_next aL.typeIs F.entry_tuple_iterator_next ?_ (F.args_tuple_iterator_next_1 _)));show wpAny _ _ (field (.ref it) 0 >>= _) _ _ s;refine p9 (qJ ho hd rfl ?_);show wpAny _ _ (field (.ref it) 1 >>= _) _ _ s;refine p9 (qJ ho hd rfl ?_);show wpAny _ _ (seqItems? (.ref t) >>= _) _ _ s;refine p9 (wpAny_seqItems j7 jT ?_);simp only[rD,hx];refine p9 (wpAny_setField ho hd (by simp) (qg ⟨x,rfl,qg (hQ _ ?_ (Heap.SameBut.update ..))⟩));exact⟨_,rn _ ho (Obj.isFreed_of_fields (Obj.data_mapFields hd _)),(Obj.cls_mapFields ..).trans hc,by rw[Obj.data_mapFields hd];simp[rawInt]⟩
theorem Sm(hh:A.handled=none)(aL:s.heap.IsTupleIter it t i)(ht:s.heap.IsTuple t items)(hx:items[i]?=none)
  (hE:∀h' e,Heap.ExtBut it s.heap h'->(∃o,h'.get? e=some o/\o.cls=.type "StopIteration")->E (.ref e) {s with heap:=h' }):wpAny (model prog w) A (Builtin.SmallTypes.nextOf (.ref it)) Q E s:=by
 obtain⟨o,ho,hc,hd⟩:=id aL;obtain⟨ol,j7,_,nl,jT⟩:=ht;refine p9 (wpAny_callSpecial?_slot aL.typeIs F.slot_tuple_iterator_next (wpAny_call_entry F.slot_tuple_iterator_next aL.typeIs F.entry_tuple_iterator_next ?_ (F.args_tuple_iterator_next_1 _)));show wpAny _ _ (field (.ref it) 0 >>= _) _ _ s;refine p9 (qJ ho hd rfl ?_);show wpAny _ _ (field (.ref it) 1 >>= _) _ _ s;refine p9 (qJ ho hd rfl ?_);show wpAny _ _ (seqItems? (.ref t) >>= _) _ _ s;refine p9 (wpAny_seqItems j7 jT ?_);simp only[rD,hx];refine p9 (wpAny_rule (p9 (wpAny_setField ho hd (by simp) ?_)));show wpAny _ _ (newExc (.type "StopIteration") [] >>= _) _ _ _;refine p9 ?_;simp only[newExc];refine p9 (wpAny_newObj_type ?_ (by size_fits));refine p9 (wpAny_of_eq (by first|rfl|(simp only;rfl)) ?_);refine wpAny_newObj_type ?_ (by size_fits);simp only;refine p9 (wpAny_handled ?_);first|rw[show A.in1.handled=none from hh]|rw[hh]
 refine p9 (qg (wpAny_throw ?_));exact hE _ _ (((Heap.SameBut.update ..).extBut.push _).push _) ⟨_,qo _ rfl,rfl⟩
structure Draws(prog:Program)(w:World)(it src:Addr)(xs:Array Value)(S:Nat->Heap->Prop):Prop where
 ne:src≠it
 obj:∀k h,S k h->∃o,h.get? it=some o/\∀v,o.data≠.cell v
 yE:∀k h,S k h->∃o,h.get? src=some o/\(o.cls=.type "list"\/o.cls=.type "tuple")
 keep:∀k (h h':Heap),S k h->(∀o,h.get? it=some o->h'.get? it=some o)->(∀o,h.get? src=some o->h'.get? src=some o)->S k h'
 item:∀(A:Around)(s:Shared)(k:Nat)(x:Value)(Q:Value->Shared->Prop)(E:Value->Shared->Prop),S k s.heap->xs[k]?=some x->(∀h',S (k+1) h'->Heap.SameBut it s.heap h'->Q x {s with heap:=h' }) ->
  wpAny (model prog w) A (Builtin.SmallTypes.nextOf (.ref it)) Q E s
 stop:∀(A:Around)(s:Shared)(k:Nat)(Q:Value->Shared->Prop)(E:Value->Shared->Prop),A.handled=none->S k s.heap->xs[k]?=none ->
  (∀h' e,Heap.ExtBut it s.heap h'->(∃o,h'.get? e=some o/\o.cls=.type "StopIteration")->E (.ref e) {s with heap:=h' })->wpAny (model prog w) A (Builtin.SmallTypes.nextOf (.ref it)) Q E s
theorem Draws.tup(aI:t≠it):Draws prog w it t xs (λk h=>h.IsTupleIter it t k/\h.IsTuple t xs) where
 ne:=aI
 obj:=λk h st=>by obtain⟨⟨o,e,c,d⟩,_⟩:=st;exact⟨o,e,λv z=>by rw[d]at z;cases z⟩
 yE:=λk h st=>by obtain⟨_,o,e,c,_⟩:=st;exact⟨o,e,.inr c⟩
 keep:=λk h h' st k1 k2=>⟨st.1.at k1,st.2.at k2⟩
 item:=λA s k x Q E st hx hQ=>OH st.1 st.2 hx λh' a b=>hQ h' ⟨a,st.2.at λo e=>(b.2 t aI).trans e⟩ b
 stop:=λA s k Q E hh st hx hE=>Sm hh st.1 st.2 hx hE
theorem Draws.lst(aI:t≠it):Draws prog w it t xs (λk h=>h.IsListIter it t k/\h.IsList t xs) where
 ne:=aI
 obj:=λk h st=>by obtain⟨⟨o,e,c,d⟩,_⟩:=st;exact⟨o,e,λv z=>by rw[d]at z;cases z⟩
 yE:=λk h st=>by obtain⟨_,o,e,c,_⟩:=st;exact⟨o,e,.inl c⟩
 keep:=λk h h' st k1 k2=>⟨st.1.at k1,st.2.at k2⟩
 item:=λA s k x Q E st hx hQ=>wpAny_nextOf_list_item st.1 st.2 hx λh' a b=>hQ h' ⟨a,st.2.at λo e=>(b.2 t aI).trans e⟩ b
 stop:=λA s k Q E hh st hx hE=>wpAny_nextOf_list_end hh st.1 st.2 hx hE
structure Apart(z TI TO i1 i2 l1 l2:Addr):Prop where
 zs:TI≠z/\TO≠z/\i1≠z/\i2≠z/\l1≠z/\l2≠z
 ts:TI≠TO/\TI≠i1/\TI≠i2/\TO≠i1/\TO≠i2/\i1≠i2
 ls:l1≠TO/\l1≠i1/\l1≠i2/\l2≠TO/\l2≠i1/\l2≠i2
variable{z TI TO i1 i2 l1 l2:Addr}{xs ys:Array Value}{S1 S2:Nat->Heap->Prop}
theorem Pn(D:Apart z TI TO i1 i2 l1 l2)(W1:Draws prog w i1 l1 xs S1)(W2:Draws prog w i2 l2 ys S2){Q:Value->Shared->Prop}
  (hz:IsZip s.heap z TI TO .none) (aY:IsPair s.heap TI (.ref i1) (.ref i2)) (bC:IsPair s.heap TO a b) (h1:S1 k s.heap) (h2:S2 k s.heap) (hx:xs[k]?=some x) (hy:ys[k]?=some y)
  (hQ:∀h',IsZip h' z TI TO (rawInt s.heap.objs.size)->IsPair h' TO x y->S1 (k+1) h'->S2 (k+1) h'->IsPair h' s.heap.objs.size x y->h'.objs.size=s.heap.objs.size+1 ->
   (∀c o,c≠z->c≠TO->c≠i1->c≠i2->s.heap.get? c=some o->h'.get? c=some o)->Q (.ref s.heap.objs.size) {s with heap:=h' }) :
  wpAny (model prog w) A (Builtin.«zip.__next__» ⟨[.ref z],[]⟩) (λaT s'=>∃v,aT=.done (.ret v)/\Q v s') E s:=by
 obtain⟨⟨eT,dC,cE,cS,eP,eQ⟩,⟨cq,bX,bY,bN,bO,dP⟩,⟨b9,bw,cb,bT,bI,bx⟩⟩:=D;show wpAny _ _ (field (.ref z) 2 >>= _) _ _ _;refine p9 (qJ hz rfl rfl ?_);show wpAny _ _ (field (.ref z) 3 >>= _) _ _ _;refine p9 (qJ hz rfl rfl ?_);refine p9 (wpAny_seqItems aY rfl ?_);show wpAny _ _ (Builtin.SmallTypes.ownedTupleIsFree (.ref z) >>= _) _ _ _;refine p9 ?_;unfold Builtin.SmallTypes.ownedTupleIsFree;refine p9 (qJ hz rfl rfl (qg ?_));simp only;refine p9 (wpAny_rule ?_);refine p9 (qJ hz rfl rfl ?_);refine p9 (wpAny_setField_rec hz (by simp) λha fX cM=>?_);replace fX:IsZip ha z TI TO .ellipsis:=fX;refine p9 ?_;simp only[List.zipIdx_cons,List.forIn_nil];refine p9 (p9 (wpAny_onRaise ?_));show wpAny _ _ (Builtin.SmallTypes.nextOf (.ref i1) >>= _) _ _ _;refine p9 (W1.item _ _ k x _ _ (W1.keep _ _ _ h1 (λo e=>cM.extBut _ _ cE e) λo e=>cM.extBut _ _ eP e) hx λhb g8 bj=>qg ?_);have dZ:=bj.extBut _ _ bN (cM.extBut _ _ dC bC);refine p9 (wpAny_seqItems dZ rfl ?_);refine p9 (wpAny_updateSeq_pair dZ λhc fh cO=>?_);replace fh:IsPair hc TO x b:=fh;refine p9 (wpAny_letGo (qg ?_));refine p9 (p9 (wpAny_onRaise ?_));show wpAny _ _ (Builtin.SmallTypes.nextOf (.ref i2) >>= _) _ _ _;refine p9 (W2.item _ _ k y _ _ (W2.keep _ _ _ h2 (λo e=>cO.extBut _ _ (Ne.symm bO) (bj.extBut _ _ (Ne.symm dP) (cM.extBut _ _ cS e))) λo e=>cO.extBut _ _ bT (bj.extBut _ _ bI (cM.extBut _ _ eQ e))) hy λhd jJ cB=>qg ?_);have hU:=cB.extBut _ _ bO fh;refine p9 (wpAny_seqItems hU rfl ?_);refine p9 (wpAny_updateSeq_pair hU λhe fj gD=>?_);replace fj:IsPair he TO x y:=fj;refine p9 (wpAny_letGo (qg (qg ?_)));refine p9 (wpAny_seqItems fj rfl ?_);refine p9 (wpAny_newTuple ?_);have hsz:he.objs.size=s.heap.objs.size:=by rw[gD.1,cB.1,cO.1,bj.1,cM.1]
 have lQ:=gD.extBut _ _ (Ne.symm dC) (cB.extBut _ _ (Ne.symm cS) (cO.extBut _ _ (Ne.symm dC) (bj.extBut _ _ (Ne.symm cE) fX)));have l7:=qp lQ;show wpAny _ _ (Builtin.SmallTypes.ownedTupleHandOut (.ref z) (.ref he.objs.size) >>= _) _ _ _;refine p9 ?_;unfold Builtin.SmallTypes.ownedTupleHandOut;refine p9 (wpAny_setField_rec (qa _ lQ) (by simp) λhg kg j8=>?_);replace kg:IsZip hg z TI TO (rawInt he.objs.size):=kg;refine wpAny_setField_rec kg (by simp) λhi jm j9=>?_;replace jm:IsZip hi z TI TO (rawInt he.objs.size):=jm
 have up:∀c o,c≠z->he.get? c=some o->hi.get? c=some o:=λc o c1 e=>j9.extBut _ _ c1 (j8.extBut _ _ c1 (qa _ e))
 have k7:IsPair hi he.objs.size x y:=j9.extBut _ _ (sR l7) (j8.extBut _ _ (sR l7) (qo _ rfl));have mF:hi.objs.size=he.objs.size+1:=by rw[j9.1,j8.1,rG]
 rw[hsz]at jm k7 mF;refine qg ⟨_,rfl,?_⟩;show Q (.ref he.objs.size) _;rw[hsz];exact hQ hi jm (up _ _ dC fj) (W1.keep _ _ _ (W1.keep _ _ _ g8 (λo e=>gD.extBut _ _ (Ne.symm bN) (cB.extBut _ _ dP (cO.extBut _ _ (Ne.symm bN) e))) λo e=>gD.extBut _ _ b9 (cB.extBut _ _ cb (cO.extBut _ _ b9 e))) (λo e=>up _ o cE e) λo e=>up _ o eP e) (W2.keep _ _ _ (W2.keep _ _ _ jJ (λo e=>gD.extBut _ _ (Ne.symm bO) e) λo e=>gD.extBut _ _ bT e) (λo e=>up _ o cS e) λo e=>up _ o eQ e) k7 mF λc o c1 c2 c3 c4 e=>up c o c1 (gD.extBut _ _ c2 (cB.extBut _ _ c4 (cO.extBut _ _ c2 (bj.extBut _ _ c3 (cM.extBut _ _ c1 e)))))
theorem next_end(hh:A.handled=none)(D:Apart z TI TO i1 i2 l1 l2)(W1:Draws prog w i1 l1 xs S1)(W2:Draws prog w i2 l2 ys S2)
  (hz:IsZip s.heap z TI TO .none) (aY:IsPair s.heap TI (.ref i1) (.ref i2)) (bC:IsPair s.heap TO a b) (h1:S1 k s.heap) (h2:S2 k s.heap) (bu:xs[k]?=none\/ys[k]?=none)
  (hE:∀h' e,(∀c o,c≠z->c≠TO->c≠i1->c≠i2->s.heap.get? c=some o->h'.get? c=some o)->(∃o,h'.get? e=some o/\o.cls=.type "StopIteration")->E (.ref e) {s with heap:=h' }) :
  wpAny (model prog w) A (Builtin.«zip.__next__» ⟨[.ref z],[]⟩) Q E s:=by
 obtain⟨⟨eT,dC,cE,cS,eP,eQ⟩,⟨cq,bX,bY,bN,bO,dP⟩,⟨b9,bw,cb,bT,bI,bx⟩⟩:=D;show wpAny _ _ (field (.ref z) 2 >>= _) _ _ _;refine p9 (qJ hz rfl rfl ?_);show wpAny _ _ (field (.ref z) 3 >>= _) _ _ _;refine p9 (qJ hz rfl rfl ?_);refine p9 (wpAny_seqItems aY rfl ?_);show wpAny _ _ (Builtin.SmallTypes.ownedTupleIsFree (.ref z) >>= _) _ _ _;refine p9 ?_;unfold Builtin.SmallTypes.ownedTupleIsFree;refine p9 (qJ hz rfl rfl (qg ?_));simp only;refine p9 (wpAny_rule ?_);refine p9 (qJ hz rfl rfl ?_);refine p9 (wpAny_setField_rec hz (by simp) λha fX cM=>?_);replace fX:IsZip ha z TI TO .ellipsis:=fX;refine p9 ?_;simp only[List.zipIdx_cons,List.forIn_nil];refine p9 (p9 (wpAny_onRaise ?_));show wpAny _ _ (Builtin.SmallTypes.nextOf (.ref i1) >>= _) _ _ _;have g7:=W1.keep _ _ _ h1 (λo e=>cM.extBut _ _ cE e) λo e=>cM.extBut _ _ eP e
 cases hx:xs[k]? with
 |none =>
  refine p9 (W1.stop _ _ k _ _ hh g7 hx λhb e bj he=>?_);obtain⟨oe,gA,hX⟩:=he;have lL:=bj _ _ (Ne.symm cE) fX;have nQ:e≠z:=λq=>by subst q;rw[lL]at gA;cases gA;simp at hX
  refine wpAny_setField_rec lL (by simp) λhc _ cO=>hE hc e (λc o c1 _ c3 _ q=>cO.extBut _ _ c1 (bj _ _ c3 (cM.extBut _ _ c1 q))) ⟨oe,cO.extBut _ _ nQ gA,hX⟩
 |some x =>refine p9 (W1.item _ _ k x _ _ g7 hx λhb g8 bj=>qg ?_);have dZ:=bj.extBut _ _ bN (cM.extBut _ _ dC bC);refine p9 (wpAny_seqItems dZ rfl ?_);refine p9 (wpAny_updateSeq_pair dZ λhc fh cO=>?_);refine p9 (wpAny_letGo (qg ?_));refine p9 (p9 (wpAny_onRaise ?_));show wpAny _ _ (Builtin.SmallTypes.nextOf (.ref i2) >>= _) _ _ _;refine p9 (W2.stop _ _ k _ _ hh (W2.keep _ _ _ h2 (λo e=>cO.extBut _ _ (Ne.symm bO) (bj.extBut _ _ (Ne.symm dP) (cM.extBut _ _ cS e))) λo e=>cO.extBut _ _ bT (bj.extBut _ _ bI (cM.extBut _ _ eQ e))) (by rcases bu with h|h;rw[hx]at h;cases h;exact h) λhd e cB he=>?_);obtain⟨oe,gA,hX⟩:=he;have lP:=cB _ _ (Ne.symm cS) (cO.extBut _ _ (Ne.symm dC) (bj.extBut _ _ (Ne.symm cE) fX));refine wpAny_setField_rec lP (by simp) λhf _ lH=>hE hf e (λc o c1 c2 c3 c4 q=>lH.extBut _ _ c1 (cB _ _ c4 (cO.extBut _ _ c2 (bj.extBut _ _ c3 (cM.extBut _ _ c1 q))))) ⟨oe,lH.extBut _ _ (λq=>by subst q;rw[lP]at gA;cases gA;simp at hX) gA,hX⟩
end Zp
end PySem
namespace PySem
namespace Zp
def Ig(T:String)(l:Addr):Obj:={cls:=.type T,data:=.fields #[.ref l,.int 0 0]}
def z1(h:Heap)(T1:String)(l1:Addr):Heap:=h.push (Ig T1 l1)
def z2(h:Heap)(T1 T2:String)(l1 l2:Addr):Heap:=(z1 h T1 l1).push (Ig T2 l2)
def z3(h:Heap)(T1 T2:String)(l1 l2:Addr):Heap:=(z2 h T1 T2 l1 l2).push {cls:=.type "tuple",data:=.seq #[.ref h.objs.size,.ref (z1 h T1 l1).objs.size]}
def z4(h:Heap)(T1 T2:String)(l1 l2:Addr):Heap:=(z3 h T1 T2 l1 l2).push {cls:=.type "tuple",data:=.seq #[.none,.none]}
def z5(h:Heap)(T1 T2:String)(l1 l2:Addr):Heap:=(z4 h T1 T2 l1 l2).push {cls:=.type "zip",data:=.fields #[.none,.bool false,.bool false,.ref (z2 h T1 T2 l1 l2).objs.size,.ref (z3 h T1 T2 l1 l2).objs.size]}
abbrev Its(T:String)(l:Addr)(C:Heap->Prop):Prop:=∀{prog:Program}{w:World}{A:Around}{E:Value->Shared->Prop}{s:Shared}{Q:Value->Shared->Prop},C s.heap->Q (.ref s.heap.objs.size) {s with heap:=s.heap.push (Ig T l)}->wpAny (model prog w) A (pyIter (.ref l)) Q E s
theorem E8(T1 T2:String)(l1 l2:Addr)(C1 C2:Heap->Prop)(p1:Its T1 l1 C1)(p2:Its T2 l2 C2)(k2:∀h o,C2 h->C2 (Heap.push h o)):
  Meets (Builtin.«zip.__new__» ⟨[.type "zip",.ref l1,.ref l2],[]⟩) (λ_ R s=>C1 s.heap/\C2 s.heap/\R (.ok (.ret (.ref (z4 s.heap T1 T2 l1 l2).objs.size))) {s with heap:=z5 s.heap T1 T2 l1 l2}) :=
 .of_wp λprog w A R s h=>by
  obtain⟨hp,g,d,tk,os⟩:=s;obtain⟨c1,c2,h⟩:=h;have eN:=sub_zip
  wp_walk using p1 c1,p2 (k2 _ _ c2)
  exact⟨_,rfl,h⟩
variable{prog:Program}{w:World}{A:Around}{E:Value->Shared->Prop}{s:Shared}{z TI TO i1 i2 l1 l2:Addr}{xs ys:Array Value}{S1 S2:Nat->Heap->Prop}
theorem KJ(p1:Its T1 l1 C1)(p2:Its T2 l2 C2)(k2:∀h o,C2 h->C2 (Heap.push h o))(c1:C1 s.heap)(c2:C2 s.heap)
  (h:Q (.ref (z4 s.heap T1 T2 l1 l2).objs.size) {s with heap:=z5 s.heap T1 T2 l1 l2}):wpAny (model prog w) A (call (.type "zip") [.ref l1,.ref l2]) Q E s :=
 callType_new F.called_zip (by decide) (F.typeCall_zip_2 _ _) (F.newCall_zip_2 _ _) (λobj=>F.args_object_init_3 obj _ _) F.entry_zip_new (E8 T1 T2 l1 l2 C1 C2 p1 p2 k2)
  ⟨c1,c2,⟨_,qo _ rfl,rfl⟩,h⟩
theorem Gi(D:Apart z TI TO i1 i2 l1 l2)(W1:Draws prog w i1 l1 xs S1)(W2:Draws prog w i2 l2 ys S2)
  (hz:IsZip s.heap z TI TO .none) (aY:IsPair s.heap TI (.ref i1) (.ref i2)) (bC:IsPair s.heap TO a b) (h1:S1 k s.heap) (h2:S2 k s.heap) (hx:xs[k]?=some x) (hy:ys[k]?=some y)
  (hQ:∀h',IsZip h' z TI TO (rawInt s.heap.objs.size)->IsPair h' TO x y->S1 (k+1) h'->S2 (k+1) h'->IsPair h' s.heap.objs.size x y->h'.objs.size=s.heap.objs.size+1 ->
   (∀c o,c≠z->c≠TO->c≠i1->c≠i2->s.heap.get? c=some o->h'.get? c=some o)->Q (some (.ref s.heap.objs.size)) {s with heap:=h' }) :
  wpAny (model prog w) A (pyNext (.ref z)) Q E s:=by
 have hT:s.TypeIs (.ref z) "zip":=⟨_,hz,rfl⟩
 exact p9 (wpAny_attempt (wpAny_callSpecial?_slot hT F.slot_zip_next (wpAny_call_entry F.slot_zip_next hT F.entry_zip_next
  (Pn D W1 W2 hz aY bC h1 h2 hx hy λh' a1 a2 a3 a4 a5 a6 a7=>qg (hQ h' a1 a2 a3 a4 a5 a6 a7)) (F.args_zip_next_1 _))))
theorem Gj(hh:A.handled=none)(D:Apart z TI TO i1 i2 l1 l2)(W1:Draws prog w i1 l1 xs S1)(W2:Draws prog w i2 l2 ys S2)
  (hz:IsZip s.heap z TI TO .none) (aY:IsPair s.heap TI (.ref i1) (.ref i2)) (bC:IsPair s.heap TO a b) (h1:S1 k s.heap) (h2:S2 k s.heap) (bu:xs[k]?=none\/ys[k]?=none)
  (hQ:∀h',(∀c o,c≠z->c≠TO->c≠i1->c≠i2->s.heap.get? c=some o->h'.get? c=some o)->Q none {s with heap:=h' }):wpAny (model prog w) A (pyNext (.ref z)) Q E s:=by
 have hT:s.TypeIs (.ref z) "zip":=⟨_,hz,rfl⟩
 refine p9 (wpAny_attempt (wpAny_callSpecial?_slot hT F.slot_zip_next (wpAny_call_entry F.slot_zip_next hT F.entry_zip_next
  (next_end (show A.in1.handled=none from hh) D W1 W2 hz aY bC h1 h2 bu λh' e hk he=>?_) (F.args_zip_next_1 _))))
 obtain⟨o,ho,hc⟩:=he;refine p9 (wpAny_isInstance ⟨o,ho,hc⟩ isSubtype_stop ?_);exact qg (hQ _ hk)
def F7:Bool->Heap->Addr->Addr->Nat->Prop
 |true,h,it,l,k=>h.IsTupleIter it l k
 |false,h,it,l,k=>h.IsListIter it l k
def DI:Bool->Heap->Addr->Array Value->Prop
 |true,h,l,xs=>h.IsTuple l xs
 |false,h,l,xs=>h.IsList l xs
def BX:Bool->String
 |true=>"tuple_iterator"
 |false=>"list_iterator"
theorem A1(b:Bool)(aI:t≠it):Draws prog w it t xs (λk h=>F7 b h it t k/\DI b h t xs):=by
 cases b
 .exact Draws.lst aI
 .exact Draws.tup aI
theorem Kl(b:Bool)(l:Addr)(xs:Array Value):Its (BX b) l (λh=>DI b h l xs):=by
 intro prog w A E s Q c q;cases b
 .exact wpAny_pyIter_list c q
 .exact wpAny_pyIter_tuple c q
theorem DI.at(c:DI b h l xs)(e:∀o,h.get? l=some o->h'.get? l=some o):DI b h' l xs:=by
 cases b
 .exact Heap.IsList.at c e
 .exact Heap.IsTuple.at c e
theorem F7.at(c:F7 b h it l k)(e:∀o,h.get? it=some o->h'.get? it=some o):F7 b h' it l k:=by
 cases b
 .exact Heap.IsListIter.at c e
 .exact Heap.IsTupleIter.at c e
theorem F7.obj(c:F7 b h it l k):∃o,h.get? it=some o/\∀v,o.data≠.cell v:=by
 cases b
 .obtain⟨o,e,_,d⟩:=c;exact⟨o,e,λv z=>by rw[d]at z;cases z⟩
 .obtain⟨o,e,_,d⟩:=c;exact⟨o,e,λv z=>by rw[d]at z;cases z⟩
theorem F7.new(e:h.get? it=some (Ig (BX b) l)):F7 b h it l 0:=by
 cases b
 .exact⟨_,e,rfl,rfl⟩
 .exact⟨_,e,rfl,rfl⟩
end Zp
end PySem
namespace Lake.L2
open PySem PySem.Spec PyProof.Rows
def SqB(b:Bool)(K:Fg)(H:Hp)(a:Addr)(xs:List V):Prop:=match b with|true=>SqT K H a xs|false=>SqL K H a xs
variable{X:Cx}{aa:List (Addr×Obj)}{σ:St}{H:Hp}{s:Shared}{a:Addr}{xs ys:List V}{b:Bool}
theorem Inv.sqb(I:Inv X aa σ H s)(h:SqB b X.K H a xs):∃aq:List Value,Vals xs aq/\Zp.DI b s.heap a aq.toArray/\xs.length<=sizeLine:=by
 cases b
 .obtain⟨aq,r,p,z⟩:=I.list h;exact⟨aq,r,p.isList,z⟩
 .obtain⟨aq,r,p,z⟩:=I.tuple h;exact⟨aq,r,p,z⟩
theorem Inv.Jh(I:Inv X aa σ H s)(h:SqB b X.K H a xs)(h':SqB b X.K H a ys):xs=ys:=by
 cases b
 .exact I.Ki h h'
 .exact I.Hv h h'
theorem Inv.EY{fp:List Addr}(I:Inv X aa σ H s)(k:∀b o,b∉fp->s.heap.get? b=some o->h'.get? b=some o)(hf:∀b∈fp,I0 X aa H b):Inv X aa σ H {s with heap:=h',toks:=t' }:=by
 have gd:∀b u,H b=some u->b∉fp:=λb u e z=>by rw[(hf b z).1]at e;cases e
 refine I.step (λb hb=>?_) (λb o _ _ hc e _=>k b o hc e) (λb o _ _ hc e _=>⟨o.slots,k b o hc e⟩) (λ_ _ _ _ n=>n)
  (λb o hc e=>⟨o,k b o hc e⟩) (λ_ _ e=>e) (λ_ _ _ e=>e) (λb ps e=>⟨#[],by rw[e];simp⟩) (λm hm=>?_) (λb u e=>?_) I.bare
 .obtain⟨f0,f1,f2,f3,f4,f5⟩:=hf b hb;exact⟨f3,f1,f4,f5⟩
 .obtain⟨o,es,ep,ho,r⟩:=hm;exact⟨o,es,ep,k _ o (λz=>(hf _ z).2.1 rfl) ho,r⟩
 .refine(I.z9 b u e).Me (λc v hc q=>k c v ?_ q) (λ_ q=>q) λ_ _ q=>q
  rcases hc with z|z
  .rw[z];exact gd b u e
  .exact gd c _ z
def Itz(K:Fg)(b1:Bool)(a1:Addr)(b2:Bool)(a2:Addr):It :=
  ⟨λi H=>∃xs ys x y,SqB b1 K H a1 xs/\SqB b2 K H a2 ys/\xs[i]?=some x/\ys[i]?=some y,
   λi H x H'=>∃T vx vy,H T=none/\x=.ref T/\H'=upd H T (.tup [vx,vy])/\(∀xs,SqB b1 K H a1 xs->xs[i]?=some vx)/\∀ys,SqB b2 K H a2 ys->ys[i]?=some vy,
   λi H=>∃xs ys,SqB b1 K H a1 xs/\SqB b2 K H a2 ys/\(xs.length<=i\/ys.length<=i)⟩
theorem OE{K:Fg}{a1 a2 z TI TO i1 i2:Addr}(D:Zp.Apart z TI TO i1 i2 a1 a2):
  Turn P w K (.Tuple bP k0 bV) (Itz K b1 a1 b2 a2) [z,TI,TO,i1,i2] z (λi h=>IsZip h z TI TO .none/\IsPair h TI (.ref i1) (.ref i2)/\(∃a b,IsPair h TO a b)/\Zp.F7 b1 h i1 a1 i/\Zp.F7 b2 h i2 a2 i) where
 mem:=by simp
 obj:=λi h st b hb=>by
  obtain⟨hz,aY,⟨ta,tb,bC⟩,h1,h2⟩:=st;simp only[qA,qW,or_false]at hb;rcases hb with rfl|rfl|rfl|rfl|rfl
  .exact⟨_,hz,λv z=>nomatch z⟩
  .exact⟨_,aY,λv z=>nomatch z⟩
  .exact⟨_,bC,λv z=>nomatch z⟩
  .exact h1.obj
  .exact h2.obj
 keep:=λi h h' st k=>by obtain⟨hz,aY,⟨ta,tb,bC⟩,h1,h2⟩:=st;exact⟨k z (by simp) _ hz,k TI (by simp) _ aY,⟨ta,tb,k TO (by simp) _ bC⟩,h1.at λo e=>k i1 (by simp) o e,h2.at λo e=>k i2 (by simp) o e⟩
 item:=by
  intro X hP hw hK hc i aa s σ H E I hf st hg;subst hP hw hK;obtain⟨hz,aY,⟨ta,tb,bC⟩,h1,h2⟩:=st;obtain⟨xs,ys,x,y,q1,q2,ex,ey⟩:=hg;obtain⟨bS,r1,c1,z1⟩:=I.sqb q1;obtain⟨aW,r2,c2,z2⟩:=I.sqb q2;obtain⟨u1,ke,kz⟩:=r1.get ex;obtain⟨u2,oA,pb⟩:=r2.get ey;obtain⟨⟨eT,dC,cE,cS,eP,eQ⟩,⟨cq,bX,bY,bN,bO,dP⟩,⟨b9,bw,cb,bT,bI,bx⟩⟩:=id D;refine Zp.Gi D (Zp.A1 b1 bw) (Zp.A1 b2 bx) hz aY bC ⟨h1,c1⟩ ⟨h2,c2⟩ (by simpa using ke) (by simpa using oA) λh' fH jL pe ph nC iq lh=>⟨_,rfl,?_⟩
  refine wpAny_letOwnedTupleGo_zip fH λkR jl sb=>?_
  have en:∀{c o},s.heap.get? c=some o->c≠s.heap.objs.size:=λe=>qI (qp e)
  have Il:Inv X aa σ (upd H s.heap.objs.size (.tup [x,y])) {s with heap:=s.heap.push {cls:=.type "tuple",data:=.seq #[u1,u2]},toks:=s.toks} :=
   I.laid (λb o e=>qa _ e) (qz _) ⟨by show 2<=sizeLine;rw[sizeLine_eq];decide,[u1,u2],.cons kz (.cons pb .nil),⟨_,qo _ rfl,rfl,_,rfl,rfl⟩⟩
  have gq:∀b∈[z,TI,TO,i1,i2],I0 X aa (upd H s.heap.objs.size (.tup [x,y])) b:=λb hb=>by
   obtain⟨f0,f⟩:=hf b hb;exact⟨by rw[Aj (by
   simp only[qA,qW,or_false]at hb;rcases hb with rfl|rfl|rfl|rfl|rfl
   .exact en hz
   .exact en aY
   .exact en bC
   .obtain⟨o,e,_⟩:=h1.obj;exact en e
   .obtain⟨o,e,_⟩:=h2.obj;exact en e)];exact f0,f⟩
  refine⟨.ref s.heap.objs.size,_,(Il.EY (λb o hb e=>by
   have nz:b≠z:=λq=>hb (by simp[q])
   refine sb.extBut _ _ nz ?_;by_cases hbT:b=s.heap.objs.size
   .subst hbT;have e':(s.heap.push {cls:=.type "tuple",data:=.seq #[u1,u2]}).get? s.heap.objs.size=some o:=e;rw[qo _ rfl]at e';cases e';exact nC
   .have e':(s.heap.push {cls:=.type "tuple",data:=.seq #[u1,u2]}).get? b=some o:=e;rw[Heap.get?_push_ne _ _ _ hbT]at e';exact lh b o nz (λq=>hb (by simp[q])) (λq=>hb (by simp[q])) (λq=>hb (by simp[q])) e') gq),rfl,⟨s.heap.objs.size,x,y,I.z9.fresh (qz _),rfl,rfl,λzs hz=>by rw[I.Jh hz q1];exact ex,λzs hz=>by rw[I.Jh hz q2];exact ey⟩,?_,λb hb=>(gq b hb).1⟩
  exact⟨jl,sb.extBut _ _ eT (lh _ _ eT cq bX bY aY),⟨_,_,sb.extBut _ _ dC jL⟩,pe.1.at λo e=>sb.extBut _ _ cE e,ph.1.at λo e=>sb.extBut _ _ cS e⟩
 done:=by
  intro X hP hw hK hc i aa s σ H E I hf st hg;subst hP hw hK;obtain⟨hz,aY,⟨ta,tb,bC⟩,h1,h2⟩:=st;obtain⟨xs,ys,q1,q2,bu⟩:=hg;obtain⟨bS,r1,c1,z1⟩:=I.sqb q1;obtain⟨aW,r2,c2,z2⟩:=I.sqb q2;have e1:=r1.length;have e2:=r2.length;obtain⟨_,_,⟨b9,bw,cb,bT,bI,bx⟩⟩:=id D;refine Zp.Gj (I.ok.hd hc) D (Zp.A1 b1 bw) (Zp.A1 b2 bx) hz aY bC ⟨h1,c1⟩ ⟨h2,c2⟩ ?_ λh' hk=>⟨rfl,I.EY (λb o hb e=>hk b o (λq=>hb (by simp[q])) (λq=>hb (by simp[q])) (λq=>hb (by simp[q])) (λq=>hb (by simp[q])) e) hf⟩
  rcases bu with z|z
  .exact .inl (by simp;lia)
  .exact .inr (by simp;lia)
 self:=λ_ _ _ _ _ st h=>wpAny_pyIter_zip st.1 h
end Lake.L2
namespace PySem
namespace Zp
theorem made(c1:DI b1 h l1 xs)(c2:DI b2 h l2 ys):
  ∃z TI TO i1 i2,z=(z4 h (BX b1) (BX b2) l1 l2).objs.size/\h.objs.size<=z/\h.objs.size<=TI/\h.objs.size<=TO/\h.objs.size<=i1/\h.objs.size<=i2/\Apart z TI TO i1 i2 l1 l2 /\
   IsZip (z5 h (BX b1) (BX b2) l1 l2) z TI TO .none/\IsPair (z5 h (BX b1) (BX b2) l1 l2) TI (.ref i1) (.ref i2)/\IsPair (z5 h (BX b1) (BX b2) l1 l2) TO .none .none /\
   F7 b1 (z5 h (BX b1) (BX b2) l1 l2) i1 l1 0/\F7 b2 (z5 h (BX b1) (BX b2) l1 l2) i2 l2 0/\∀c o,h.get? c=some o->(z5 h (BX b1) (BX b2) l1 l2).get? c=some o:=by
 have s1:(z1 h (BX b1) l1).objs.size=h.objs.size+1:=rG ..;have s2:(z2 h (BX b1) (BX b2) l1 l2).objs.size=h.objs.size+2:=by unfold z2;rw[rG,s1]
 have s3:(z3 h (BX b1) (BX b2) l1 l2).objs.size=h.objs.size+3:=by unfold z3;rw[rG,s2]
 have s4:(z4 h (BX b1) (BX b2) l1 l2).objs.size=h.objs.size+4:=by unfold z4;rw[rG,s3]
 have lt:∀{b:Bool}{l:Addr}{xs:Array Value},DI b h l xs->l<h.objs.size:=λ{b l xs} c=>by
  cases b
  .obtain⟨o,e,_⟩:=c;exact qp e
  .obtain⟨o,e,_⟩:=c;exact qp e
 have t1:@LT.lt Nat _ l1 h.objs.size:=lt c1;have t2:@LT.lt Nat _ l2 h.objs.size:=lt c2;refine⟨(z4 h (BX b1) (BX b2) l1 l2).objs.size,(z2 h (BX b1) (BX b2) l1 l2).objs.size,(z3 h (BX b1) (BX b2) l1 l2).objs.size,h.objs.size,(z1 h (BX b1) l1).objs.size,rfl,by lia,by lia,by lia,by lia,by lia,⟨?_,?_,?_⟩,?_,?_,?_,?_,?_,?_⟩
 .rw[s1,s2,s3,s4];refine⟨?_,?_,?_,?_,?_,?_⟩<;>(intro e;have e2:@Eq Nat _ _:=e;lia)
 .rw[s1,s2,s3];refine⟨?_,?_,?_,?_,?_,?_⟩<;>(intro e;have e2:@Eq Nat _ _:=e;lia)
 .rw[s1,s3];refine⟨?_,?_,?_,?_,?_,?_⟩<;>(intro e;have e2:@Eq Nat _ _:=e;lia)
 .exact qo _ rfl
 .exact qa _ (qa _ (qo _ rfl))
 .exact qa _ (qo _ rfl)
 .exact F7.new (qa _ (qa _ (qa _ (qa _ (qo _ rfl)))))
 .exact F7.new (qa _ (qa _ (qa _ (qo _ rfl))))
 .exact λc o e=>qa _ (qa _ (qa _ (qa _ (qa _ e))))
end Zp
end PySem
namespace Lake.L2
open PySem PySem.Spec PyProof.Rows
def iZip(K:Fg)(ta:TA):TI:=λσ H R=>ta σ H λvs H1=>∃b1 a1 b2 a2,vs=[.ref a1,.ref a2]/\(∃xs,SqB b1 K H1 a1 xs)/\(∃ys,SqB b2 K H1 a2 ys)/\R (Itz K b1 a1 b2 a2) H1
theorem WA(hg:Gl X "zip")(hm:X.mg "zip"=none)(ha:PA X [a,b] ta)(hs:starEach [a,b] X.env=[(false,eval a X.env),(false,eval b X.env)]:=by rfl)(ba:starEach [b] X.env=[(false,eval b X.env)]:=by rfl):
  PI X (.Tuple bP k0 bV) (.Call (.Name "zip" p) [a,b] [] pos) (iZip X.K ta):=by
 intro aa s σ H R I h;refine Call_ (Dp I hg hm boot_zip (callWith_type1 (thn (ha pos aa s σ H _ I h) λus s1 ao=>?_) (by rw[hs,ba]) (by rw[ba];rfl)));obtain⟨vs,H1,I1,r1,q1⟩:= ao;obtain⟨b1,a1,b2,a2,e,⟨xs,hx⟩,⟨ys,hy⟩,q⟩:=q1;subst e;cases r1 with
 |cons r rr =>
  cases rr with
  |cons r' rr =>
   cases rr;cases r;cases r';obtain⟨bS,kA,c1,_⟩:=I1.sqb hx;obtain⟨aW,kB,c2,_⟩:=I1.sqb hy;refine Zp.KJ (C1:=λh=>Zp.DI b1 h a1 bS.toArray) (C2:=λh=>Zp.DI b2 h a2 aW.toArray) (Zp.Kl b1 a1 bS.toArray) (Zp.Kl b2 a2 aW.toArray) (λh o c=>Zp.DI.at c λo e=>qa _ e) c1 c2 ?_;obtain⟨z,TI,TO,i1,i2,ez,g0,g1,g2,g3,g4,D,hz,aY,bC,t1,t2,hk⟩:=Zp.made c1 c2;rw[<- ez];refine wpAny_pyIter_zip hz ⟨z,[z,TI,TO,i1,i2],_,Itz X.K b1 a1 b2 a2,H1,rfl,I1.kept hk,OE D,⟨hz,aY,⟨_,_,bC⟩,t1,t2⟩,λb hb=>?_,q⟩;have fA:s1.heap.objs.size<=b:=by simp only[qA,qW,or_false]at hb;rcases hb with rfl|rfl|rfl|rfl|rfl<;>assumption
   exact I1.Qj fA (I1.z9.fresh fA)
end Lake.L2
namespace PySem
end PySem
namespace Lake.L2
open PySem PySem.Spec PyProof.Rows
variable{X:Cx}
inductive Q6(K:Fg)(x:V)(y:V)(H:Hp)(Q:VK):Prop
 |mk (a b ys:_) (h0:x=.ref a) (h1:y=.ref b) (h2:SqT K H a []) (h3:SqT K H b ys) (h4:Q (.ref b) H)
theorem Pj:OpR X (binaryOp .Add) (Q6 X.K):=by intro aa s σ H x y v u Q I rx ry h;obtain⟨a,b,ys,rfl,rfl,ha,hb,q⟩:=h;cases rx;cases ry;obtain⟨aq,r1,⟨⟨cls,dd,data,sl⟩,ho,hc,n,hd⟩,_⟩:=I.tuple ha;obtain⟨aW,r2,⟨⟨jD,i6,data2,jA⟩,gz,cz,n2,hd2⟩,_⟩:=I.tuple hb;subst hc hd cz hd2;cases r1;exact concat_meets ⟨_,ho,rfl⟩ ⟨_,gz,rfl⟩ noFill_tuple_add seq_tuple_add slot_tuple_add entry_tuple_add (args_tuple_add_2 _ _) (tuple_addW0 a b _ _ n n2 dd i6 sl jA (by simp)) ⟨ho,gz,⟨.ref b,H,I,rfl,q⟩⟩
end Lake.L2
namespace PySem
namespace Zp
abbrev Hq(h:Heap)(z TI TO a:Addr)(f:Bool):Prop:=h.get? z=some {cls:=.type "zip",data:=.fields #[rawInt a,.bool f,.bool false,.ref TI,.ref TO]}
variable{prog:Program}{w:World}{A:Around}{E:Value->Shared->Prop}{s:Shared}{z TI TO i1 i2 l1 l2 ad:Addr}{xs ys:Array Value}{S1 S2:Nat->Heap->Prop}
theorem alive(ho:s.heap.get? a=some o)(h:Q (some o) s):wpAny (model prog w) A (loadIfAlive a) Q E s:=by
 have h':Q (s.heap.get? a) s:=by rwa[ho]
 exact λ_ _ _=>h'
theorem MI(hz:Hq s.heap z TI TO ad f)(ha:s.heap.get? ad=some oa)(hQ:∀h',Hq h' z TI TO ad true->Heap.SameBut z s.heap h'->Q false {s with heap:=h' }):
  wpAny (model prog w) A (Builtin.SmallTypes.ownedTupleIsFree (.ref z)) Q E s:=by
 refine p9 (qJ hz rfl rfl ?_);show wpAny _ _ (loadIfAlive ((ad:Int).toNat) >>= _) _ _ _;refine p9 (alive ha ?_);refine p9 (qJ hz rfl (x:=.bool f) rfl ?_);cases f with|true =>exact qg (hQ s.heap hz (Heap.SameBut.refl _ _))|false =>exact p9 (wpAny_setField_rec hz (by simp) λh3 he hs=>qg (hQ h3 he hs))
theorem MJ(D:Apart z TI TO i1 i2 l1 l2)(W1:Draws prog w i1 l1 xs S1)(W2:Draws prog w i2 l2 ys S2){Q:Value->Shared->Prop}
  (hz:Hq s.heap z TI TO ad f) (ha:s.heap.get? ad=some oa) (aY:IsPair s.heap TI (.ref i1) (.ref i2)) (h1:S1 k s.heap) (h2:S2 k s.heap) (hx:xs[k]?=some x) (hy:ys[k]?=some y)
  (hQ:∀h',Hq h' z TI TO ad true->S1 (k+1) h'->S2 (k+1) h'->IsPair h' s.heap.objs.size x y->h'.objs.size=s.heap.objs.size+1 ->
   (∀c o,c≠z->c≠i1->c≠i2->s.heap.get? c=some o->h'.get? c=some o)->Q (.ref s.heap.objs.size) {s with heap:=h' }) :
  wpAny (model prog w) A (Builtin.«zip.__next__» ⟨[.ref z],[]⟩) (λaT s'=>∃v,aT=.done (.ret v)/\Q v s') E s:=by
 obtain⟨⟨eT,dC,cE,cS,eP,eQ⟩,⟨cq,bX,bY,bN,bO,dP⟩,⟨b9,bw,cb,bT,bI,bx⟩⟩:=D;show wpAny _ _ (field (.ref z) 2 >>= _) _ _ _;refine p9 (qJ hz rfl rfl ?_);show wpAny _ _ (field (.ref z) 3 >>= _) _ _ _;refine p9 (qJ hz rfl rfl ?_);refine p9 (wpAny_seqItems aY rfl ?_);show wpAny _ _ (Builtin.SmallTypes.ownedTupleIsFree (.ref z) >>= _) _ _ _;refine p9 (MI hz ha λhA lJ dJ=>?_);refine p9 (p9 (p9 (wpAny_holding ?_)));show wpAny _ _ (Builtin.SmallTypes.nextOf (.ref i1) >>= _) _ _ _;refine p9 (W1.item _ _ k x _ _ (W1.keep _ _ _ h1 (λo e=>dJ.extBut _ _ cE e) λo e=>dJ.extBut _ _ eP e) hx λhb g8 bj=>qg (qg ?_));refine p9 (p9 (wpAny_holding ?_));show wpAny _ _ (Builtin.SmallTypes.nextOf (.ref i2) >>= _) _ _ _;refine p9 (W2.item _ _ k y _ _ (W2.keep _ _ _ h2 (λo e=>bj.extBut _ _ (Ne.symm dP) (dJ.extBut _ _ cS e)) λo e=>bj.extBut _ _ bI (dJ.extBut _ _ eQ e)) hy λhd jJ cB=>qg (qg (qg ?_)));refine p9 (wpAny_newTuple (hsz:=by show 2<=sizeLine;rw[sizeLine_eq];decide) ?_);have hsz:hd.objs.size=s.heap.objs.size:=by rw[cB.1,bj.1,dJ.1]
 refine qg ⟨_,rfl,?_⟩;rw[hsz];refine hQ _ (qa _ (cB.extBut _ _ (Ne.symm cS) (bj.extBut _ _ (Ne.symm cE) lJ))) (W1.keep _ _ _ (W1.keep _ _ _ g8 (λo e=>cB.extBut _ _ dP e) λo e=>cB.extBut _ _ cb e) (λo e=>qa _ e) λo e=>qa _ e) (W2.keep _ _ _ jJ (λo e=>qa _ e) λo e=>qa _ e) ?_ (by rw[rG,hsz]) λc o c1 c2 c3 e=>qa _ (cB.extBut _ _ c3 (bj.extBut _ _ c2 (dJ.extBut _ _ c1 e)))
 rw[<- hsz];exact qo _ rfl
theorem Qv(hh:A.handled=none)(D:Apart z TI TO i1 i2 l1 l2)(W1:Draws prog w i1 l1 xs S1)(W2:Draws prog w i2 l2 ys S2)
  (hz:Hq s.heap z TI TO ad f) (ha:s.heap.get? ad=some oa) (aY:IsPair s.heap TI (.ref i1) (.ref i2)) (h1:S1 k s.heap) (h2:S2 k s.heap) (bu:xs[k]?=none\/ys[k]?=none)
  (hE:∀h' e,(∀c o,c≠z->c≠i1->c≠i2->s.heap.get? c=some o->h'.get? c=some o)->(∃o,h'.get? e=some o/\o.cls=.type "StopIteration")->E (.ref e) {s with heap:=h' }) :
  wpAny (model prog w) A (Builtin.«zip.__next__» ⟨[.ref z],[]⟩) Q E s:=by
 obtain⟨⟨eT,dC,cE,cS,eP,eQ⟩,⟨cq,bX,bY,bN,bO,dP⟩,⟨b9,bw,cb,bT,bI,bx⟩⟩:=D;show wpAny _ _ (field (.ref z) 2 >>= _) _ _ _;refine p9 (qJ hz rfl rfl ?_);show wpAny _ _ (field (.ref z) 3 >>= _) _ _ _;refine p9 (qJ hz rfl rfl ?_);refine p9 (wpAny_seqItems aY rfl ?_);show wpAny _ _ (Builtin.SmallTypes.ownedTupleIsFree (.ref z) >>= _) _ _ _;refine p9 (MI hz ha λhA lJ dJ=>?_);refine p9 (p9 (p9 (wpAny_holding ?_)));show wpAny _ _ (Builtin.SmallTypes.nextOf (.ref i1) >>= _) _ _ _;have g7:=W1.keep _ _ _ h1 (λo e=>dJ.extBut _ _ cE e) λo e=>dJ.extBut _ _ eP e
 cases hx:xs[k]? with
 |none=>exact p9 (W1.stop _ _ k _ _ hh g7 hx λhb e bj he=>hE hb e (λc o c1 c2 c3 q=>bj _ _ c2 (dJ.extBut _ _ c1 q)) he)
 |some x =>
  refine p9 (W1.item _ _ k x _ _ g7 hx λhb g8 bj=>qg (qg ?_));refine p9 (p9 (wpAny_holding ?_));show wpAny _ _ (Builtin.SmallTypes.nextOf (.ref i2) >>= _) _ _ _;exact p9 (W2.stop _ _ k _ _ hh (W2.keep _ _ _ h2 (λo e=>bj.extBut _ _ (Ne.symm dP) (dJ.extBut _ _ cS e)) λo e=>bj.extBut _ _ bI (dJ.extBut _ _ eQ e)) (by
   rcases bu with h|h
   .rw[hx]at h;cases h
   .exact h) λhd e cB he=>hE hd e (λc o c1 c2 c3 q=>cB _ _ c3 (bj.extBut _ _ c2 (dJ.extBut _ _ c1 q))) he)
theorem Jk(D:Apart z TI TO i1 i2 l1 l2)(W1:Draws prog w i1 l1 xs S1)(W2:Draws prog w i2 l2 ys S2)
  (hz:Hq s.heap z TI TO ad f) (ha:s.heap.get? ad=some oa) (aY:IsPair s.heap TI (.ref i1) (.ref i2)) (h1:S1 k s.heap) (h2:S2 k s.heap) (hx:xs[k]?=some x) (hy:ys[k]?=some y)
  (hQ:∀h',Hq h' z TI TO ad true->S1 (k+1) h'->S2 (k+1) h'->IsPair h' s.heap.objs.size x y->h'.objs.size=s.heap.objs.size+1 ->
   (∀c o,c≠z->c≠i1->c≠i2->s.heap.get? c=some o->h'.get? c=some o)->Q (some (.ref s.heap.objs.size)) {s with heap:=h' }):wpAny (model prog w) A (pyNext (.ref z)) Q E s:=by
 have hT:s.TypeIs (.ref z) "zip":=⟨_,hz,rfl⟩
 exact p9 (wpAny_attempt (wpAny_callSpecial?_slot hT F.slot_zip_next (wpAny_call_entry F.slot_zip_next hT F.entry_zip_next
  (MJ D W1 W2 hz ha aY h1 h2 hx hy λh' a1 a3 a4 a5 a6 a7=>qg (hQ h' a1 a3 a4 a5 a6 a7)) (F.args_zip_next_1 _))))
theorem Ld(hh:A.handled=none)(D:Apart z TI TO i1 i2 l1 l2)(W1:Draws prog w i1 l1 xs S1)(W2:Draws prog w i2 l2 ys S2)
  (hz:Hq s.heap z TI TO ad f) (ha:s.heap.get? ad=some oa) (aY:IsPair s.heap TI (.ref i1) (.ref i2)) (h1:S1 k s.heap) (h2:S2 k s.heap) (bu:xs[k]?=none\/ys[k]?=none)
  (hQ:∀h',(∀c o,c≠z->c≠i1->c≠i2->s.heap.get? c=some o->h'.get? c=some o)->Q none {s with heap:=h' }):wpAny (model prog w) A (pyNext (.ref z)) Q E s:=by
 have hT:s.TypeIs (.ref z) "zip":=⟨_,hz,rfl⟩
 refine p9 (wpAny_attempt (wpAny_callSpecial?_slot hT F.slot_zip_next (wpAny_call_entry F.slot_zip_next hT F.entry_zip_next
  (Qv (show A.in1.handled=none from hh) D W1 W2 hz ha aY h1 h2 bu λh' e hk he=>?_) (F.args_zip_next_1 _))))
 obtain⟨o,ho,hc⟩:=he;refine p9 (wpAny_isInstance ⟨o,ho,hc⟩ isSubtype_stop ?_);exact qg (hQ _ hk)
def Frs(b1 b2:Bool)(h:Heap)(z TI TO i1 i2 l1 l2 lo:Addr)(i:Nat):Prop :=
 ((i=0/\IsZip h z TI TO .none/\∃a b,IsPair h TO a b)\/∃ad f oa,Hq h z TI TO ad f/\h.get? ad=some oa/\lo<=ad)/\IsPair h TI (.ref i1) (.ref i2)/\F7 b1 h i1 l1 i/\F7 b2 h i2 l2 i
theorem Frs.keep(x:Frs b1 b2 h z TI TO i1 i2 l1 l2 lo i)(hk:∀b o,b≠S->h.get? b=some o->h'.get? b=some o)(hS:∀b∈[z,TI,TO,i1,i2],b≠S)(bM:S<lo):Frs b1 b2 h' z TI TO i1 i2 l1 l2 lo i:=by
 obtain⟨x,p,t1,t2⟩:=x;refine⟨?_,hk _ _ (hS _ (by simp)) p,t1.at λo e=>hk _ o (hS _ (by simp)) e,t2.at λo e=>hk _ o (hS _ (by simp)) e⟩;rcases x with⟨e,hz,a,b,ht⟩|⟨ad,f,oa,hz,ha,hl⟩
 .exact .inl ⟨e,hk _ _ (hS _ (by simp)) hz,a,b,hk _ _ (hS _ (by simp)) ht⟩
 .exact .inr ⟨ad,f,oa,hk _ _ (hS _ (by simp)) hz,hk _ _ (λq=>absurd (qC bM hl) (by rw[q];exact rd _)) ha,hl⟩
variable{lo S:Addr}{b1 b2:Bool}{R:Result->Shared->Prop}
theorem OG(D:Apart z TI TO i1 i2 l1 l2)(st:Frs b1 b2 s.heap z TI TO i1 i2 l1 l2 lo k)(c1:DI b1 s.heap l1 xs)(c2:DI b2 s.heap l2 ys)(hx:xs[k]?=some x)(hy:ys[k]?=some y)(hl:lo<=s.heap.objs.size)(bM:∀b∈[z,TI,TO,i1,i2,l1,l2],b<lo)
  (hQ:∀h',Frs b1 b2 h' z TI TO i1 i2 l1 l2 lo (k+1)->DI b1 h' l1 xs->DI b2 h' l2 ys->IsPair h' s.heap.objs.size x y->h'.objs.size=s.heap.objs.size+1 ->
   (∀c o,c≠z->c≠TO->c≠i1->c≠i2->s.heap.get? c=some o->h'.get? c=some o)->Q (some (.ref s.heap.objs.size)) {s with heap:=h' }):wpAny (model prog w) A (pyNext (.ref z)) Q E s:=by
 obtain⟨x0,p,t1,t2⟩:=st;obtain⟨⟨eT,dC,cE,cS,eP,eQ⟩,⟨cq,bX,bY,bN,bO,dP⟩,⟨b9,bw,cb,bT,bI,bx⟩⟩:=id D;rcases x0 with⟨e,hz,a,b,ht⟩|⟨ad,f,oa,hz,ha,eW⟩
 .exact Gi D (A1 b1 bw) (A1 b2 bx) hz p ht ⟨t1,c1⟩ ⟨t2,c2⟩ hx hy λh' fH _ s1 s2 hp hs hk=>hQ h' ⟨.inr ⟨_,false,_,fH,hp,hl⟩,hk _ _ eT cq bX bY p,s1.1,s2.1⟩ s1.2 s2.2 hp hs hk
 .have aI:∀b∈[z,TI,TO,i1,i2,l1,l2],ad≠b:=λb hb q=>absurd (qC (bM b hb) eW) (by rw[q];exact rd _)
  exact Jk D (A1 b1 bw) (A1 b2 bx) hz ha p ⟨t1,c1⟩ ⟨t2,c2⟩ hx hy λh' fH s1 s2 hp hs hk=>hQ h' ⟨.inr ⟨ad,true,oa,fH,hk _ _ (aI _ (by simp)) (aI _ (by simp)) (aI _ (by simp)) ha,eW⟩,hk _ _ eT bX bY p,s1.1,s2.1⟩ s1.2 s2.2 hp hs λc o q1 _ q3 q4 e=>hk c o q1 q3 q4 e
theorem UW(hh:A.handled=none)(D:Apart z TI TO i1 i2 l1 l2)(st:Frs b1 b2 s.heap z TI TO i1 i2 l1 l2 lo k)(c1:DI b1 s.heap l1 xs)(c2:DI b2 s.heap l2 ys)(bu:xs[k]?=none\/ys[k]?=none)
  (hQ:∀h',(∀c o,c≠z->c≠TO->c≠i1->c≠i2->s.heap.get? c=some o->h'.get? c=some o)->Q none {s with heap:=h' }):wpAny (model prog w) A (pyNext (.ref z)) Q E s:=by
 obtain⟨x0,p,t1,t2⟩:=st;obtain⟨⟨eT,dC,cE,cS,eP,eQ⟩,⟨cq,bX,bY,bN,bO,dP⟩,⟨b9,bw,cb,bT,bI,bx⟩⟩:=id D;rcases x0 with⟨e,hz,a,b,ht⟩|⟨ad,f,oa,hz,ha,eW⟩
 .exact Gj hh D (A1 b1 bw) (A1 b2 bx) hz p ht ⟨t1,c1⟩ ⟨t2,c2⟩ bu hQ
 .exact Ld hh D (A1 b1 bw) (A1 b2 bx) hz ha p ⟨t1,c1⟩ ⟨t2,c2⟩ bu λh' hk=>hQ h' λc o q1 _ q3 q4 e=>hk c o q1 q3 q4 e
end Zp
end PySem
namespace PySem
namespace F
end F
namespace Zp
variable{prog:Program}{w:World}{A:Around}{E:Value->Shared->Prop}{s:Shared}{z TI TO i1 i2 l1 l2 S:Addr}{xs ys:Array Value}{b1 b2:Bool}{R:Result->Shared->Prop}
end Zp
end PySem
namespace Lake.L2
open PySem PySem.Spec PyProof.Rows
variable{X:Cx}{aa:List (Addr×Obj)}{σ:St}{H H':Hp}{s:Shared}
theorem Inv.T3{fp:List Addr}(I:Inv X aa σ H s)(k:∀b o,b∉fp->s.heap.get? b=some o->h'.get? b=some o)(hf:∀b∈fp,I0 X aa H b)
  (up:∀b u,H b=some u->H' b=some u) (dn:∀b u,H' b=some u->H b=some u\/(s.heap.objs.size<=b/\A7 X.prog X.w H' h' b u)):Inv X aa σ H' {s with heap:=h',toks:=t' }:=by
 have gd:∀b u,H b=some u->b∉fp:=λb u e z=>by rw[(hf b z).1]at e;cases e
 refine I.step (λb hb=>?_) (λb o _ _ hc e _=>k b o hc e) (λb o _ _ hc e _=>⟨o.slots,k b o hc e⟩) (λb o _ e n=>?_)
  (λb o hc e=>⟨o,k b o hc e⟩) (λb _ e=>up b _ e) (λb _ _ e=>up b _ e) (λb ps e=>⟨#[],by rw[up b _ e];simp⟩) (λm hm=>?_) (λb u e=>?_) I.bare
 .obtain⟨f0,f1,f2,f3,f4,f5⟩:=hf b hb;exact⟨f3,f1,f4,f5⟩
 .cases q:H' b with
  |none=>rfl
  |some u =>
   rcases dn b u q with z|z
   .rw[n]at z;cases z
   .exact absurd (qC (qp e) z.1) (rd _)
 .obtain⟨o,es,ep,ho,r⟩:=hm;exact⟨o,es,ep,k _ o (λz=>(hf _ z).2.1 rfl) ho,r⟩
 .rcases dn b u e with z|z
  .refine(I.z9 b u z).Me (λc v hc q=>k c v ?_ q) (λc q=>up c _ q) λc _ q=>up c _ q
   rcases hc with y|y
   .rw[y];exact gd b u z
   .exact gd c _ y
  .exact z.2
end Lake.L2
namespace PySem
namespace F
theorem Jo:typeLookup (.type "tuple") "__reversed__"=pure none:=by rw[typeLookup_type,builtinLookup_eq_fast];kernel_rfl
theorem GO:Manifest.owners.lookup (String.ofList ['d','e','s','r','e','v','e','r'].reverse)=some Manifest.sig_reversed:=by kernel_rfl
theorem BM:Slot "reversed" "__next__" "reversed.__next__" :=
 .of (owner:="reversed") (n:="__next__") (by rw[typeLookup_type,builtinLookup_eq_fast];kernel_rfl) (by decide +kernel) (by decide +kernel) (by decide +kernel)
  (by first|exact .inl (by decide +kernel)|exact .inr (by decide +kernel)) (by rw[isSubtype_type];kernel_rfl)
theorem DY:entryFor table "reversed.__next__"=some Builtin.«reversed.__next__»:=entryFor_of_tree (by kernel_rfl)
theorem EA(a:Value):argsOk "reversed.__next__" ⟨[a],[]⟩:=by unfold argsOk;rw[signature?_of (n:=['_','_','t','x','e','n','_','_']) (by kernel_rfl) GO];kernel_rfl
theorem Er:Slot "reversed" "__iter__" "reversed.__iter__" :=
 .of (owner:="reversed") (n:="__iter__") (by rw[typeLookup_type,builtinLookup_eq_fast];kernel_rfl) (by decide +kernel) (by decide +kernel) (by decide +kernel)
  (by first|exact .inl (by decide +kernel)|exact .inr (by decide +kernel)) (by rw[isSubtype_type];kernel_rfl)
theorem IW(a:Value):argsOk "reversed.__iter__" ⟨[a],[]⟩:=by unfold argsOk;rw[signature?_of (n:=['_','_','r','e','t','i','_','_']) (by kernel_rfl) GO];kernel_rfl
theorem G9:entryFor table "reversed.__iter__"=some Builtin.«dict_keyiterator.__iter__» :=
 entryFor_alias (id':="dict_keyiterator.__iter__") (by kernel_rfl) (by first|rfl|decide +kernel|(unfold String.splitOn;simp +decide [String.splitOnAux])) (by decide +kernel) (by kernel_rfl)
theorem HA:Slot "reversed" "__init__" "object.__init__" :=
 .of (owner:="object") (n:="__init__") (by rw[typeLookup_type,builtinLookup_eq_fast];kernel_rfl) (by decide +kernel) (by decide +kernel) (by decide +kernel)
  (by first|exact .inl (by decide +kernel)|exact .inr (by decide +kernel)) (by rw[isSubtype_type];kernel_rfl)
theorem NW:TypeCalled "reversed" "reversed.__new__" "object.__init__" :=
 ⟨by decide +kernel,by decide +kernel,⟨_,_,mro_reversed⟩,made_reversed,by decide +kernel,by rw[isSubtype_type];kernel_rfl,HA⟩
theorem Pl:typeLookup (.type "reversed") "__len__"=pure none:=by rw[typeLookup_type,builtinLookup_eq_fast];kernel_rfl
theorem CV:Slot "reversed" "__length_hint__" "reversed.__length_hint__" :=
 .of (owner:="reversed") (n:="__length_hint__") (by rw[typeLookup_type,builtinLookup_eq_fast];kernel_rfl) (by decide +kernel) (by decide +kernel) (by decide +kernel)
  (by first|exact .inl (by decide +kernel)|exact .inr (by decide +kernel)) (by rw[isSubtype_type];kernel_rfl)
theorem Ha:entryFor table "reversed.__length_hint__"=some Builtin.«reversed.__length_hint__»:=entryFor_of_tree (by kernel_rfl)
theorem IX(a:Value):argsOk "reversed.__length_hint__" ⟨[a],[]⟩:=by unfold argsOk;rw[signature?_of (n:="__length_hint__".toList.reverse) (by kernel_rfl) GO];kernel_rfl
end F
end PySem
namespace PySem
open PyProof.Rows (IsTup)
namespace Rv
theorem L8(x:IsTup h t items)(e:∀o,h.get? t=some o->h'.get? t=some o):IsTup h' t items:=let⟨o,ho,r⟩:=x;⟨o,e _ ho,r⟩
def obj(t:Addr)(i:Int):Obj:={cls:=.type "reversed",data:=.fields #[.ref t,rawInt i]}
def Is(h:Heap)(a t:Addr)(i:Int):Prop:=∃o,h.get? a=some o/\o.cls=.type "reversed"/\o.data=.fields #[.ref t,rawInt i]
theorem Is.typeIs{s:Shared}(x:Is s.heap a t i):s.TypeIs (.ref a) "reversed":=let⟨o,ho,hc,_⟩:=x;⟨o,ho,hc⟩
theorem Is.at(x:Is h a t i)(e:∀o,h.get? a=some o->h'.get? a=some o):Is h' a t i:=let⟨o,ho,r⟩:=x;⟨o,e _ ho,r⟩
theorem E8(t:Addr)(items:Array Value)(hz:items.size<=sizeLine):
  Meets (Builtin.«reversed.__new__» ⟨[.type "reversed",.ref t],[]⟩) (λ_ R s=>IsTup s.heap t items/\∀tk,R (.ok (.ret (.ref s.heap.objs.size))) {s with heap:=s.heap.push (obj t ((items.size:Int)-1)),toks:=tk}) :=
 .of_wp λprog w A R s h=>by
  obtain⟨ht,h⟩:=h;refine p9 (wpAny_of_eq (newClass_reversed _) ?_)
  try dsimp only
  refine p9 (wpAny_of_eq (by first|rfl|kernel_rfl) ?_);refine p9 (wpAny_of_eq (by first|rfl|kernel_rfl) ?_)
  try dsimp only
  refine p9 (wpAny_specialOf ht.typeIs F.Jo ?_)
  try dsimp only
  refine p9 ?_;refine p9 (wpAny_isInstance (b:=false) ht.typeIs (by rw[isSubtype_type];kernel_rfl) ?_);refine p9 (wpAny_specialOf ht.typeIs PyProof.Rows.slot_tuple_getitem.lookup ?_);refine wpAny_ite_split (λ_=>qg ?_) (λfm=>absurd (by decide +kernel) fm);refine p9 (len_tuple ht (by rw[sizeLine_eq]at hz;lia) ?_);refine p9 (qg ?_);unfold Builtin.SmallTypes.newRecord;refine p9 (wpAny_newObj_type (qg ⟨_,rfl,h _⟩) (by size_fits))
variable{prog:Program}{w:World}{A:Around}{E:Value->Shared->Prop}{s:Shared}
theorem QI(hz:items.size<=sizeLine)(ht:IsTup s.heap t items)(h:∀tk,Q (.ref s.heap.objs.size) {s with heap:=s.heap.push (obj t ((items.size:Int)-1)),toks:=tk}):
  wpAny (model prog w) A (call (.type "reversed") [.ref t]) Q E s :=
 callType_new F.NW (by decide) (F.typeCall_reversed_1 _) (F.newCall_reversed_1 _) (λob=>F.args_object_init_2 ob _) F.entry_reversed_new (E8 t items hz) ⟨ht,λtk=>⟨⟨_,qo _ rfl,rfl⟩,h tk⟩⟩
theorem next_item{i:Nat}(aL:Is s.heap it t (i:Int))(ht:IsTup s.heap t items)(hz:items.size<=sizeLine)(hx:items[i]?=some x)(aI:t≠it)
  (hQ:∀h' tk,s.toks<=tk->Is h' it t ((i:Int)-1)->Heap.SameBut it s.heap h'->Q (some x) {s with heap:=h',toks:=tk}):wpAny (model prog w) A (pyNext (.ref it)) Q E s:=by
 obtain⟨o,ho,hc,hd⟩:=id aL;have hi:i<items.size:=by
  rcases Nat.lt_or_ge i items.size with q|q
  .exact q
  .rw[Array.getElem?_eq_none q]at hx;cases hx
 rw[sizeLine_eq]at hz;refine p9 (wpAny_attempt (wpAny_callSpecial?_slot aL.typeIs F.BM
  (wpAny_call_entry F.BM aL.typeIs F.DY ?_ (F.EA _))))
 refine p9 (wpAny_of_eq rfl ?_)
 try dsimp only
 refine p9 (qJ ho hd rfl ?_);refine p9 (qJ ho hd rfl ?_);refine p9 (wpAny_specialOf ht.typeIs PyProof.Rows.slot_tuple_getitem.lookup ?_);refine p9 (wpAny_mkInt ?_);refine p9 (wpAny_attempt (PyProof.Rows.getItem_tuple ht (by lia) (by lia) (by unfold seqIndex?;simp only[show ¬((i:Int)<0)from by lia];simp[hi]) hx ?_));refine p9 (qJ ho hd rfl ?_);refine p9 (wpAny_setField ho hd (by simp) ?_);refine qg ⟨x,rfl,qg (hQ _ _ ?_ ?_ (Heap.SameBut.update ..))⟩
 .exact qF (Nat.le_succ _) (qz _)
 .exact⟨_,rn _ ho (Obj.isFreed_of_fields (Obj.data_mapFields hd _)),(Obj.cls_mapFields ..).trans hc,by rw[Obj.data_mapFields hd];simp⟩
theorem next_end(hh:A.handled=none)(aL:Is s.heap it t (-1))
  (hQ:∀h',Heap.ExtBut it s.heap h'->Q none {s with heap:=h' }):wpAny (model prog w) A (pyNext (.ref it)) Q E s:=by
 obtain⟨o,ho,hc,hd⟩:=id aL;refine p9 (wpAny_attempt (wpAny_callSpecial?_slot aL.typeIs F.BM
  (wpAny_call_entry F.BM aL.typeIs F.DY ?_ (F.EA _))))
 refine p9 (wpAny_of_eq rfl ?_)
 try dsimp only
 refine p9 (qJ ho hd rfl ?_);refine p9 (qJ ho hd rfl ?_);refine p9 (wpAny_rule ?_);refine p9 ?_;refine p9 (wpAny_setField ho hd (by simp) ?_);refine wpAny_setField (rn (Obj.mapFields (λvs=>vs.setIfInBounds 1 (rawInt (-1)))) ho (Obj.isFreed_of_fields (Obj.data_mapFields hd _))) (Obj.data_mapFields hd _) (by simp) ?_;refine p9 ?_;refine p9 ?_;refine p9 (wpAny_newObj_type ?_ (by size_fits));refine p9 (wpAny_of_eq (by first|rfl|(simp only;rfl)) ?_);refine wpAny_newObj_type ?_ (by size_fits);refine p9 (wpAny_handled ?_)
 first|rw[show A.in1.handled=none from hh]|rw[hh]
 refine p9 (qg (wpAny_throw ?_));refine p9 (wpAny_isInstance ⟨_,qo _ rfl,rfl⟩ isSubtype_stop ?_);refine qg (hQ _ ?_);exact λb ob hb e=>qa _ (qa _ ((Heap.SameBut.update ..).extBut b ob hb ((Heap.SameBut.update ..).extBut b ob hb e)))
theorem Ic(aL:Is s.heap it t i)(h:Q (.ref it) s):wpAny (model prog w) A (pyIter (.ref it)) Q E s:=by refine wpAny_pyIter_slot aL.typeIs F.Er (wpAny_call_entry F.Er aL.typeIs F.G9 ?_ (F.IW _));exact qg ⟨_,rfl,"reversed",_,aL.typeIs,F.BM.lookup,h⟩
theorem NY{i:Nat}(aL:Is s.heap it t ((i:Int)-1))(ht:IsTup s.heap t items)(hz:items.size<=sizeLine)(hi:i<=items.size)
  (h:∀tk u,s.toks<=tk->Q (.int (i:Int) u) {s with toks:=tk}):wpAny (model prog w) A (call (.builtin "reversed.__length_hint__") [.ref it]) Q E s:=by
 obtain⟨o,ho,hc,hd⟩:=id aL;have jV:(items.size:Int)<2^63:=by rw[sizeLine_eq]at hz;lia
 refine wpAny_call_entry F.CV aL.typeIs F.Ha ?_ (F.IX _);unfold Builtin.«reversed.__length_hint__»;refine p9 (wpAny_of_eq rfl ?_);refine p9 (qJ ho hd (x:=.ref t) rfl ?_);rw[if_neg (show ¬((Value.ref t==Value.none)=true)from qN)];refine p9 (len_tuple ht jV ?_);refine p9 (qg ?_);dsimp only;refine p9 (qJ ho hd (x:=rawInt ((i:Int)-1)) rfl ?_);dsimp only[rawInt];have e:(i:Int)-1+1=(i:Int):=by lia
 rw[if_neg (by lia),e];exact p9 (wpAny_mkInt (qg ⟨_,rfl,h _ _ (by show s.toks<=s.toks+1+1+1;lia)⟩))
meta theorem hint{it t:Addr}{items:Array Value}{Q:Bool->Shared->Prop}(aL:Is s.heap it t ((items.size:Int)-1))(ht:IsTup s.heap t items)(hz:items.size<=sizeLine)
  (h:∀b tk,s.toks<=tk->Q b {s with toks:=tk}):wpAny (model prog w) A (Builtin.List.listLengthHint (.ref it)) Q E s:=by
 have hT:=aL.typeIs;unfold Builtin.List.listLengthHint;refine p9 (wpAny_specialOf hT F.Pl ?_);show wpAny _ _ (specialOf (Value.ref it) (Str.ofString "__length_hint__") >>= _) _ _ _;refine p9 (wpAny_specialOf hT F.CV.lookup ?_);generalize hid:("reversed.__length_hint__":String)=id0
 wp_delta
 rw[show splitId id0=some ("reversed","__length_hint__")from by subst hid;decide +kernel];subst hid;refine p9 (wpAny_isInstance (T:="reversed") (b:=true) hT (by rw[isSubtype_type];kernel_rfl) ?_);rw[if_neg (by decide)];refine wpAny_ite_split (λfm=>absurd fm (by decide)) (λ_=>?_);refine p9 (wpAny_rule ?_);refine p9 (wpAny_of_eq (F.CV.bind _) ?_);dsimp only;refine p9 (wpAny_attempt (NY aL ht hz (qz _) λtk u kb=>?_));have fH:=hz;rw[sizeLine_eq]at fH;have f1:Builtin.List.listFitsIndex (items.size:Int)=true:=by unfold Builtin.List.listFitsIndex;rw[qE,decide_eq_true_eq,decide_eq_true_eq];constructor<;>lia
 have f2:Builtin.List.listTooLong (items.size:Int).toNat=false:=by rw[rD];unfold Builtin.List.listTooLong;exact qK (Nat.not_lt.mpr hz)
 split
 next he=>cases he
 next he=>cases he
 .rename_i r _ he;cases he;have f3:¬((items.size:Int)<0):=by lia
  simp only[asInt?,pure_bind,f1,f2,f3,Bool.not_true,sL,if_false];exact qg (h _ tk kb)
theorem walks(hh:A.handled=none)(I t:Addr)(aI:t≠I)(items:Array Value)(hz:items.size<=sizeLine):
  Walks prog w A I [I,t] [I] items.size (λi v=>items[items.size-1-i]?=some v) (λi h=>i<=items.size/\Is h I t ((items.size:Int)-1-(i:Int))/\IsTup h t items) where
 sub:=λb hb=>by simp at hb;simp[hb]
 frame:=λ_ _ _ x hk=>⟨x.1,x.2.1.at λo e=>hk I (by simp) o e,L8 x.2.2 λo e=>hk t (by simp) o e⟩
 item:=λi s Q E hi x hQ=>by
  have e:(items.size:Int)-1-(i:Int)=((items.size-1-i:Nat):Int):=by lia
  have aL:=x.2.1;rw[e]at aL;have hx:items[items.size-1-i]?=some (items[items.size-1-i]'(by lia)):=rP (by lia);refine next_item aL x.2.2 hz hx aI λh' tk kb h9 iq=>?_
  have e2:((items.size-1-i:Nat):Int)-1=(items.size:Int)-1-((i+1:Nat):Int):=by lia
  rw[e2]at h9;exact hQ _ h' tk hx ⟨hi,h9,L8 x.2.2 λo eo=>(iq.2 t aI).trans eo⟩ λb o hb eo=>iq.extBut b o (λh=>hb (by simp[h])) eo
 done:=λs Q E x hQ=>by
  have e:(items.size:Int)-1-(items.size:Int)=-1:=by lia
  have aL:=x.2.1;rw[e]at aL;exact next_end hh aL λh' gp=>hQ h' s.toks λb o hb eo=>gp b o (λh=>hb (by simp[h])) eo
 self:=λ_ _ _ _ x hQ=>Ic x.2.1 hQ
theorem NS(hh:A.handled=none)(aI:t≠I)(hz:items.size<=sizeLine)(aL:Is s.heap I t ((items.size:Int)-1))(ht:IsTup s.heap t items)
  (hQ:∀s' av,(∀b o,b≠I->s.heap.get? b=some o->s'.heap.get? b=some o)->s'.gens=s.gens->s'.drawn=s.drawn->s'.os=s.os->ItemsOf (λi v=>items[items.size-1-i]?=some v) av items.size->Q av.toList s'):wpAny (model prog w) A (collect (.ref I)) Q E s:=by
 have W:=(walks (prog:=prog) (w:=w) (A:=A.in1) hh I t aI items hz).toS;have dN:I<s.heap.objs.size:=by obtain⟨o,ho,_⟩:=aL;exact qp ho
 have dG:=ht.lt;have kZ:s.heap.objs.size∉[I,t]:=λhm=>by
  simp only[qA,qW,or_false]at hm;rcases hm with q|q
  .rw[<- q]at dN;exact rd _ dN
  .rw[<- q]at dG;exact rd _ dG
 have kY:s.heap.objs.size≠I:=λe=>kZ (by simp[e])
 unfold collect;refine p9 (wpAny_runValue (codeAny_builtin F.entry_proto_collect ?_));rw[Around.under_plainId F.plain_proto_collect _];show wpAny _ A.in1 (newList [] >>= λl=>again (.builtin "list.__iadd__" ⟨[l,.ref I],[]⟩)) _ _ s;refine p9 (wpAny_newObj_type ?_);refine qg ⟨plainId_quiet F.plain_list_iadd _,codeAny_builtin F.entry_list_iadd ?_⟩;rw[Around.under_plainId F.plain_list_iadd _];have cx:(s.heap.push {cls:=.type "list",data:=.seq ([]:List Value).toArray}).get? s.heap.objs.size=some {cls:=.type "list",data:=.seq ([]:List Value).toArray}:=qo _ rfl;have h1:Builtin.List.listSameRef (.ref s.heap.objs.size) (.ref I)=false:=by simp[Builtin.List.listSameRef,kY]
 have h2:(Value.type "reversed"==Value.type "list")=false:=by decide
 have h3:(Value.type "reversed"==Value.type "tuple")=false:=by decide
 have fB:Is (s.heap.push {cls:=.type "list",data:=.seq ([]:List Value).toArray}) I t ((items.size:Int)-1):=aL.at λo e=>qa _ e
 have lI:IsTup (s.heap.push {cls:=.type "list",data:=.seq ([]:List Value).toArray}) t items:=L8 ht λo e=>qa _ e
 show wpAny _ A.in1 (Builtin.List.listExtendWith (.ref s.heap.objs.size) (.ref I) (.ref s.heap.objs.size)) _ _ _;unfold Builtin.List.listExtendWith;refine p9 (wpAny_typeOf (Is.typeIs fB) ?_);simp only[h1,h2,h3,Bool.or_false,sL,if_false];refine p9 (Ic fB ?_);refine p9 (wpAny_holding (hint fB lI hz λb tk kb=>?_));have e0:(items.size:Int)-1-((0:Nat):Int)=(items.size:Int)-1:=by simp
 have key:∀(h:Heap)(c₁:Nat),(∀b o,b≠s.heap.objs.size->(s.heap.push {cls:=.type "list",data:=.seq ([]:List Value).toArray}).get? b=some o->h.get? b=some o) ->
   h.get? s.heap.objs.size=some {cls:=.type "list",data:=.seq #[] c₁}->codeAny (model prog w) A (.builtin "list.extend.loop" ⟨[.ref s.heap.objs.size,.ref I,.ref s.heap.objs.size],[]⟩) (λr s'=>∃bZ c',r=.ok (.ret (.ref s.heap.objs.size))/\(∀b o,b≠I->s.heap.get? b=some o->s'.heap.get? b=some o)/\s'.gens=s.gens/\s'.drawn=s.drawn/\s'.os=s.os /\
    s'.heap.get? s.heap.objs.size=some {cls:=.type "list",dict:=none,data:=.seq bZ c',slots:=#[]}/\ItemsOf (λi v=>items[items.size-1-i]?=some v) bZ items.size) {s with heap:=h,toks:=tk}:=by
  intro h c₁ hk cx;refine codeAny_extend_loopS W hz _ kZ _ items.size 0 _ _ _ rfl (sM _) ⟨sM _,?_,L8 lI λo e=>hk _ o (qI dG) e⟩ cx (ItemsOf.nil _) λs' bZ c' hm jK bD=>⟨bZ,c',rfl,λb o hb e=>?_,hm.gens,hm.drawn,hm.os,jK,bD⟩
  .rw[e0];exact fB.at λo e=>hk _ o (Ne.symm kY) e
  .refine hm.heap b o (λjY=>?_) (hk b o (qI (qp e)) (qa _ e));rcases qA.mp jY with q|q
   .exact qI (qp e) q
   .exact hb (qj.mp q)
 have aT:∀(r:Result)(s':Shared),(∃bZ c',r=.ok (.ret (.ref s.heap.objs.size))/\(∀b o,b≠I->s.heap.get? b=some o->s'.heap.get? b=some o)/\s'.gens=s.gens/\s'.drawn=s.drawn/\s'.os=s.os /\
    s'.heap.get? s.heap.objs.size=some {cls:=.type "list",dict:=none,data:=.seq bZ c',slots:=#[]}/\ItemsOf (λi v=>items[items.size-1-i]?=some v) bZ items.size)->wants (λr s'=>wpAny (model prog w) A (match r with
     |.ref a=>do
      let o <- load a
      match o.data with|.seq xs _=>pure xs.toList|_=>unsupported "internal:collect"
     |_=>unsupported "internal:collect") Q E s') E r s':=by
  rintro r s' ⟨bZ,c',rfl,k1,k2,k3,k4,jK,bD⟩
  show wpAny _ A (load s.heap.objs.size >>= _) _ _ s';refine p9 (wpAny_load jK ?_);exact qg (hQ s' bZ k1 k2 k3 k4 bD)
 refine wpAny_ite_split (λ_=>?_) (λ_=>qg ⟨plainId_quiet F.plain_extend_loop _,codeAny_mono (key _ 0 (λb o _ e=>e) cx) aT⟩);refine p9 (wpAny_rule ?_);refine p9 ?_;show wpAny _ _ (updateSeq s.heap.objs.size (·.push .none) >>= λ_=>updateSeq s.heap.objs.size (·.pop)) _ _ _;refine p9 (wpAny_updateSeq cx rfl ?_);have fP:=rn (Obj.mapSeq (·.push Value.none)) cx rfl;refine wpAny_updateSeq fP rfl ?_;have hJ:=rn (Obj.mapSeq (·.pop)) fP rfl;refine qg ⟨plainId_quiet F.plain_extend_loop _,codeAny_mono (key _ _ (λb o hb e=>?_) hJ) aT⟩;exact(rj _ _ (Ne.symm hb)).trans ((rj _ _ (Ne.symm hb)).trans e)
end Rv
end PySem
namespace PySem
open PyProof.Rows (IsTup)
namespace Rv
theorem Jt(I t:Addr)(items:Array Value)(hz:items.size<=sizeLine)(aI:t≠I):
  Meets (Builtin.«tuple.__new__» ⟨[.type "tuple",.ref I],[]⟩)
   (λA R s=>A.handled=none/\Is s.heap I t ((items.size:Int)-1)/\IsTup s.heap t items/\∀(s':Shared)(av:Array Value),(∀b o,b≠I->s.heap.get? b=some o->s'.heap.get? b=some o)->s'.gens=s.gens->s'.drawn=s.drawn->s'.os=s.os->ItemsOf (λi v=>items[items.size-1-i]?=some v) av items.size ->
    R (.ok (.ret (.ref s'.heap.objs.size))) {s' with heap:=s'.heap.push {cls:=.type "tuple",data:=.seq av} }) :=
 .of_wp λprog w A R s h=>by
  obtain⟨hh,aL,ht,h⟩:=h;have eN:=sub_tuple_self;have lg:=init_tuple_lookup;have pP:=madeHere_tuple;have hT:=aL.typeIs;have nU:A.in1.handled=none:=hh;obtain⟨oi,oo,pK,eV⟩:=id aL
  wp_walk using wpAny_typeOf hT,AutoSeq1.wpAny_loadPart' oo,NS nU aI hz aL ht
  intro s' av hk hg hd eJ bD;show wpAny _ _ (Builtin.Tuple.tupleExact av.toList.toArray >>= λv=>ret v) _ _ _;unfold Builtin.Tuple.tupleExact;refine p9 (wpAny_newObj_type ?_ (show av.toList.toArray.size<=sizeLine by simp only[Array.toArray_toList];rw[bD.1];exact hz));refine qg ⟨_,rfl,?_⟩;have e:av.toList.toArray=av:=by simp
  rw[e];exact h s' av hk hg hd eJ bD
variable{prog:Program}{w:World}{A:Around}{E:Value->Shared->Prop}{s:Shared}
theorem LC(hh:A.handled=none)(hz:items.size<=sizeLine)(aI:t≠I)(aL:Is s.heap I t ((items.size:Int)-1))(ht:IsTup s.heap t items)
  (h:∀(h':Heap)(tk:Nat)(av:Array Value),(∀b o,b≠I->s.heap.get? b=some o->h'.get? b=some o)->ItemsOf (λi v=>items[items.size-1-i]?=some v) av items.size->Q (.ref h'.objs.size) {s with heap:=h'.push {cls:=.type "tuple",data:=.seq av},toks:=tk}) :
  wpAny (model prog w) A (call (.type "tuple") [.ref I]) Q E s:=by
 refine callType_new F.called_tuple (by decide) (F.typeCall_tuple_1 _) (F.newCall_tuple_1 _) (λobj=>F.args_object_init_2 obj _) F.entry_tuple_new
  (Jt I t items hz aI) ⟨hh,aL,ht,λs' av hk hg hd eJ bD=>⟨⟨_,qo _ rfl,rfl⟩,?_⟩⟩
 obtain⟨h',g',d',gh,dy⟩:=s';have e1:=hg;have e2:=hd;have e3:=eJ;subst e1 e2 e3;exact h h' gh av hk bD
end Rv
end PySem
namespace Lake.L2
open PySem PySem.Spec PyProof.Rows
def Sq(K:Fg)(ta:TE):TE:=λσ H Q=>ta σ H λx H1=>∃t ys,x=.ref t/\SqT K H1 t ys/\∀d,H1 d=none->Q (.ref d) (upd H1 d (.tup ys.reverse))
theorem MA(hc:X.calm=true)(fD:X.mg "tuple"=none)(cL:X.mg "reversed"=none)(ha:PE X a ta)(gw:Gl X "tuple":=by rfl)(eD:Gl X "reversed":=by rfl)
  (he:starEach [(.Call (.Name "reversed" p2) [a] [] aX:Expr)] X.env=[(false,eval (.Call (.Name "reversed" p2) [a] [] aX) X.env)]:=by rfl) (jf:starEach [a] X.env=[(false,eval a X.env)]:=by rfl) :
  PE X (.Call (.Name "tuple" p1) [.Call (.Name "reversed" p2) [a] [] aX] [] cX) (Sq X.K ta):=by
 intro aa s σ H Q I h;refine wpAny_Call_Name_kw (Dp I gw fD boot_tuple ?_);refine callWith_type1 ?_ he rfl;rw[he];refine Calls.spliced_cons ?_;refine wpAny_Call_Name_kw (Dp I eD cL boot_reversed ?_);refine callWith_type1 ?_ jf rfl;rw[jf];refine Calls.spliced_cons (thn (ha aa s σ H _ I h) λu s1 ao=>?_);obtain⟨x,H1,I1,r1,t,ys,ex,hq,q⟩:= ao;subst ex;cases r1;obtain⟨aq,rv,pt,hz⟩:=I1.tuple hq;have hlen:=rv.length;have jl:aq.toArray.size<=sizeLine:=by rw[qD];lia
 refine Calls.spliced_nil (Rv.QI jl pt λtk=>?_);refine Calls.spliced_nil ?_;have I2:Inv X aa σ H1 {s1 with heap:=s1.heap.push (Rv.obj t ((aq.toArray.size:Int)-1)),toks:=tk}:=I1.kept λb o e=>qa _ e
 have hf:=I1.Qj (qz _) (I1.z9.fresh (qz _));have dN:=pt.lt;refine Rv.LC (I.ok.hd hc) jl (qI dN) ⟨_,qo _ rfl,rfl,rfl⟩ (Rv.L8 pt λo e=>qa _ e) λh' gh av kp bD=>?_
 have I3:Inv X aa σ H1 {s1 with heap:=h',toks:=gh}:=Inv.EY (s:={s1 with heap:=s1.heap.push (Rv.obj t ((aq.toArray.size:Int)-1)),toks:=tk}) (fp:=[s1.heap.objs.size]) I2 (λb o hb e=>kp b o (by simpa using hb) e) λb hb=>by rw[qj.mp hb];exact hf
 have I4:Inv X aa σ (upd H1 h'.objs.size (.tup ys.reverse)) {s1 with heap:=h'.push {cls:=.type "tuple",data:=.seq av},toks:=gh} :=
  I3.laid (λb o e=>qa _ e) (qz _) (show A7 X.prog X.w _ _ _ (.tup ys.reverse)from⟨by rw[List.length_reverse];exact hz,av.toList,OB rv bD,by simpa using PlT.new h' av⟩)
 exact⟨.ref h'.objs.size,_,I4,rfl,q _ (I3.z9.fresh (qz _))⟩
end Lake.L2
namespace HT
open PySem PyProof.Rows
variable{prog:Program}{w:World}{A:Around}{E:Value->Shared->Prop}{s:Shared}
theorem Ef{lo hi:Option Int}(ht:IsTup s.heap t items)(hs:s.heap.IsSliceOf sl vl vu .none)(pl:IsPart vl lo)(pu:IsPart vu hi)
  (hw:sIx items.size 0 lo=0/\sIx items.size items.size hi=items.size) (h:Q (.ref t) s):wpAny (model prog w) A (getItem (.ref t) (.ref sl)) Q E s:=by
 obtain⟨os,eJ,gL,h8⟩:=id hs;unfold getItem
 try with_reducible refine wpAny_holding ?_
 first|refine p9 (qg ?_)|skip
 refine p9 (wpAny_sequenceKey ht.typeIs (by decide) ?_);refine p9 (wpAny_callSpecial?_slot ht.typeIs slot_tuple_getitem
  (wpAny_call_entry slot_tuple_getitem ht.typeIs entry_tuple_getitem ?_ (args_tuple_getitem _ _)))
 show wpAny _ _ (Builtin.Tuple.tupleItemsOf (.ref t) >>= _) _ _ s;refine p9 (tupleItemsOf_ ht ?_);refine p9 (wpAny_typeOf (⟨os,eJ,gL⟩) ?_);refine p9 (CN hs pl pu ?_);show wpAny _ _ (if(((sIx items.size 0 lo:Nat):Int)==0&&(1:Int)==1&&(sIx items.size items.size hi-sIx items.size 0 lo)==items.size)=true then _ else _) _ _ s;rw[if_pos (by rw[hw.1,hw.2];simp)];refine p9 ?_;refine p9 (wpAny_typeOf ht.typeIs (qg ?_));exact p9 (wpAny_rule (qg ⟨_,rfl,qg h⟩))
end HT
namespace Lake.L2
open PySem PySem.Spec PyProof.Rows
inductive rSlA(K:Fg)(x:V)(lo:Option Int)(hi:Option Int)(H:Hp)(Q:VK):Prop
 |mk (a xs:_) (h0:x=.ref a) (h1:SqT K H a xs) (h2:(HT.sIx xs.length 0 lo=0/\HT.sIx xs.length xs.length hi=xs.length)) (h3:Q (.ref a) H)
theorem V8:SlR X (rSlA X.K):=by
 intro aa s σ H x v vl vu lo hi sl Q I rx hs pl pu h;obtain⟨a,xs,rfl,hx,hw,q⟩:=h;cases rx;obtain⟨aq,r,ht,hz⟩:=I.tuple hx;have hlen:aq.toArray.size=xs.length:=by rw[qD];exact r.length.symm
 refine⟨"tuple",_,PyProof.Rows.slot_tuple_getitem.lookup,ht.typeIs,?_⟩;exact HT.Ef ht hs pl pu (by rwa[hlen]) ⟨.ref a,H,I,rfl,q⟩
end Lake.L2
namespace Lake.L2
open PySem PySem.Spec PySem.W PyProof.Rows
def C8:List Int->Nat
 | []=>0
 |n::ns=>Builtin.Int.intBits n+1+C8 ns
theorem Fy:∀ns:List Int,WData.weightAll (ns.map WData.int)=C8 ns
 | []=>by simp[WData.weightAll,C8]
 |n::ns=>by simp only[qi,WData.weightAll,Fy ns];rfl
end Lake.L2
namespace Lake.L2
open PySem PySem.Spec
theorem We(h:FX k u=true):RelV (kV k) u:=by
 cases k with
 |inl i =>
  have h:Value.isInt i u=true:=h;cases u<;>first
   |(simp[Value.isInt]at h;subst h;exact⟨_,rfl⟩)
   |(simp at h)
   |(cases h)
 |inr x =>
  have h:Value.isStrOf x u=true:=h;cases u<;>first
   |(simp[Value.isStrOf]at h;subst h;exact⟨_,rfl⟩)
   |(simp at h)
   |(cases h)
def JbG(o:Obj):Nat:=match o.data with|.dict _ ep=>ep|_=>0
def Itd(a:Addr)(o:Obj)(ag:List (Key×V)):It :=
 ⟨λi H=>H a=some (.frz o (.o ag))/\i<ag.length,λi H x H'=>H'=H/\∃k,(ag.map (·.1))[i]?=some k/\x=kV k,λi H=>H a=some (.frz o (.o ag))/\ag.length<=i⟩
variable{X:Cx}{aa:List (Addr×Obj)}{σ:St}{H:Hp}{s:Shared}{a:Addr}{o:Obj}{ag:List (Key×V)}
theorem Inv.Jbr(I:Inv X aa σ H s)(e:H a=some (.frz o (.o ag))):(a==sysModules)=false/\∃vs,KV ag vs/\s.heap.DictAt (AV X.prog X.w) a vs (JbG o):=by
 obtain⟨h1,h2⟩:=(show A7 X.prog X.w H s.heap a (.frz o (.o ag))from I.z9 a _ e)
 obtain⟨z,hd,vs,aP,dd⟩:=(show ag.length<=sizeLine/\(a==sysModules)=false/\∃vs,KV ag vs/\s.heap.DictOf (AV X.prog X.w) a vs from h2)
 refine⟨hd,vs,aP,?_⟩;obtain⟨o',es,ep,ho,hc,jQ,r⟩:=dd;rw[h1]at ho;cases ho;refine⟨o,es,h1,hc,?_,r⟩;unfold JbG;rw[jQ]
theorem Inv.freeze(I:Inv X aa σ H s)(e:H a=some (.o ag)):∃o,Inv X aa σ (upd H a (.frz o (.o ag))) s:=by
 obtain⟨z,hd,vs,aP,dd⟩:=(show ag.length<=sizeLine/\(a==sysModules)=false/\∃vs,KV ag vs/\s.heap.DictOf (AV X.prog X.w) a vs from((show A7 X.prog X.w H s.heap a (.o ag)from I.z9 a _ e)))
 obtain⟨o,es,ep,ho,r⟩:=id dd;exact⟨o,I.write (by rw[e];exact True.intro) (.inl rfl) (λ_ _ _ z=>z) ⟨o,ho⟩ ⟨ho,z,hd,vs,aP,dd⟩⟩
theorem L7{P:Program}{w:World}{K:Fg}{tg:Expr}(a it:Addr)(o:Obj)(ag:List (Key×V)):Turn P w K tg (Itd a o ag) [it] it (λi h=>h.IsKeyIter it a i ag.length (JbG o)) where
 mem:=by simp
 obj:=λi h st b hb=>by
  have e:b=it:=by simpa using hb
  subst e;obtain⟨o,e,c,d⟩:=st;exact⟨o,e,λv z=>by rw[d]at z;cases z⟩
 keep:=λi h h' st k=>by obtain⟨o,e,r⟩:=st;exact⟨o,k it (by simp) o e,r⟩
 item:=by
  intro X hP hw hK hc i aa s σ H E I hf st hg;subst hP hw hK;obtain⟨he,hi⟩:=hg;obtain⟨hd,vs,aP,da⟩:=I.Jbr he;have hl:=aP.length;have dE:i<vs.length:=by lia
  obtain⟨f0,f1,f2,f3,f4,f5⟩:=hf it (by simp);have hx:vs[i]?=some ((vs[i]).1,(vs[i]).2):=qb dE;rw[hl]at st;refine wpAny_pyNext_dict_item st da hx λkey h' hk df sb=>?_
  rw[<- hl]at df;have I1:Inv X aa σ H {s with heap:=h' }:=I.turned (t':=s.toks) (λb o hb e=>(sb.2 b hb).trans e) f0 f1 f3 f4 f5;obtain⟨o',e,c,d⟩:=id df;have lj:(ag.map (·.1))[i]?=some (vs[i]).1:=by
   have:ag.map (·.1)=vs.map (·.1):=by
    clear hx dE hl da st hk df sb I1 e c d he hi;unfold KV at aP
    induction aP with|nil=>rfl|cons h t ih=>rw[qi,qi,h.1,ih]
   rw[this,qH,qb dE];rfl
  exact⟨key,rfl,P7 (s:={s with heap:=h' }) e c d (by decide) ⟨kV (vs[i]).1,H,I1,We hk,⟨rfl,_,lj,rfl⟩,df,λb hb=>(hf b hb).1⟩⟩
 done:=by intro X hP hw hK hc i aa s σ H E I hf st hg;subst hP hw hK;obtain⟨he,hi⟩:=hg;obtain⟨hd,vs,aP,da⟩:=I.Jbr he;have hl:=aP.length;obtain⟨f0,f1,f2,f3,f4,f5⟩:=hf it (by simp);rw[hl]at st;exact wpAny_pyNext_dict_end (I.ok.hd hc) st da (rN (by lia)) λh' eb=>⟨rfl,I.turned (t':=s.toks) (λb o hb e=>eb b o hb e) f0 f1 f3 f4 f5⟩
 self:=λ_ _ _ _ _ st h=>wpAny_pyIter_keyiter st h
variable{tg:Expr}
theorem Fx(hc:X.calm=true):B6 X (.type "list") (λxs H Q=>∃p ag,xs=[.ref p]/\Rd H p (.o ag)/\∀l,H l=none->Q (.ref l) (upd H l (.lst (ag.map λkv=>kV kv.1)))):=by
 intro aa s σ H xs us Q I r h;obtain⟨p,ag,rfl,hp,q⟩:=h;obtain⟨u,rfl,rx⟩:=vals1 r;cases rx;obtain⟨z,hd,vs,aP,dd⟩:=Iy I.z9 hp;obtain⟨ep,da⟩:=dd.dictAt;refine PySem.W.kdl_call (PySem.W.kdl_dict hd) (I.ok.hd hc) da (by rwa[<- (Paired.length aP)]) λh' tk av c' kp e bD=>?_
 refine⟨.ref s.heap.objs.size,_,I.laid kp (qz _) (show A7 X.prog X.w _ h' _ (.lst (ag.map λkv=>kV kv.1))from⟨by rw[qe];exact z,av.toList,c',LX aP bD,by simpa using e⟩),rfl,q _ (I.z9.fresh (qz _))⟩
theorem LD:B6 X (.builtin "len") (λxs H Q=>∃a ag,xs=[V.ref a]/\Rd H a (.o ag)/\Q (.int ag.length) H):=by intro aa s σ H xs us Q I r h;obtain⟨a,ag,rfl,ha,q⟩:=h;obtain⟨u,rfl,ru⟩:=vals1 r;cases ru;exact JbL I ha λt s' I'=>⟨.int ag.length,H,I',⟨t,rfl⟩,q⟩
theorem LF:B6 X (.type "dict") (λxs H Q=>∃a ag,xs=[.ref a]/\Rd H a (.o ag)/\∀l,H l=none->Q (.ref l) (upd H l (.o ag))):=by intro aa s σ H xs us Q I r h;obtain⟨a,ag,rfl,ha,q⟩:=h;obtain⟨u,rfl,rx⟩:=vals1 r;cases rx;exact Qx I ha λp s' hp I'=>⟨.ref p,_,I',rfl,q p hp⟩
def XD(td:TE):TI:=λσ H R=>td σ H λx H1=>∃a ag,x=.ref a/\((H1 a=some (.o ag)/\∀o,R (Itd a o ag) (upd H1 a (.frz o (.o ag))))\/∃o,H1 a=some (.frz o (.o ag))/\R (Itd a o ag) H1)
theorem Pb{l:Expr}{td:TE}(hl:PE X l td):PI X tg l (XD td):=by
 intro aa s σ H R I h;refine thn (hl aa s σ H _ I h) λv s1 ao=>?_
 obtain⟨x,H1,I1,r1,q1⟩:= ao;obtain⟨a,ag,e,hq⟩:=q1;subst e;cases r1
 suffices key:∃(o:Obj)(H2:Hp),Inv X aa σ H2 s1/\H2 a=some (.frz o (.o ag))/\R (Itd a o ag) H2 by
  obtain⟨o,H2,I2,h2,q⟩:=key;obtain⟨hd,vs,aP,da⟩:=I2.Jbr h2;have hlen:=aP.length;refine wpAny_pyIter_dict hd da ?_;refine⟨s1.heap.objs.size,[s1.heap.objs.size],_,_,_,rfl,I2.kept (t':=s1.toks) λb o e=>qa _ e,L7 a _ o ag,⟨_,qo _ rfl,rfl,by rw[hlen];rfl⟩,λb hb=>?_,q⟩;have e:b=s1.heap.objs.size:=by simpa using hb
  subst e;exact I2.Qj (qz _) (I2.z9.fresh (qz _))
 rcases hq with⟨hq,q⟩|⟨o,hq,q⟩
 .obtain⟨o,I2⟩:=I1.freeze hq;exact⟨o,_,I2,Am,q o⟩
 .exact⟨o,H1,I1,hq,q⟩
def tFrz(td:TE):TE:=λσ H Q=>td σ H λx H1=>∃a ag,x=.ref a/\H1 a=some (.o ag)/\∀o,Q (.ref a) (upd H1 a (.frz o (.o ag)))
theorem WQ{e:Expr}{td:TE}(h:PE X e td):PE X e (tFrz td):=by
 intro aa s σ H Q I q;refine thn (h aa s σ H _ I q) λv s1 ao=>?_
 obtain⟨x,H1,I1,r1,a,ag,ex,hq,q⟩:= ao;subst ex;cases r1;obtain⟨o,I2⟩:=I1.freeze hq;exact⟨.ref a,_,I2,rfl,q o⟩
end Lake.L2
namespace Lake.L2
open PySem PySem.Spec PyProof.Rows PySem.W
theorem MN:∀(K:Fg),(K.map (·.1)).map h.get?=K.map (λp=>some p.2)->K.In h
 | [],_=>λa o e=>by cases e
 |p::K,hk=>λa o e=>by
  simp only[qi,List.cons.injEq]at hk;rw[qX]at e;by_cases q:a=p.1
  .subst q;rw[show(p.1==p.1)=true by simp]at e;cases e;exact hk.1
  .rw[show(a==p.1)=false by simpa using q]at e;exact MN K hk.2 a o e
end Lake.L2
namespace Lake.L2
open PySem PySem.Spec PyProof.Rows
def ExT(h:Heap)(vs:Array Value)(a:Addr)(fl:Value):Option Addr->Prop
 |none=>vs[1]?=some .none
 |some T=>vs[1]?=some (.ref T)/\T≠a/\∃oT ts,h.get? T=some oT/\oT.data=.fields ts/\ts[3]?=some fl
inductive QU(h:Heap)(a:Addr)(c:Value)(T:Option Addr)(fl:Value):Prop
 |mk (oe:Obj) (vs:Array Value) (h0:h.get? a=some oe) (h1:oe.cls=c) (h2:oe.dict=none) (h3:oe.data=.fields vs) (h4:ExT h vs a fl T)
theorem Obj.NM(o:Obj)(f:Array Value->Array Value):(o.mapFields f).dict=o.dict:=by obtain⟨_,_,dt,_⟩:=o;cases dt<;>rfl
variable{M:Model}{A:Around}{E:Value->Shared->Prop}{s:Shared}
theorem Kw
  (fS:A.frames=some (env::outer)) (hl:s.heap.FunFrames base (env::outer)) (hf:env.frame=some L) (he:s.heap.get? e=some oe) (eV:oe.dict=none) (hd:oe.data=.fields vs) (hsz:1<vs.size)
  (h:∀h' T,s.heap.objs.size<=T->(∀b o,s.heap.get? b=some o->b∉frs (env::outer)->b≠e->h'.get? b=some o)->(∀b o,s.heap.get? b=some o->b∈frs (env::outer)->∃sl,h'.get? b=some {o with slots:=sl}) ->
   QU h' e oe.cls (some T) (rawInt L)->Q () {s with heap:=h' }) :
  wpAny M A (do let a <- frameOf env;let pl <- entryPlaceOf L hadNext;let b <- EntryCells.newEntry head a .none (rawInt L) .none pl;setField (.ref e) 1 b) Q E s:=by
 have mj:e∉(env::outer).filterMap (·.frame):=λhm=>by obtain⟨_,o,ho,fG⟩:=hl.mem hm;rw[he]at ho;injection ho with ho;subst ho;exact fG vs hd
 refine p9 (wpAny_frameOf_fun fS hl hf λaJ aZ=>?_);refine p9 (wpAny_entryPlaceOf λpl aG=>?_);refine p9 (wpAny_newObj_type ?_ (aG.sizeOk5 _ _ _ _ _));have fR:=(aZ.2.1 e mj).trans he;have du:=qa {cls:=.type "traceback",dict:=none,data:=.fields ([head,.ref L,.none,rawInt L,.none]++(if pl.isEmpty then List.replicate 6 Value.none else pl)).toArray} fR;refine wpAny_setField du hd hsz ?_;have gn:=sR (qp fR);have fQ:=Obj.data_mapFields hd (·.setIfInBounds 1 (Value.ref aJ.objs.size));have keep:∀b o,b≠e->aJ.get? b=some o ->
   ((aJ.push {cls:=.type "traceback",dict:=none,data:=.fields ([head,.ref L,.none,rawInt L,.none]++(if pl.isEmpty then List.replicate 6 Value.none else pl)).toArray}).update e (Obj.mapFields (·.setIfInBounds 1 (Value.ref aJ.objs.size)))).get? b=some o:=λb o eA hb=>by
  rw[rj _ _ (Ne.symm eA)];exact qa _ hb
 refine h _ aJ.objs.size (by rw[aZ.1];exact qz _) (λb o hb hn eA=>keep b o eA ((aZ.2.1 b hn).trans hb)) (λb o hb hn=>?_) ?_
 .obtain⟨sl,q⟩:=aZ.2.2 b o hb;exact⟨sl,keep b _ (λz=>mj (by rwa[<- z])) q⟩
 .exact⟨_,_,(rn (Obj.mapFields (·.setIfInBounds 1 (Value.ref aJ.objs.size))) du (Obj.isFreed_of_fields fQ)),Obj.cls_mapFields _ _,(Obj.NM _ _).trans eV,fQ,by simp[hsz],gn,_,_,((rj (aJ.push {cls:=.type "traceback",dict:=none,data:=.fields ([head,.ref L,.none,rawInt L,.none]++(if pl.isEmpty then List.replicate 6 Value.none else pl)).toArray})
  (Obj.mapFields (·.setIfInBounds 1 (Value.ref aJ.objs.size))) (Ne.symm gn)).trans (qo aJ rfl)),rfl,by first|(simp;done)|(rcases aG with rfl|⟨_,_,_,_,_,_,_,rfl⟩<;>simp)⟩
structure Og(X:Cx):Prop where
 pn:X.pn=[]
 ex:X.ex=[]
 st:X.stack=X.env::X.outer
 fr:X.env.frame=some X.env.locals
theorem A7.get(x:A7 P w H h a o):∃u,h.get? a=some u:=by cases o with|lst xs=>obtain⟨_,_,_,_,e⟩:=x;exact⟨_,e⟩|tup xs=>obtain⟨_,_,_,ob,e,_⟩:=x;exact⟨_,e⟩|o ag=>obtain⟨_,_,_,_,o,_,_,e,_⟩:=x;exact⟨_,e⟩|dT ag=>obtain⟨_,_,_,_,o,_,_,e,_⟩:=x;exact⟨_,e⟩|set S n=>obtain⟨o,_,_,_,e,_⟩:=x;exact⟨_,e⟩|ins C dx fs=>obtain⟨_,_,_,e,_⟩:=x;exact⟨_,e⟩|own y=>obtain⟨_,e⟩:=x;exact⟨_,e⟩|xd fs=>obtain⟨_,⟨_,_,_,e,_⟩,_⟩:=x;exact⟨_,e⟩|yN lo hi=>obtain⟨_,_,_,e⟩:=x;exact⟨_,e⟩|frz ob u=>obtain⟨e,_⟩:=x;exact⟨_,e⟩|zc ps=>exact⟨_,(show h.get? a=some _ from x)⟩|met f y=>exact⟨_,(show h.get? a=some _ from x)⟩|ext φ=>obtain⟨_,⟨_,e⟩,_⟩:=x;exact⟨_,e⟩
theorem HOk.none(x:HOk P w H h)(e:h.get? a=none):H a=none:=by cases q:H a with|none=>rfl|some u =>obtain⟨o,z⟩:=(x a u q).get;rw[e]at z;cases z
variable{X:Cx}{σ:St}{H:Hp}{h':Heap}{ch:List Addr}
theorem Inv.kp(I:Inv X aa σ H s)(gB:X.pn=[])(k:∀b o,s.heap.get? b=some o->b∉frs X.stack->b∉ch->h'.get? b=some o)(sl:∀b o,s.heap.get? b=some o->b∈frs X.stack->∃sl,h'.get? b=some {o with slots:=sl})
  (nc:∀b∈ch,X.z6.heap.get? b=none/\H b=none/\∃o vs,s.heap.get? b=some o/\o.data=.fields vs):Inv X [] σ H {s with heap:=h' }:=by
 have any:=λb o e n=>by
  by_cases hb:b∈frs X.stack
  .exact sl b o e hb
  .exact⟨o.slots,k b o e hb n⟩
 have n0:∀b o,X.z6.heap.get? b=some o->b∉ch:=λb o e z=>by have:=(nc b z).1;rw[e]at this;cases this
 have nf:∀b o,s.heap.get? b=some o->(∀vs,o.data≠.fields vs)->b∉ch:=λb o e hd z=>by obtain⟨_,_,o',vs,e',d⟩:=nc b z;rw[e]at e';cases e';exact hd vs d
 have cu:∀x c,X.env.cells.lookup x=some c->∀v,s.heap.IsCell c v->h'.IsCell c v:=λx c e v ⟨o,ho,hd⟩=>by obtain⟨l,q⟩:=any c o ho (nf c o ho λvs z=>by rw[hd]at z;cases z);exact⟨_,q,hd⟩
 refine⟨I.ok,I.os,I.bare,⟨λb o e n hb hx=>?_,λb o e n hb hx=>?_,I.base.free,λb o e hx=>?_,I.base.zO,I.base.zX,I.base.zP⟩,?_,λx c e=>?_,I.free,I.zZ,λp hp=>?_,λb u e=>?_,I.len⟩
 .refine k b o (I.base.keep b o e n hb hx) (λz=>?_) (n0 b o e);rcases qA.mp (I.Hy b z)with z|z
  .exact qI (qC (qp e) I.ok.above) z
  .exact hb z
 .obtain⟨l,e1⟩:=I.base.slot b o e n hb hx;obtain⟨l',e2⟩:=any b _ e1 (n0 b o e);exact⟨l',e2⟩
 .obtain⟨o',e1⟩:=I.base.there b o e hx;obtain⟨l',e2⟩:=any b _ e1 (n0 b o e);exact⟨_,e2⟩
 .obtain⟨m,⟨o,es,ep,ho,hd,r⟩,hl⟩:=I.loc;obtain⟨l,q⟩:=any _ o ho (nf _ o ho λvs z=>by rw[hd]at z;cases z);refine⟨m,⟨_,es,ep,q,hd,r⟩,λi x v e1 e2 e3=>?_⟩;obtain⟨u,rv,z⟩:=hl i x v e1 e2 e3;refine⟨u,rv,?_⟩;rcases z with z|⟨kk,c,e,z⟩
  .exact .inl z
  .exact .inr ⟨kk,c,e,cu x c e _ z⟩
 .obtain⟨v,z⟩:=I.cell x c e;exact⟨v,cu x c e v z⟩
 .rw[gB]at hp;cases hp
 .have nn:∀c,(c=b\/H c=some (.own b))->H c≠none:=λc hc z=>by
   rcases hc with rfl|hc
   .rw[z]at e;cases e
   .rw[z]at hc;cases hc
  exact(I.z9 b u e).Me (λc v hc q=>k c v q (λz=>nn c hc (I.Je c z)) λz=>nn c hc (nc c z).2.1) (λ_ q=>q) λ_ _ q=>q
theorem Inv.new(I:Inv X aa σ H s)(D:X.ex=[])(e:s.heap.get? b=none):X.z6.heap.get? b=none/\H b=none:=by refine⟨?_,I.z9.none e⟩;cases q:X.z6.heap.get? b with|none=>rfl|some o =>obtain⟨o',z⟩:=I.base.there b o q (by rw[D];simp);rw[e]at z;cases z
variable{a:Addr}{c fl:Value}{T:Option Addr}{Q:Unit->Shared->Prop}
def Zr(X:Cx)(H:Hp)(a:Addr)(T:Option Addr):Prop:=∀b,b=a\/T=some b->X.z6.heap.get? b=none/\H b=none
theorem QU.there(e:QU s.heap a c T fl):∀b,b=a\/T=some b->∃o vs,s.heap.get? b=some o/\o.data=.fields vs:=by
 obtain⟨oe,vs,h1,h2,h3,h4,h5⟩:=e;intro b hb;rcases hb with rfl|rfl
 .exact⟨oe,vs,h1,h4⟩
 .obtain⟨_,_,oT,ts,q1,q2,_⟩:=h5;exact⟨oT,ts,q1,q2⟩
theorem Jn(D:Og X)(fS:A.frames=some X.stack)(I:Inv X [] σ H s)(e:QU s.heap a c T fl)(nS:fl=.none\/fl=rawInt X.env.locals)(nw:Zr X H a T)
  (h:∀h' T',QU h' a c (some T') (rawInt X.env.locals)->Zr X H a (some T')->Inv X [] σ H {s with heap:=h' }->Q () {s with heap:=h' }):wpAny M A (noteFrame (.ref a) X.env) Q E s:=by
 have hl:=I.stack;rw[D.st]at fS hl;obtain⟨oe,vs,he,bR,eV,hd,ht⟩:=id e;subst bR;unfold noteFrame;simp only[D.fr];cases T with
 |none =>
  refine p9 (qJ he hd ht ?_);refine Kw fS hl D.fr he eV hd (sj.mp ht).1 λh' T' q1 q2 q3 q4=>?_
  have nT:=I.new D.ex (Heap.get?_none_of_le q1);refine h h' T' q4 (λb hb=>hb.elim (λz=>nw b (.inl z)) λz=>by cases z;exact nT) (I.kp (ch:=[a]) D.pn (λb o x y z=>q2 b o x (by rwa[<- D.st]) λw=>z (by simp[w])) (λb o x y=>q3 b o x (by rwa[<- D.st])) λb hb=>?_);rw[qj.mp hb];exact⟨(nw a (.inl rfl)).1,(nw a (.inl rfl)).2,oe,vs,he,hd⟩
 |some T =>
  obtain⟨h1,gn,oT,ts,hT,fu,h3⟩:=ht;refine p9 (qJ he hd h1 ?_);refine p9 (qJ hT fu h3 ?_);rcases nS with rfl|rfl
  .rw[if_neg (show ¬((Value.none==rawInt X.env.locals)=true)from by simp[rawInt])];refine p9 (wpAny_setField hT fu (sj.mp h3).1 ?_);have other:∀b,b≠T->(s.heap.update T (Obj.mapFields (·.setIfInBounds 3 Value.none))).get? b=s.heap.get? b:=λb hb=>rj _ _ (Ne.symm hb)
   have oR:T∉frs X.stack:=λhm=>by obtain⟨_,o,ho,fG⟩:=I.stack.mem hm;rw[hT]at ho;injection ho with ho;subst ho;exact fG ts fu
   refine Kw fS (hl.of_keeps λb o hb fG=>⟨o,(other b ((λb o hb fG q=>by rw[q,hT]at hb;injection hb with hb;subst hb;exact fG ts fu) b o hb fG)).trans hb,rfl⟩) D.fr ((other a (Ne.symm gn)).trans he) eV hd (sj.mp h1).1 λh' T' q1 q2 q3 q4=>?_
   have nT:=I.new D.ex (Heap.get?_none_of_le (by have:(s.heap.update T (Obj.mapFields (·.setIfInBounds 3 Value.none))).objs.size=s.heap.objs.size:=Heap.size_after_update ..;rwa[<- this]));refine h h' T' q4 (λb hb=>hb.elim (λz=>nw b (.inl z)) λz=>by cases z;exact nT) (I.kp (ch:=[a,T]) D.pn (λb o x y z=>?_) (λb o x y=>?_) λb hb=>?_)
   .exact q2 b o ((other b λw=>z (by simp[w])).trans x) (by rwa[<- D.st]) λw=>z (by simp[w])
   .exact q3 b o ((other b λw=>oR (by rwa[<- w])).trans x) (by rwa[<- D.st])
   .have jM:b=a\/some T=some b:=by
     rcases qA.mp hb with z|z
     .exact .inl z
     .exact .inr (by rw[qj.mp z])
    exact⟨(nw b jM).1,(nw b jM).2,e.there b jM⟩
  .rw[if_pos (show(rawInt X.env.locals==rawInt X.env.locals)=true from by simp)];exact qg (h s.heap T e nw I)
theorem DT(gB:X.pn=[])(I:Inv X [] σ H s)(e:QU s.heap a c T fl)(nw:Zr X H a T)
  (h:∀h',QU h' a c T (f.elim .none λf=>rawInt f)->Inv X [] σ H {s with heap:=h' }->Q () {s with heap:=h' }):wpAny M A (setFlight (.ref a) f) Q E s:=by
 obtain⟨oe,vs,he,bR,eV,hd,ht⟩:=id e;cases T with
 |none =>refine p9 (qJ he hd ht ?_);exact qg (h s.heap ⟨oe,vs,he,bR,eV,hd,ht⟩ I)
 |some T =>
  obtain⟨h1,gn,oT,ts,hT,fu,h3⟩:=ht;have hsz:=(sj.mp h3).1;refine p9 (qJ he hd h1 ?_);have other:∀b,b≠T->(s.heap.update T (Obj.mapFields (·.setIfInBounds 3 (f.elim Value.none λf=>rawInt f)))).get? b=s.heap.get? b:=λb hb=>rj _ _ (Ne.symm hb)
  refine wpAny_setField hT fu hsz (h _ ⟨oe,vs,(other a (Ne.symm gn)).trans he,bR,eV,hd,h1,gn,_,_,rn _ hT (Obj.isFreed_of_fields (Obj.data_mapFields fu _)),Obj.data_mapFields fu _,by simp[hsz]⟩ (I.kp (ch:=[T]) gB (λb o x _ z=>(other b λw=>z (by simp[w])).trans x) (λb o x y=>?_) λb hb=>?_))
  .refine⟨o.slots,(other b λw=>?_).trans x⟩;obtain⟨_,o',bE,fG⟩:=I.stack.mem y;rw[w,hT]at bE;injection bE with bE;subst bE;exact fG ts fu
  .rw[qj.mp hb];exact⟨(nw T (.inr rfl)).1,(nw T (.inr rfl)).2,e.there T (.inr rfl)⟩
abbrev XE:=Value->St->Hp->Prop
inductive XW(X:Cx)(Z:XE)(e:Value)(s:Shared):Prop
 |mk (a:Addr) (c:Value) (T:Option Addr) (fl:Value) (σ:St) (H:Hp) (h0:e=.ref a) (h1:Inv X [] σ H s) (h2:QU s.heap a c T fl) (h3:fl=.none\/fl=rawInt X.env.locals) (h4:Zr X H a T) (h5:Z c σ H)
inductive CX1(P:Program)(w:World)(outer:List Env)(H:Hp)(s:Shared)(E:XK)(e:Value)(s':Shared):Prop
 |mk (a:Addr) (c:Value) (T:Option Addr) (H':Hp) (h0:e=.ref a) (h1:s'.os=s.os) (h2:AllBare s'.gens) (h3:Un (frs outer) [] H H' s.heap s'.heap) (h4:HOk P w H' s'.heap) (h5:QU s'.heap a c T .none) (h6:∀b,b=a\/T=some b->s.heap.get? b=none/\H' b=none) (h7:E c none H')
variable{Z Z':XE}{e:Value}{s':Shared}{aa:List (Addr×Obj)}
theorem XW.imp(h:XW X Z e s)(k:∀c σ H,Z c σ H->Z' c σ H):XW X Z' e s :=
 let⟨a,c,T,fl,σ,H,q1,q2,q3,q4,q5,q6⟩:=h
 ⟨a,c,T,fl,σ,H,q1,q2,q3,q4,q5,k _ _ _ q6⟩
theorem XW.EX(h:XW (X.EX E) Z e s):XW X Z e s :=
 let⟨a,c,T,fl,σ,H,q1,q2,q3,q4,q5,q6⟩:=h
 ⟨a,c,T,fl,σ,H,q1,q2.Dm,q3,q4,q5,q6⟩
theorem CX1.xw(D:X.ex=[])(I:Inv X aa σ H s)(h:CX1 X.prog X.w X.stack H s (λc _ H'=>Z c σ H') e s'):XW X Z e s':=by obtain⟨a,c,T,H',rfl,q1,q2,q3,q4,q5,q6,q7⟩:=h;exact⟨a,c,T,.none,σ,H',rfl,(I.Y4 q1 q3 q4 q2 λb z=>absurd z (by simp)).GL λ_ z=>absurd z (by simp),q5,.inl rfl,λb hb=>⟨(I.new D (q6 b hb).1).1,(q6 b hb).2⟩,q7⟩
theorem XW.own(D:Og X):PassesOwn (model X.prog X.w) X.A X.env (XW X Z):=by
 intro e s' h;obtain⟨a,c,T,fl,σ,H,rfl,I,q3,q4,q5,q6⟩:=h;refine Jn D I.ok.frames I q3 q4 q5 λh1 T1 e1 n1 I1=>?_
 obtain⟨oe,vs,he,hc,eV,hd,ht⟩:=id e1;refine p9 (qJ he hd ht.1 ?_);rw[D.fr];exact DT D.pn I1 e1 n1 λh2 e2 I2=>⟨a,c,some T1,rawInt X.env.locals,σ,H,rfl,I2,e2,.inr rfl,n1,q6⟩
variable{P:Program}{w:World}{K:Fg}{mg:Str->Option Value}{base:Heap}{N:List Str}{qual:Str}{scope:Scope}{f:Addr}{cd:Value}{outer:List Env}{E:XK}
theorem YU:Og (LB (CX1 P w) P w K mg base N qual scope f cd A outer s H E):=⟨rfl,rfl,rfl,rfl⟩
theorem Zu(h:XW (LB (CX1 P w) P w K mg base N qual scope f cd A outer s H E) (λc _ H'=>E c none H') e s'):(LB (CX1 P w) P w K mg base N qual scope f cd A outer s H E).xe e s':=by
 obtain⟨a,c,T,fl,σ,H',rfl,I,q3,q4,q5,q6⟩:=h;show wpAny _ _ (leaving (LB (CX1 P w) P w K mg base N qual scope f cd A outer s H E).env (.ref a)) _ _ s';refine p9 (Jn YU I.ok.frames I q3 q4 q5 λh1 T1 e1 n1 I1=>?_);refine DT rfl I1 e1 n1 λh2 e2 I2=>?_
 exact⟨a,c,some T1,H',rfl,I2.os,I2.bare,I2.base,I2.z9,e2,n1,q6⟩
def Lk(X:Cx)(Z:XE):Prop:=∀(aa:List (Addr×Obj))(σ:St)(H:Hp)(s:Shared)(e:Value)(s':Shared),Inv X aa σ H s->CX1 X.prog X.w X.stack H s (λc _ H'=>Z c σ H') e s'->X.xe e s'
theorem Lk.of(D:X.ex=[])(k:∀e s,XW X Z e s->X.xe e s):Lk X Z:=λ_ _ _ _ _ _ I h=>k _ _ (CX1.xw D I h)
variable{k:Nat}{C:Addr}{fd:FuncData}{ps:List Str}{sp:Sp}{x m:Str}{p pos aD:Pos}{e o:Expr}{es:List Expr}{ta:TE}{t:TA}
def V2(sp:Sp)(Z:XE)(t:TA):TE:=λσ H Q=>t σ H λvs H1=>sp vs H1 Q λc _ H'=>Z c σ H'
theorem Mi{Q}(F:D4 X.prog X.w X.K X.mg X.base (CX1 X.prog X.w) k f fd ps sp)(hr:CL k X.A)(hb:Binds X.K fd ps [])(hx:Lk X Z)
  (I:Inv X aa σ H s) (r:Vals vs us) (h:sp vs H Q λc _ H'=>Z c σ H'):wpAny (model X.prog X.w) X.A (call (.ref f) us) (EP X aa σ Q) X.xe s:=by
 have b:=hb s us I.kIn (by rw[qS];exact(by rw[<- r.length];exact F.len _ _ _ _ h));rw[qS]at b;refine wpAny_call (codeAny_mono (F.run X.A X.stack s H ⟨us,[]⟩ us vs Q _ hr I.Zl b r h) λr s' hq=>?_);cases r with|error e=>exact hx aa σ H s e s' I hq|ok fl =>cases fl with|ret u=>exact I.after hq|next=>exact False.elim hq|brk=>exact False.elim hq|cont=>exact False.elim hq
theorem WR(G:FnAt X.prog X.w X.K X.mg X.base (CX1 X.prog X.w) x k ps sp)(hr:CL k X.A)(hx:Lk X Z)(ha:PA X (e::es) t)(hg:Gl X x:=by rfl)(aS:(x==("__debug__":Str))=false:=by decide)
  (he:starEach (e::es) X.env=(false,eval e X.env)::starEach es X.env:=by rfl) (aG:(backTo pos (starEach es X.env)).any (·.1)=false:=by rfl):PE X (.Call (.Name x p) (e::es) [] pos) (V2 sp Z t):=by
 obtain⟨f,fd,F,hm,hk,hb⟩:=G.ex;intro aa s σ H Q I h;refine wpAny_Call_Name_kw (Dx I hg hm ?_ aS);refine callWith_K I.ok.mod.y1 hk (thn (ha pos aa s σ H _ I h) λus s1 ⟨vs,H1,I1,r,q⟩=>⟨I1.kIn,?_⟩) he aG;exact Mi F hr hb hx I1 r q
def Vr:List Value:=[.type "ValueError",.type "Exception",.type "BaseException",.type "object"]
structure ExC(K:Fg)(mg:Str->Option Value)(x:Str)(C:Addr):Prop where
 at_:mg x=some (.ref C)
 ok:excIn K C Vr "ValueError.__new__"=true
def VX(C:Addr)(Z:XE)(t:TA):TS:=λ_ σ H=>t σ H λvs H1=>vs.length<=1000/\Z (.ref C) σ H1
meta theorem ExC.own(c:ExC K mg x C)(X:K.In h):OwnCls x C Vr "ValueError.__new__" mg h:=by
 refine⟨c.at_,?_⟩;have q:=c.ok;unfold excIn at q;split at q
 .rename_i dd cd sl ho;split at q
  .rename_i C' bm k0 k1 k2 k3 n k5 hm hs;simp only[qE,beq_iff_eq,Bool.not_eq_true']at q;obtain⟨⟨⟨⟨⟨rfl,rfl⟩,jR⟩,ht⟩,z9⟩,j3⟩:=q;obtain⟨nm,bs,mro,ns,qn,hd,sn,sub,ab,col,del⟩:=cd;subst hm jR;have oy:sl=#[k0,k1,k2,k3,some (.builtin "ValueError.__new__"),k5]:=by obtain⟨l⟩:=sl;simp only at hs;rw[hs]
   subst oy;exact⟨bm,ns,nm,qn,bs,hd,sn,sub,ab,col,dd,k0,k1,k2,k3,k5,_,X _ _ ho,.of_isNs (PySem.W.isNs_of_in X z9),PySem.W.nsMap_none_of_in X z9 j3,PySem.W.tail_of_in X ht⟩
  .cases q
 .cases q
variable{np aE:Pos}
theorem TV(D:X.ex=[])(I:Inv X aa σ H s)(hm:Heap.MadeExcOf s.heap h' a (.ref C) us)(q:Z (.ref C) σ H):XW X Z (.ref a) {s with heap:=h' }:=by
 obtain⟨t,ht,_,_⟩:=hm.there;refine⟨a,.ref C,none,.none,σ,H,rfl,(I.kept hm.keeps).GL λ_ z=>absurd z (by simp),⟨_,_,ht,rfl,rfl,rfl,rfl⟩,.inl rfl,λb hb=>?_,q⟩;rcases hb with rfl|hb
 .exact I.new D hm.new
 .cases hb
theorem O1(c:ExC X.K X.mg x C)(D:X.ex=[])(hc:X.calm=true)(hx:∀e s,XW X Z e s->X.xe e s)(ha:PA X (e::es) t)(hg:Gl X x:=by rfl)(aS:(x==("__debug__":Str))=false:=by decide)
  (he:starEach (e::es) X.env=(false,eval e X.env)::starEach es X.env:=by rfl) (aG:(backTo aE (starEach es X.env)).any (·.1)=false:=by rfl) :
  PS X (.Raise (some (.Call (.Name x np) (e::es) [] aE)) none pos) (VX C Z t):=by
 intro aa s σ H D' I h;obtain⟨tl,N,nm,q,bs,hdct,sn,sub,ab,col,dd,k0,k1,k2,k3,k5,mN,hC,hN,j3,T⟩:=(c.own I.ok.mod.y1).obj;refine wpAny_Raise_call_subT (nm:=nm) (q:=q) (N:=N) (bs:=bs) (bm:=tl) (hdct:=hdct) (sn:=sn) (sub:=sub) (ab:=ab) (col:=col) (dd:=dd) (k0:=k0) (k1:=k1) (k2:=k2) (k3:=k3) (k5:=k5)
  PySem.F.excBase_ValueError (mN:=mN) (T.hasType PySem.F.excBase_ValueError.hasBase) (I.ok.hd hc) (by rw[he];show(false||(backTo aE (starEach es X.env)).any (·.1))=false;rw[aG];rfl) j3 (Dx I hg c.at_ ⟨rfl,?_⟩ aS)
 have h1:=ha aE aa s σ H _ I h;rw[he]at h1 ⊢;refine Calls.evalArgs_plain (thn h1 λus s2 ⟨vs,H1,I1,r,hl,hz⟩=>⟨rfl,?_,I1.bk _ _ hC,hN.keeps I1.bk,T.keeps I1.bk,λh' a hm=>hx _ _ (TV D I1 hm hz)⟩);rw[<- r.length,sizeLine_eq]
 lia
def exO(c:Value)(a:Addr):HO:=.ext λh=>∃o vs,h.get? a=some o/\o.cls=c/\o.dict=none/\o.data=.fields vs
abbrev Cx.hand(X:Cx)(a:Addr):Cx:={X with A:=X.A.mark (some (.ref a)),calm:=false,xe:=λ_ _=>False}
theorem Cx.Ok.hand(ok:X.Ok):(X.hand a).Ok :=
 ⟨ok.mod,ok.kind,ok.glob,ok.blt,ok.above,ok.inj,ok.has,ok.zb,(λz=>nomatch z),ok.frames,ok.yV,ok.yS,ok.bs,ok.zw,ok.zu,ok.zv,ok.Kr,ok.zg⟩
theorem Inv.hand(I:Inv X aa σ H s):Inv (X.hand a) aa σ H s:=⟨I.ok.hand,I.os,I.bare,I.base,I.loc,I.cell,I.free,I.zZ,I.pin,I.z9,I.len⟩
theorem Inv.Ga(ok:X.Ok)(I:Inv (X.hand a) aa σ H s):Inv X aa σ H s:=⟨ok,I.os,I.bare,I.base,I.loc,I.cell,I.free,I.zZ,I.pin,I.z9,I.len⟩
theorem Inv.Jah{o}(I:Inv X [] σ H s)(gB:X.pn=[])(h0:X.z6.heap.get? a=none)(hn:H a=none)(hf:∃u vs,s.heap.get? a=some u/\u.data=.fields vs)(new:A7 X.prog X.w (upd H a o) s.heap a o):Inv X [] σ (upd H a o) s:=by
 obtain⟨u,vs,hu,hd⟩:=hf;refine⟨I.ok,I.os,I.bare,⟨I.base.keep,I.base.slot,λb o e n hx=>?_,I.base.there,λb xs e=>?_,λb o u e=>?_,λb ps e=>?_⟩,I.loc,I.cell,?_,λx c e=>?_,λp hp=>?_,λb u e=>?_,I.len⟩
 .rw[Aj ((λb u e z=>by rw[z,h0]at e;cases e) b o e)];exact I.base.free b o e n hx
 .have q:=I.base.zO b xs e;rwa[Aj (AY q hn)]
 .have q:=I.base.zX b o u e;rwa[Aj (AY q hn)]
 .obtain⟨more,q⟩:=I.base.zP b ps e;exact⟨more,by rwa[Aj (AY q hn)]⟩
 .rw[Aj]
  .exact I.free
  .intro z;obtain⟨m,⟨o',_,_,bE,fq,_⟩,_⟩:=I.loc;rw[z,hu]at bE;cases bE;rw[hd]at fq;cases fq
 .rw[Aj]
  .exact I.zZ x c e
  .intro z;obtain⟨v,o',bE,fq⟩:=I.cell x c e;rw[z,hu]at bE;cases bE;rw[hd]at fq;cases fq
 .rw[gB]at hp;cases hp
 .by_cases hb:b=a
  .subst hb;rw[Am]at e;cases e;exact new
  .rw[Aj hb]at e;exact(I.z9 b u e).Me (λ_ _ _ q=>q) (λc q=>by rwa[Aj (AY q hn)]) λc xs q=>by rwa[Aj (AY q hn)]
theorem GY{E}(I:Inv X [] σ H s)(gB:X.pn=[])(hN:X.N.Nodup)(hi:X.N[i]?=some n)(hl:X.env.scope.names.lookup n=some .local)
  (h:∀s',Inv X [] (σ.set i none) H s'->Q () s'):wpAny M A (do bindName X.env n .none;unbindBehindTheSuite X.env n pos) Q E s:=by
 have bR:(X.env.scope.kind==.class||(X.env.scope.kind==.module&&X.env.locals !=X.env.globals))=false:=by rw[I.ok.kind];rfl
 have hk:X.env.kindOf n=some .local:=hl;refine p9 (wpAny_bindName (EG I hN hi (.inl hl) (v:=V.l) rfl (λs1 I1=>?_) (.inr hl)));refine wpAny_onRaise ?_;refine p9 (wpAny_point (p9 ?_));unfold deleteName;simp only[hk,bR];obtain⟨m,hn,ly⟩:=id I1.loc;have eE:i<σ.length:=by rw[I.len];exact(ql.mp hi).1
 have jZ:(m n).isSome=true:=by
  obtain⟨u,_,z⟩:=ly i n V.l hi (by rw[q0 eE]) (.inl hl);rcases z with⟨_,z⟩|⟨z,_⟩
  .rw[z];rfl
  .rw[hk]at z;rcases z with z|z<;>cases z
 refine p9 (wpAny_nsDel_keeps hn λh2 v eX ba=>?_);simp only[jZ,if_false];refine qg (wpAny_point ?_);have cne:=I1.cne;have gO:∀b o,X.z6.heap.get? b=some o->b≠X.env.locals:=λb o e=>qI (qC (qp e) I.ok.above)
 have key:Inv X [] (σ.set i none) H {s1 with heap:=h2}:=by
  refine⟨I1.ok,I1.os,I1.bare,⟨λb o e n hb hx=>(ba.2 b (gO b o e)).trans (I1.base.keep b o e n hb hx),λb o e n hb hx=>?_,I1.base.free,λb o e hx=>?_,I1.base.zO,I1.base.zX,I1.base.zP⟩,⟨_,eX,λj y v' e1 e2 e3=>?_⟩,λy c e=>?_,I1.free,I1.zZ,λp hp=>?_,λb ob e=>?_,by simpa using I1.len⟩
  .obtain⟨sl,e1⟩:=I1.base.slot b o e n hb hx;exact⟨sl,(ba.2 b (gO b o e)).trans e1⟩
  .obtain⟨o',e1⟩:=I1.base.there b o e hx;exact⟨o',(ba.2 b (gO b o e)).trans e1⟩
  .by_cases hj:j=i
   .subst hj;rw[q0 eE]at e2;cases e2
   .rw[rh (Ne.symm hj)]at e2;obtain⟨u',r',q⟩:=ly j y v' e1 (by rwa[rh (Ne.symm hj)]) e3;refine⟨u',r',?_⟩;rcases q with⟨k,e⟩|⟨k,c,e,z⟩
    .refine .inl ⟨k,?_⟩;have:y≠n:=λe=>hj (GP hN e1 (e▸hi))
     simp[this,e]
    .exact .inr ⟨k,c,e,z.sameBut ba (cne y c e)⟩
  .obtain⟨w',z⟩:=I1.cell y c e;exact⟨w',z.sameBut ba (cne y c e)⟩
  .rw[gB]at hp;cases hp
  .refine(I1.z9 b ob e).Me (λc w' hc q=>(ba.2 c ?_).trans q) (λ_ q=>q) λ_ _ q=>q
   rintro rfl
   rcases hc with rfl|hc
   .rw[I1.free]at e;cases e
   .rw[I1.free]at hc;cases hc
 first
  |exact h _ key
  |exact h _ (key.tok _)
def PS0(X:Cx)(st:Stmt)(t:TS):Prop:=∀(s:Shared)(σ:St)(H:Hp)(D:Ends),Inv X [] σ H s->t D σ H->wpAny (model X.prog X.w) X.A (exec st X.env) (SP X [] D) X.xe s
def QS(X:Cx)(st:List Stmt)(t:TS):Prop:=∀(s:Shared)(σ:St)(H:Hp)(D:Ends),Inv X [] σ H s->t D σ H->wpAny (model X.prog X.w) X.A (execs st X.env) (SP X [] D) X.xe s
variable{st:Stmt}{rest:List Stmt}{t u:TS}
theorem PS.zero(h:PS X st t):PS0 X st t:=λs σ H D I q=>h [] s σ H D I q
theorem PSs.zero(h:PSs X rest t):QS X rest t:=λs σ H D I q=>h [] s σ H D I q
theorem Ms(h1:PS0 X st t)(h2:QS X rest u):QS X (st::rest) (JbU t u):=by intro s σ H D I h;refine wpAny_execs_cons (thn (h1 s σ H {D with nx:=u D} I h) λf s1 q=>?_);cases f with|next =>obtain⟨ax,H',I',q⟩:=q;exact h2 s1 ax H' D I' q|ret v=>exact q|brk=>exact q|cont=>exact q
theorem QS.unw{E}(h:QS (X.EX E) rest t)(k:∀e s,E e s->X.xe e s):QS X rest t:=λs σ H D I hw =>wpAny_mono (h s σ H D (I.EX _) hw) (λ_ _ q=>q.Dm) λe s z=>k e s z
theorem X6{dV kV cm pm cdv ct oc:Value}{an od:Option Addr}
  {gf:Array (Option Value)} {N ps:List Str} {sp:Sp} (lk:K.lookup f=some ⟨oc,od,.func (fnOf name qual params body scope dV kV cm pm an cdv ct),gf⟩) (dD:codeIn K cdv qual=true) (S:Hr N ps scope)
  (len:∀vs H Q E,sp vs H Q E->vs.length=ps.length)
  (eB:∀(A:Around)(outer:List Env)(s:Shared)(H:Hp)(vs:List V)(Q:VK)(E:XK),CL k (A.deeper (envOfC qual scope s.heap.objs.size f cdv))->sp vs H Q E ->
   ∃t,QS (LB CX P w K mg base N qual scope f cdv A outer s H E) body t/\t {nx:=λ_ H'=>Q .l H',rt:=Q} (start N vs) H) :
  D4 P w K mg base CX (k+1) f (fnOf name qual params body scope dV kV cm pm an cdv ct) ps sp:=by
 refine⟨len,λA outer s H args us vs Q E hr e0 hb r eY=>?_⟩;have KX:K.In s.heap:=e0.mod.y1.keeps λb o e=>(e0.bs b o e).1
 refine codeAny_call_function hr.depth (KX _ _ lk) rfl S.co S.gen rfl (PySem.W.codeRec_of KX dD) (hb _ _ _ _ ?_);refine wpAny_newFunctionEnv_cells S.kind (λ⟨n,v⟩ hy=>by
  rcases S.par n (rJ hy).1 with q|q
  .exact .inl q
  .exact .inr ⟨q,PySem.W.cellsFrom_some _ _ _ (.inl q)⟩) λenv he s1 x=>?_
 subst he;refine⟨(e0.mod.nolimit.keeps λb o e=>(e0.bs b o e).1).keeps x.toInCall.keep,codeAny_func ?_⟩;obtain⟨t,ht,hq⟩:=eB A outer s H vs Q E (hr.deeper _) eY;have I:Inv (LB CX P w K mg base N qual scope f cdv A outer s H E) [] (start N vs) H s1:=MZ S hr.hd e0 (len _ _ _ _ eY) r x;refine wpAny_mono (ht s1 (start N vs) H _ I hq) (λfl s' hs=>?_) λe s' hs=>hs
 have aT:∀{ax:St}{H':Hp}{v:V}{u:Value},Inv (LB CX P w K mg base N qual scope f cdv A outer s H E) [] ax H' s'->RelV v u->Q v H'->CE outer P w H s Q u s' :=
  λ{ax H' v u} J rv q=>⟨v,H',J.os,J.bare,J.base,J.z9,rv,q⟩
 cases fl with|ret u =>obtain⟨v,ax,H',J,rv,q⟩:=hs;exact aT J rv q|next =>obtain⟨ax,H',J,q⟩:=hs;exact aT (v:=V.l) (u:=Value.none) J rfl q|brk =>obtain⟨_,_,_,q⟩:=hs;exact False.elim q|cont =>obtain⟨_,_,_,q⟩:=hs;exact False.elim q
theorem Fun.ok0(F:Fun K x qual st f fd)(S:Hr N ps (Bd st))(len:∀vs H Q E,sp vs H Q E->vs.length=ps.length)
  (eB:∀(cdv:Value)(A:Around)(outer:List Env)(s:Shared)(H:Hp)(vs:List V)(Q:VK)(E:XK),CL k (A.deeper (envOfC qual (Bd st) s.heap.objs.size f cdv))->sp vs H Q E ->
   ∃t,QS ((LB (CX1 P w) P w K mg base N qual (Bd st) f cdv A outer s H E).EX (XW (LB (CX1 P w) P w K mg base N qual (Bd st) f cdv A outer s H E) λc _ H'=>E c none H')) (DC st) t/\t {nx:=λ_ H'=>Q .l H',rt:=Q} (start N vs) H) :
  D4 P w K mg base (CX1 P w) (k+1) f fd ps sp:=by
 obtain⟨oc,od,kV,cm,pm,an,cdv,ct,gf,rfl,lk,dD⟩:=F.ex;refine X6 lk dD S len λA outer s H vs Q E hr eY=>?_
 obtain⟨t,h,q⟩:=eB cdv A outer s H vs Q E hr eY;exact⟨t,h.unw λ_ _=>Zu,q⟩
def R5(i:Nat)(D:Ends):Ends:={nx:=λσ H=>D.nx (σ.set i none) H,rt:=D.rt,bk:=λσ H=>D.bk (σ.set i none) H,ct:=λσ H=>D.ct (σ.set i none) H}
def ZTry(K:Fg)(C:Addr)(i:Nat)(th:TS)(D:Ends):XE:=λc σ H=>exmOne K c (.ref C)=some true/\∀a,H a=none->th (R5 i D) (σ.set i (some (.ref a))) (upd H a (exO c a))
variable{n:Str}{i:Nat}{dH:Pos}{body bp:List Stmt}{b4:Stmt}{tb:Ends->TS}{th:TS}
theorem SP.Ga{f}(ok:X.Ok)(h:SP (X.hand a) [] D f s'):SP X [] D f s':=by cases f with|next=>obtain⟨ax,H',I,q⟩:=h;exact⟨ax,H',I.Ga ok,q⟩|brk=>obtain⟨ax,H',I,q⟩:=h;exact⟨ax,H',I.Ga ok,q⟩|cont=>obtain⟨ax,H',I,q⟩:=h;exact⟨ax,H',I.Ga ok,q⟩|ret u=>obtain⟨v,ax,H',I,r,q⟩:=h;exact⟨v,ax,H',I.Ga ok,r,q⟩
theorem SW(D:Og X)(hC:X.mg x=some (.ref C))(hN:X.N.Nodup)(hb:∀D,PSs (X.EX (XW X (ZTry X.K C i th D))) body (tb D))(hs:∀a,PSs (X.hand a) (b4::bp) th)(hi:X.N[i]?=some n:=by rfl)(hl:X.env.scope.names.lookup n=some .local:=by rfl)
  (hg:Gl X x:=by rfl) (aS:(x==("__debug__":Str))=false:=by decide) :
  PS0 X (.Try body [.ExceptHandler (some (.Name x np)) (some n) (b4::bp) dH] [] [] pos) (λD=>tb D D):=by
 intro s σ H D' I h;refine wpAny_Try_except (wpAny_mono (hb D' [] s σ H D' (I.EX _) h) (λf s1 q=>?_) λe s1 q=>?_)
 .have q:=q.Dm;cases f with|next=>exact wpAny_execs_nil q|ret v=>exact q|brk=>exact q|cont=>exact q
 .obtain⟨a,c,T,fl,gR,H1,rfl,I1,e1,f1,n1,z1,z2⟩:=q;refine Jn D I1.ok.frames I1 e1 f1 n1 λh2 T2 e2 n2 I2=>?_
  refine DT D.pn I2 e2 n2 λh3 e3 I3=>?_
  refine wpAny_handleBy_cons (codeAny_handlers_test (Dx I3.hand hg hC ?_ aS)) (by intro q;cases q);obtain⟨oe,vs,he,bR,eV,hd,ht⟩:=id e3;refine PySem.W.Looks.here (PySem.W.exm_one I3.kIn (bR▸(PySem.W.Looks.ld he).andThen .now) z1) ?_;refine codeAny_handlers_suite_as ?_;refine DT D.pn I3 e3 n2 λh4 e4 I4=>?_
  obtain⟨kq,mH,jU,hZ,jS,k9,pQ⟩:=id e4;have j0:=n2 a (.inl rfl);have I5:Inv X [] gR (upd H1 a (exO c a)) {s1 with heap:=h4}:=I4.Jah D.pn j0.1 j0.2 ⟨kq,mH,jU,k9⟩ ⟨⟨kq,mH,jU,hZ,jS,k9⟩,⟨kq,jU⟩,λg1 g2 ⟨o,v,q1,q2⟩ k=>⟨o,v,k o q1,q2⟩⟩;refine EG I5 hN hi (.inl hl) (v:=V.ref a) rfl (λs6 I6=>?_) (.inr hl);refine wpAny_mono (hs a [] s6 _ _ (R5 i D') I6.hand (z2 a j0.2)) (λf s7 q=>?_) λ_ _ z=>False.elim z
  have q:=q.Ga I.ok;cases f with
  |next =>obtain⟨ax,H',I',q⟩:=q;exact GY I' D.pn hN hi hl λs8 I8=>⟨_,_,I8,q⟩
  |ret u =>obtain⟨v,ax,H',I',r,q⟩:=q;exact GY I' D.pn hN hi hl λs8 I8=>⟨v,_,_,I8,r,q⟩
  |brk =>obtain⟨ax,H',I',q⟩:=q;exact GY I' D.pn hN hi hl λs8 I8=>⟨_,_,I8,q⟩
  |cont =>obtain⟨ax,H',I',q⟩:=q;exact GY I' D.pn hN hi hl λs8 I8=>⟨_,_,I8,q⟩
end Lake.L2
namespace PySem.W
open PySem PySem.Spec PySem.Calls PyProof.Rows
variable{prog:Program}{w:World}{A:Around}{E:Value->Shared->Prop}{K:Frag}{x D:Addr}{ox:Obj}
structure ExK(K:Frag)(D:Addr):Prop where
 ga:findIn K (.ref D) "__getattribute__"=some (some (.builtin "BaseException.__getattribute__"))
 gt:findIn K (.ref D) "__getattr__"=some none
 ca:findIn K (.ref D) "__class__"=some (some (.builtin "object.__class__"))
 gs:specialIn K (.builtin "object.__class__") "__get__"=some (some (.builtin "getset_descriptor.__get__"))
 tk:takesIn K (.builtin "object.__class__")=some true
 mo:mroIn K D (.type "object")=some true
 mb:mroIn K D (.type "BaseException")=some true
theorem ExK.find(k:ExK K D)(hc:(clsIn K D).isSome=true):findObj K D none "__class__"=some (.bind (.builtin "getset_descriptor.__get__") (.builtin "object.__class__")):=by obtain⟨cd,hc⟩:=sE.mp hc;unfold findObj;rw[hc,rg,k.ca,rg];simp[k.gs,k.tk]
theorem NB(k:ExK K D)(hc:(clsIn K D).isSome=true)(X:K.In s.heap)(I:InstAt s.heap x ox D none)(h:Q (.done (.ret (.ref D))) s):
  wpAny (model prog w) A (Builtin.«object.__getattribute__» ⟨[.ref x,.str "__class__" tk],[]⟩) Q E s:=by
 repeat (any_goals (first|assumption|with_reducible refine(I.type (M:=model prog w)).at ?_|with_reducible refine(looks_find (M:=model prog w) X I (k.find hc)).at ?_|wp_step))
 exact class_get X I k.mo (qg h)
theorem ND(k:ExK K D)(X:K.In s.heap)(I:InstAt s.heap x ox D none)(h:Q () s):wpAny M A (checkBuiltinCall "BaseException.__getattribute__" ⟨[.ref x,nameV],[]⟩) Q E s:=by
 have hk:builtinKind "BaseException.__getattribute__"=some .slot:=by decide +kernel
 have gE:splitId "BaseException.__getattribute__"=some ("BaseException","__getattribute__"):=by decide +kernel
 simp only[checkBuiltinCall,hk,gE];refine p9 ?_
 repeat (first|with_reducible refine(I.type (M:=M)).at ?_|with_reducible refine(looks_mroIn (M:=M) X k.mb).at ?_|wp_step)
 exact h
theorem Qr(k:ExK K D)(hc:(clsIn K D).isSome=true)(X:K.In s.heap)(I:InstAt s.heap x ox D none)(h:R (.ok (.ret (.ref D))) s):
  codeAny (model prog w) A (.call (.builtin "BaseException.__getattribute__") ⟨[.ref x,.str "__class__" tk],[]⟩) R s :=
 codeAny_call_builtin PySem.F.excAttr_ValueError.ga.plain F.entry_bexc_ga (ND k X I (NB k hc X I h))
theorem YH(k:ExK K D)(hc:(clsIn K D).isSome=true)(X:K.In s.heap)(I:InstAt s.heap x ox D none)(h:Q (.ref D) s):
  wpAny (model prog w) A (getAttrBy (.ref x) (.str "__class__" tk) false) Q E s:=by
 have f3:=PySem.F.excAttr_ValueError.ga.bind (.ref x)
 repeat (any_goals (first|assumption|with_reducible refine(I.type (M:=model prog w)).at ?_|with_reducible refine(looks_findIn (M:=model prog w) X k.ga).at ?_|with_reducible refine(looks_findIn (M:=model prog w) X k.gt).at ?_|wp_step))
 refine Qr k hc X I ?_
 repeat (any_goals (first|assumption|wp_step))
theorem NC(k:ExK K D)(hc:(clsIn K D).isSome=true)(X:K.In s.heap)(I:InstAt s.heap x ox D none)(h:Q (some (.ref D)) {s with toks:=s.toks+1}):
  wpAny (model prog w) A (getAttr? (.ref x) "__class__") Q E s:=by
 exact p9 (wpAny_mkText (p9 (wpAny_attempt (YH k hc X I (qg h)))))
meta theorem PD(k:ExK K D)(hc:(clsIn K D).isSome=true):KitX K (.ref x) (.ref D) (λh=>InstAt h x ox D none) where
 ty:=λ_ _ _ I=>I.type
 it:=λ_ _ X _=>by
  unfold clsIn at hc;split at hc
  next c' d' mV kD ho=>intro A' Q' E' s' k q;exact p9 (wpAny_loadPart (k _ _ (X _ _ ho)) (qg q))
  .cases hc
 ne:=λh tp dd aq n sl X ji=>by
  refine Bool.eq_false_iff.mpr λq=>?_
  have e:=Value.ref.inj (beq_iff_eq.mp q);subst e;unfold clsIn at hc;split at hc
  next c' d' mV kD ho=>cases((X _ _ ho).symm.trans ji)
  .cases hc
 ca:=λX I q=>NC k hc X I q
end PySem.W
namespace Lake.L2
open PySem PySem.Spec PyProof.Rows
variable{X:Cx}
theorem Gw:B6 X (.builtin "isinstance") (λxs H Q=>∃a D y c b,xs=[.ref a,y]/\(∀u,RelV y u->u=c)/\H a=some (exO (.ref D) a)/\PySem.W.ExK X.K D/\(clsIn X.K D).isSome=true/\kitOne X.K (.ref D) c=some b/\Q (.v b) H):=by
 intro aa s σ H xs us Q I r h;obtain⟨a,D,y,c,b,rfl,hy,ha,k,hc,e,q⟩:=h;cases r with
 |cons r1 rr =>
  cases rr with
  |cons r2 rr =>
   cases rr;cases(show _=Value.ref a from r1);cases hy _ r2;obtain⟨⟨o,vs,h1,h2,h3,h4⟩,_⟩:=(show A7 X.prog X.w H s.heap a (exO (.ref D) a)from I.z9 a _ ha)
   exact PySem.W.kia_one (PySem.W.PD k hc) I.kIn (⟨h1,h2,by unfold PySem.W.notCls;rw[h4],by rw[h3];trivial⟩) e (λz=>nomatch z) λtk=>⟨.v b,H,I.tok tk,rfl,q⟩
theorem QO{bs:List Bool}(rv:Vals (bs.map V.v) aq):∀y,y∈aq.toArray->∃b,y=Value.bool b:=by intro y hy;rw[B4 rv]at hy;simp only[List.mem_toArray,qm]at hy;obtain⟨b,_,rfl⟩:=hy;exact⟨b,rfl⟩
def isT:Value->Bool
 |.bool b=>b==true
 |_=>false
theorem YJ{bs:List Bool}(rv:Vals (bs.map V.v) aq):∀y,y∈aq.toArray->SeqAt.EqAt A s y (.bool true) (isT y):=λy hy=>by obtain⟨b,rfl⟩:=QO rv y hy;exact SeqAt.EqAt.bool_bool b true
theorem Pt:MtR X "list.index" (λx vs H Q=>∃(l:Addr)(bs:List Bool)(j:Nat),x=.ref l/\vs=[.v true]/\SqL X.K H l (bs.map V.v)/\bs[j]?=some true/\(∀m,m<j->bs[m]?=some false)/\Q (.int ((j:Nat):Int)) H):=by
 intro aa s σ H x vs v us Q I rx rv h;obtain⟨l,bs,j,rfl,rfl,hq,hj,j4,q⟩:=h;cases rx;obtain⟨u,rfl,ru⟩:=rv.one;cases(show u=Value.bool true from ru);obtain⟨aq,rv,⟨⟨cls,dd,data,sl⟩,n,ho,hc,nO,hd⟩,hz⟩:=I.list hq;subst hc nO hd;have hb:=B4 rv;subst hb;have nW:=(ql.mp hj).1;rw[qe,sizeLine_eq]at hz;refine call_meets F.slot_list_index ⟨_,ho,rfl⟩ F.entry_list_index (F.args_list_index_2 _ _) (SeqAt.list_indexAt l (bs.map Value.bool).toArray n none sl (.bool true) isT j (by simpa using nW) (by lia) ?_ ?_) ⟨ho,YJ rv,?_⟩
 .have:=(ql.mp hj).2;simp[isT,this]
 .intro m hm n5;have:=(ql.mp (j4 m n5)).2;simp[isT,this]
 .exact⟨.int _,H,I.tok _,⟨_,rfl⟩,q⟩
end Lake.L2
namespace Lake.L2
open PySem PySem.Spec PySem.W PyProof.Rows
theorem KZ{l:OpenLaw}{K:Params->Fg}{CX:World->CXT}{sp:Fg->Sp}{x:Str}
  (hn:l.most=some n) (eX:n<=sizeLine) (je:d.params.defaults=[]) (hr:CL k callerA)
  (hY:∀(w:World)(h:Heap),YP w h->(K w.params).In h)
  (F:∀(w:World)(mg:Str->Option Value)(fa:Addr)(h:Heap),(K w.params).In h->h.Ns mainGlobals mg->mg d.name=some (.ref fa) ->
   ∃fd:FuncData,(∀(s:Shared)(u:Value),BindsTo s fd ⟨[u],[]⟩ [(x,u)]) /\
    ∀base:Heap,(K w.params).In base->base.Ns mainGlobals mg->D4 l.prog w (K w.params) mg base (CX w) k fa fd [x] (sp (K w.params)))
  (eY:∀(K:Fg)(H:Hp)(a:Addr)(ns:List Int),ns.length<=n->C8 ns<=2^20->Zq H->SqL K H a (ns.map V.int)->sp K [.ref a] H (λv _=>v=.v true) λ_ _ _=>False)
  (g9:∀(w:World)(H:Hp)(s:Shared)(e:Value)(s':Shared),CX w [] H s (λ_ _ _=>False) e s'->False) :
  WalkO q loose XP YP l.row.toRowW d [] (λf vs=>PySem.call f vs):=by
 intro w z6 aB mg mb G Y fa o pm cd cm dV kV ho hd dD hD ie hg args vals as dI fC lE iE bM;obtain⟨a,vs,ns,rfl,rfl,j5,hints,hlen⟩:=Att.Mg hn dI iE;have KX:=hY w _ Y;obtain⟨fd,hb,hF⟩:=F w mg fa _ KX G.T.g ie;refine PySem.W.enter_call (codeAny_mono (PB KX G.T.g G.T.b G.T.builtins G.T.nolimit hg j5 hints (qF hlen eX) hr hF hb (λH hO hS=>eY (K w.params) H a ns hlen (by
  have h1:(WData.list (ns.map WData.int)).layable=true:=by unfold WData.layableAll at fC;simpa using fC
  unfold WData.layable at h1;rw[qE]at h1;have h2:=qG h1.2;rwa[<- Fy]) hO hS) λH e s'=>g9 w H aB e s') λr s' hq=>?_)
 obtain⟨rfl,h2,h3,h4⟩:=hq;exact⟨.inl ⟨.bool true,.bool true,[],rfl,λ_=>rfl,.bool true,Att.Mw l _,λ_=>⟨List.Pairwise.nil,λ_ hm=>(nomatch hm)⟩⟩,h2,h3,h4⟩
theorem Jb{l:OpenLaw}{K:Params->Fg}{as:List Addr}{CX:World->CXT}{sp:Fg->Sp}{x:Str}
  (hn:l.most=some n) (eX:n<=sizeLine) (je:d.params.defaults=[]) (hr:CL k callerA)
  (hK:∀P:Params,as=(K P).map (·.1))
  (F:∀(w:World)(mg:Str->Option Value)(fa:Addr)(h:Heap),(K w.params).In h->h.Ns mainGlobals mg->mg d.name=some (.ref fa) ->
   ∃fd:FuncData,(∀(s:Shared)(u:Value),BindsTo s fd ⟨[u],[]⟩ [(x,u)]) /\
    ∀base:Heap,(K w.params).In base->base.Ns mainGlobals mg->D4 l.prog w (K w.params) mg base (CX w) k fa fd [x] (sp (K w.params)))
  (eY:∀(K:Fg)(H:Hp)(a:Addr)(ns:List Int),ns.length<=n->C8 ns<=2^20->Zq H->SqL K H a (ns.map V.int)->sp K [.ref a] H (λv _=>v=.v true) λ_ _ _=>False)
  (g9:∀(w:World)(H:Hp)(s:Shared)(e:Value)(s':Shared),CX w [] H s (λ_ _ _=>False) e s'->False) :
  WalkX q loose XP (PySem.W.X.obsZ as) (PySem.W.X.valZ K N tk) l.row.toRowW d [] (λf vs=>PySem.call f vs):=by
 intro w z6 aB mg mb G Y fa o pm cd cm dV kV ho hd dD hD ie hg args vals mR hL dI fC lE iE bM;refine(KZ (l:=l) (q:=q) (loose:=loose) (XP:=XP) (YP:=λw h=>(K w.params).In h) (d:=d) (K:=K) (CX:=CX) (sp:=sp) (x:=x) hn eX je hr (λ_ _ h=>h) F eY g9) w z6 aB mg mb G ?_ fa o pm cd cm dV kV ho hd dD hD ie hg args vals mR dI fC lE iE bM;have h1:as.map z6.heap.get?=(K w.params).map (λp=>some p.2):=congrArg Prod.fst Y;rw[hK w.params]at h1;exact λa o e=>hL.keeps a o (MN _ h1 a o e)
end Lake.L2
namespace Lake.L2
open PySem PySem.Spec PyProof.Rows
variable{X:Cx}{k:Nat}{C:Addr}{ps:List Str}{sp:Sp}{Z:XE}{x m:Str}{p pos aD:Pos}{e o:Expr}{es:List Expr}{ta:TE}{t:TA}
def VZ(C:Addr)(m:Str)(sp:Sp)(Z:XE)(ta:TE)(t:TA):TE:=λσ H Q=>ta σ H λx H1=>∃a dx fs,x=.ref a/\H1 a=some (.ins C dx fs)/\fs.lookup m=none /\
 t σ H1 λvs H2=>sp (x::vs) H2 Q λc _ H'=>Z c σ H'
theorem WL(G:Vt X.prog X.w X.K X.mg X.base (CX1 X.prog X.w) C m k ps sp)(hr:CL k X.A)(hx:Lk X Z)(he:PE X o ta)(ha:PA X (e::es) t)
  (cQ:starEach (e::es) X.env=(false,eval e X.env)::starEach es X.env:=by rfl) (aG:(backTo pos (starEach es X.env)).any (·.1)=false:=by rfl)
  (ht:eval (.Call (.Attribute o m aD) (e::es) [] pos) X.env=(do
   let ov <- eval o X.env
   standAt aD.atName
   let(f,first) <- holding [ov] (getMethod ov m pl)
   callWith pos f first (backTo pos (starEach (e::es) X.env)) (backToKw pos (keywordEach [] X.env))):=by rfl) :
  PE X (.Call (.Attribute o m aD) (e::es) [] pos) (VZ C m sp Z ta t):=by
 obtain⟨f,fd,F,hm,hb⟩:=G.ex;intro aa s σ H Q I h;refine methodCall_KW (thn (he aa s σ H _ I h) λu s1 ao=>?_) ht;obtain⟨x,H1,I1,rx,a,dx,fs,ex,ea,l,q⟩:= ao;subst ex;obtain rfl:u=Value.ref a:=rx;refine Gr I1 ea G.cl hm l ?_;refine callWith_K I.ok.mod.y1 hm.kp (thn (ha pos aa s1 σ H1 _ I1 q) λus s2 ⟨vs,H2,I2,r,q2⟩=>⟨I2.kIn,?_⟩) cQ aG;exact Mi (vs:=.ref a::vs) F hr hb hx I2 (.cons rfl r) q2
theorem WU:Passes (CX1 X.prog X.w) X E0:=λ_ _ _ _ _ _ _ ⟨_,_,_,_,_,_,_,_,_,_,_,q⟩=>q.elim
def A9(z:Str):Bool:=decide (z.length<=3000)&&z.cps.toList.all λc=>decide (c<16^8)
theorem HX{z:Str}(h:A9 z=true):(reprText z).length<=40000:=by
 unfold A9 at h;rw[qE]at h;have h1:=qG h.1;have h2:=PySem.StrLaws.reprText_len z λc m=>qG (qZ.mp h.2 c m)
 lia
variable{v:Expr}{a:Str}{j:Nat}{cp fp jp:Pos}
theorem QJ(hc:X.calm=true):B6 X (.builtin "any") (λxs H Q=>∃(l:Addr)(bs:List Bool),xs=[.ref l]/\SqL X.K H l (bs.map V.v)/\Q (.v (bs.any id)) H):=by
 intro aa s σ H xs us Q I r h;obtain⟨l,bs,rfl,hq,q⟩:=h;obtain⟨u,rfl,rx⟩:=vals1 r;cases rx;obtain⟨aq,rv,pl,hz⟩:=I.list hq;have hb:=B4 rv;have hl:=pl.isList;refine call_any_walk (wpAny_pyIter_list hl ?_);refine⟨s.heap.objs.size,[s.heap.objs.size,l],[s.heap.objs.size],aq.toArray.size,_,_,λi=>(bs[i]?).getD false,rfl,Walks.list (A:=X.A.in1) (I.ok.hd hc) _ l (qI (by obtain⟨_,e,_⟩:=hl;exact qp e)) aq.toArray,
  ⟨⟨_,qo _ rfl,rfl,rfl⟩,hl.push _⟩,λi v s' Q' E' hP hQ=>?_,λh' tk hk=>?_⟩
 .have e:=by simpa using hP
  rw[hb,qH]at e;cases eb:bs[i]? with|none=>rw[eb]at e;cases e|some b =>rw[eb]at e;have e':=Option.some.inj e;subst e';simp only[eb]at hQ;exact wpAny_truthy_bool hQ
 .have e:((List.range aq.toArray.size).any λi=>(bs[i]?).getD false)=bs.any id:=by
   have hlen:aq.toArray.size=bs.length:=by rw[hb];simp
   rw[hlen];rw[rp,sO,sO];constructor
   .rintro⟨i,hi,hh⟩
    have dE:=rX.mp hi;exact⟨bs[i],su dE,by simpa[qb dE]using hh⟩
   .rintro⟨b,hm,hh⟩
    obtain⟨i,hi,rfl⟩:=sC hm;exact⟨i,rX.mpr hi,by simpa[qb hi]using hh⟩
  rw[e];exact⟨.v _,H,I.kept (λb o e=>hk b o (λhm=>by rw[qj.mp hm]at e;exact rd _ (qp e)) (qa _ e)),rfl,q⟩
def tJs:List TE->Str->TE
 | [],av=>λ_ H Q=>av.length<=sizeLine/\Q (.str av) H
 |t::ts,av=>λσ H Q=>t σ H λx H1=>∃z,x=.str z/\(av++z).length<=sizeLine/\tJs ts (av++z) σ H1 Q
inductive PEs(X:Cx):List Expr->List TE->Prop
 |nil:PEs X [] []
 |cons {e:Expr} {t:TE} {es:List Expr} {ts:List TE} (h:PE X e t) (r:PEs X es ts):PEs X (e::es) (t::ts)
theorem PJ:∀{es:List Expr}{ts:List TE},PEs X es ts->∀(av:Str){aa:List (Addr×Obj)}{s:Shared}{σ:St}{H:Hp}{Q:VK},Inv X aa σ H s->tJs ts av σ H Q ->
  Joins (model X.prog X.w) X.A X.xe (evalEach es X.env) av (λout aB=>out.length<=sizeLine/\EP X aa σ Q (.str out aB.toks) {aB with toks:=aB.toks+1}) s:=by
 intro es ts p
 induction p with
 |nil =>intro av aa s σ H Q I h;exact⟨h.1,.str av,H,I.tok _,⟨_,rfl⟩,h.2⟩
 |@cons e t es ts h r ih =>
  intro av aa s σ H Q I q;show wpAny _ _ (eval e X.env) _ _ s;refine thn (h aa s σ H _ I q) λu s1 ao=>?_
  obtain⟨x,H1,I1,r1,z,ez,hz,q1⟩:= ao;subst ez;obtain⟨t,rfl⟩:=r1;exact⟨z,t,rfl,hz,ih (av++z) I1 q1⟩
theorem JaK{v1 v2:Expr}{ts:List TE}(p:PEs X (v1::v2::es) ts):PE X (.JoinedStr (v1::v2::es) jp) (tJs ts Str.empty):=λaa s σ H Q I h =>wpAny_JoinedStr (PJ p Str.empty I h)
variable{f:Addr}{fd:FuncData}{ds:List Value}{bK:List V}
def Q2(C:Addr)(sp:Sp)(bK:List V)(Z:XE)(t:TA):TE:=λσ H Q=>t σ H λvs H1=>∀x dx,H1 x=none->H1 dx=none->dx≠x ->
 sp (.ref x::(vs++bK)) (upd (upd H1 dx (.own x)) x (.ins C dx [])) (λv H2=>v=.l/\Q (.ref x) H2) λc _ H'=>Z c σ H'
theorem Mh(M:Mk X.K C f)(F:D4 X.prog X.w X.K X.mg X.base (CX1 X.prog X.w) k f fd ps sp)(hr:CL (k+1) X.A)(hb:Binds X.K fd ps ds)(hd:Vals bK ds)
  (hx:Lk X Z) (I:Inv X aa σ H s) (r:Vals vs us)
  (h:∀x dx,H x=none->H dx=none->dx≠x->sp (.ref x::(vs++bK)) (upd (upd H dx (.own x)) x (.ins C dx [])) (λv H2=>v=.l/\Q (.ref x) H2) λc _ H'=>Z c σ H') :
  wpAny (model X.prog X.w) X.A (call (.ref C) us) (EP X aa σ Q) X.xe s:=by
 have hq:=h (s.heap.objs.size+1) s.heap.objs.size (I.z9.fresh (Nat.le_succ _)) (I.z9.fresh (qz _)) (qI (tf _));have I2:=Inv.made (C:=C) I;have r2:Vals (V.ref (s.heap.objs.size+1)::(vs++bK)) (Value.ref (s.heap.objs.size+1)::(us++ds)):=.cons rfl (r.append hd);have hl:=by have e:=r2.length;rw[F.len _ _ _ _ hq]at e;exact e.symm
 refine wpAny_call (Kh I.kIn M.makes M.init (beq_iff_eq.mp M.fn) (codeAny_mono (F.run _ X.stack _ _ ⟨Value.ref (s.heap.objs.size+1)::us,[]⟩ (Value.ref (s.heap.objs.size+1)::(us++ds)) _ _ _ (hr.make C us [])
  (I2.Zl.make C us []) (hb _ (Value.ref (s.heap.objs.size+1)::us) I2.kIn hl) r2 hq) λr s' eM=>?_))
 cases r with|error e=>exact hx aa σ _ _ e s' I2 eM|ok fl =>cases fl with|ret u =>obtain⟨v,H',I3,rv,ev,q3⟩:=I2.after eM;subst ev;exact⟨rv,⟨V.ref (s.heap.objs.size+1),H',I3,rfl,q3⟩⟩|next=>exact False.elim eM|brk=>exact False.elim eM|cont=>exact False.elim eM
theorem Pf(M:Mk X.K C f)(F:D4 X.prog X.w X.K X.mg X.base (CX1 X.prog X.w) k f fd ps sp)(hr:CL (k+1) X.A)(hg:Gl X x)(hm:X.mg x=some (.ref C))(hb:Binds X.K fd ps ds)(hd:Vals bK ds)(hx:Lk X Z)
  (ha:PA X (e::es) t) (aS:(x==("__debug__":Str))=false:=by decide) (he:starEach (e::es) X.env=(false,eval e X.env)::starEach es X.env:=by rfl) (aG:(backTo pos (starEach es X.env)).any (·.1)=false:=by rfl) :
  PE X (.Call (.Name x p) (e::es) [] pos) (Q2 C sp bK Z t):=by
 intro aa s σ H Q I h;refine wpAny_Call_Name_kw (Dx I hg hm ?_ aS);refine callWith_K I.ok.mod.y1 M.kp (thn (ha pos aa s σ H _ I h) λus s1 ⟨vs,H1,I1,r,q⟩=>⟨I1.kIn,?_⟩) he aG;exact Mh M F hr hb hd hx I1 r q
theorem WN(G:Vu X.prog X.w X.K X.mg X.base (CX1 X.prog X.w) x C k ps sp)(hr:CL (k+1) X.A)(hx:Lk X Z)(ha:PA X (e::es) t)(hg:Gl X x:=by rfl)(aS:(x==("__debug__":Str))=false:=by decide)
  (he:starEach (e::es) X.env=(false,eval e X.env)::starEach es X.env:=by rfl) (aG:(backTo pos (starEach es X.env)).any (·.1)=false:=by rfl):PE X (.Call (.Name x p) (e::es) [] pos) (Q2 C sp [] Z t):=by
 obtain⟨f,fd,F,M,hb⟩:=G.ex;exact Pf M F hr hg G.at_ hb .nil hx ha aS he aG
theorem Bl:fillsNumberSlot (.type "tuple") "mul"=pure false :=
 PySem.fillsNumberSlot_seq F.slot_tuple_mul.lookup (by decide +kernel) F.slot_tuple_rmul.lookup (by decide +kernel)
theorem B7:seqRepeat? (.type "tuple")=pure (some (.builtin "tuple.__mul__")):=by rfl
theorem BF(a:Int)(t:Tok)(l:Addr)(items:Array Value)(n:Nat)(dd:Option Addr)(sl:Array (Option Value)):
  Meets (Builtin.«int.__rmul__» ⟨[.int a t,.ref l],[]⟩) (λ_ R s=>s.heap.get? l=some {cls:=.type "tuple",dict:=dd,data:=.seq items n,slots:=sl}/\R (.ok (.ret Value.notImplemented)) s) :=
 .of_wp λprog w A R s h=>by obtain⟨hp,g,d,tk,os⟩:=s;obtain⟨hl,h⟩:=h;wp_walk;exact⟨_,rfl,h⟩
theorem K4(l:Addr)(x:Value)(n:Nat)(u:Tok)(dd:Option Addr)(sl:Array (Option Value)):
  Meets (Builtin.«tuple.__mul__» ⟨[.ref l,.int 3 u],[]⟩) (λ_ R s=>s.heap.get? l=some {cls:=.type "tuple",dict:=dd,data:=.seq #[x] n,slots:=sl}/\R (.ok (.ret (Value.ref s.heap.objs.size))) {s with heap:=s.heap.push {cls:=Value.type "tuple",data:=Data.seq #[x,x,x]},toks:=s.toks}) :=
 .of_wp λprog w A R s h=>by obtain⟨hp,g,d,tk,os⟩:=s;obtain⟨hl,h⟩:=h;have f1:=AutoSeq1.idx_int;wp_walk using wpAny_loadPart' hl;exact⟨_,rfl,h⟩
theorem Pg:OpR X (binaryOp .Mult) (λx y H Q=>∃a v,x=.ref a/\y=.int 3/\SqT X.K H a [v]/\∀p,H p=none->Q (.ref p) (upd H p (.tup [v,v,v]))):=by
 intro aa s σ H x y v u Q I rx ry h;obtain⟨a,z,rfl,rfl,ha,q⟩:=h;cases rx;obtain⟨t',rfl⟩:=ry;obtain⟨aq,r1,p1,_⟩:=I.tuple ha;obtain⟨w,rfl,gQ⟩:=vals1 r1;obtain⟨⟨cls,dd,data,sl⟩,ho,hc,n,hd⟩:=id p1;simp only at hc hd;subst hc hd;refine wpAny_binaryOp_repeat_ref (by decide) ⟨_,ho,rfl⟩ (λs'=>typeIs_int s' 3 t') Bl PySem.F.fills_int_mul slot_int_rmul B7 PySem.F.slot_int_index.lookup
  (call_meets slot_int_rmul (typeIs_int s 3 t') entry_int_rmul (args_int_rmul_2 _ _) (BF 3 t' a _ n dd sl)
   ⟨ho,rfl,⟨_,ho,rfl⟩,call_meets slot_tuple_mul ⟨_,ho,rfl⟩ entry_tuple_mul (args_tuple_mul_2 _ _) (K4 a w n t' dd sl) ⟨ho,?_⟩⟩)
 refine⟨.ref s.heap.objs.size,_,I.laid (λb ob q=>qa _ q) (qz _) ?_,rfl,q _ (I.z9.fresh (qz _))⟩;exact⟨by rw[sizeLine_eq];show 3<=_;decide,[w,w,w],.cons gQ (.cons gQ (.cons gQ .nil)),PlT.new _ _⟩
end Lake.L2
namespace PySem
namespace Zp
theorem Ot:typeLookup (.type "zip") "__getattr__"=pure none:=by rw[typeLookup_type,builtinLookup_eq_fast];kernel_rfl
theorem Ov:typeLookup (.type "zip") "keys"=pure none:=by rw[typeLookup_type,builtinLookup_eq_fast];kernel_rfl
theorem LS:entryFor table "zip.__getattribute__"=some Builtin.«object.__getattribute__» :=
 entryFor_alias (id':="object.__getattribute__") (by kernel_rfl) (by decide +kernel) (by decide +kernel) (by kernel_rfl)
theorem Ou(a:Addr)(vs:Array Value)(u:Tok):
  Meets (Builtin.«object.__getattribute__» ⟨[.ref a,.str "keys" u],[]⟩) (λA R s=>s.heap.get? a=some {cls:=.type "zip",dict:=none,data:=.fields vs,slots:=#[]}/\raisesAttr (.ref a) "keys" A R s) :=
 Meets.of_wp λprog w A R s hs=>by
  obtain⟨hx,hs⟩:=hs;have lA:=Ov
  repeat (any_goals (first|assumption|wp_step))
  try simp only[if_false]
  repeat (any_goals (first|assumption|wp_step))
  exact wpAny_raiseAttrError hs.1 hs.2 (attrMsg_fits (by decide +kernel) (by size_fits))
theorem Oq
  (hx:s.heap.get? a=some {cls:=.type "zip",data:=.fields vs}) (hA:A.handled=none)
  (h:∀h' tk,(∀b o,s.heap.get? b=some o->h'.get? b=some o)->Q none {s with heap:=h',toks:=tk}):wpAny (model prog w) A (getAttr? (.ref a) "keys") Q E s:=by
 obtain⟨hp,g,d,tk,os⟩:=s;have hT:∀gh,(⟨hp,g,d,gh,os⟩:Shared).TypeIs (.ref a) "zip":=λ_=>⟨_,hx,rfl⟩
 have f1:=sub_AttributeError;have f3:=F.slot_zip_getattribute.lookup;have f4:=F.slot_zip_getattribute.bind (.ref a);have f5:=Ot
 repeat (any_goals (first|assumption|exact hT _|((with_reducible show wpAny _ _ (call (Value.builtin "zip.__getattribute__") _ _) _ _ _);refine call_meets F.slot_zip_getattribute (hT _) LS (F.args_zip_getattribute_2 _ _) (Ou a vs _) ⟨hx,hA,λh' gh e jj=>?_⟩)|wp_step))
 obtain⟨t',u',he⟩:=jj.there;unfold getattributeRaised
 repeat (any_goals (first|assumption|wp_step))
 exact h h' gh jj.1
theorem Iw:entryFor table "dict.update.loop"=some Builtin.«dict.update.loop»:=entryFor_of_fast (by kernel_rfl)
theorem HK:plainId "dict.update.loop"=true:=by decide +kernel
variable{prog:Program}{w:World}{A:Around}{E:Value->Shared->Prop}{s:Shared}{z TI TO i1 i2 l1 l2 lo S:Addr}{xs ys:Array Value}{b1 b2:Bool}{R:Result->Shared->Prop}
section
variable{K:Type}[DecidableEq K]{knd:KeyKind prog w K}
theorem OD(hh:A.handled=none)(D:Apart z TI TO i1 i2 l1 l2)(bM:∀b∈[z,TI,TO,i1,i2,l1,l2],b<lo)(dY:∀b∈[z,TI,TO,i1,i2,l1,l2],b≠S)(k6:S<lo){ks:List K}(bt:∀(i:Nat)(x:Value),xs[i]?=some x->∃k,ks[i]?=some k/\knd.is k x=true)(hn:xs.size<=sizeLine)(hl:ks.length=xs.size)(res:Value){aJ:Heap}
  (hR:∀h' tk,(∀b o,b≠S->b∉[z,TO,i1,i2]->aJ.get? b=some o->h'.get? b=some o)->h'.DictOf knd S (merged [] (ks.zip ys.toList))->R (.ok (.ret res)) {s with heap:=h',toks:=tk}) :
  ∀(k i:Nat)(h:Heap)(tk:Nat),min xs.size ys.size-i=k->i<=min xs.size ys.size->Frs b1 b2 h z TI TO i1 i2 l1 l2 lo i->DI b1 h l1 xs->DI b2 h l2 ys->(∀b o,b≠S->b∉[z,TO,i1,i2]->aJ.get? b=some o->h.get? b=some o) ->
   h.DictOf knd S (merged [] ((ks.zip ys.toList).take i))->lo<=h.objs.size ->
   codeAny (model prog w) A (.builtin "dict.update.loop" ⟨[.ref S,.ref z,rawInt i,res],[]⟩) R {s with heap:=h,toks:=tk}:=by
 have oS:∀{b a:Addr},b<lo->lo<=a->a≠b:=λ{b a} h1 h2 q=>absurd (qC h1 h2) (by rw[q];exact rd _)
 have zl:(ks.zip ys.toList).length=min xs.size ys.size:=by rw[sG,hl,rT]
 intro k
 induction k with
 |zero =>
  intro i h tk hk hi cQ c1 c2 eF hS jb;refine codeAny_builtin Iw ?_;refine p9 (UW (A:=A.in1) hh D cQ c1 c2 (by
   rcases Nat.le_total xs.size ys.size with q|q
   .left;rw[Array.getElem?_eq_none_iff];lia
   .right;rw[Array.getElem?_eq_none_iff];lia) λh' he=>?_)
  refine p9 (qg (qg (hR h' tk (λb o q1 q2 e=>?_) ?_)))
  .simp only[qA,qW,or_false,not_or]at q2;exact he b o q2.1 q2.2.1 q2.2.2.1 q2.2.2.2 (eF b o q1 (by simp[q2]) e)
  .rw[rY (by lia)]at hS;obtain⟨o,es,ep,ho,r⟩:=hS;exact⟨o,es,ep,he S _ (Ne.symm (dY _ (by simp))) (Ne.symm (dY _ (by simp))) (Ne.symm (dY _ (by simp))) (Ne.symm (dY _ (by simp))) ho,r⟩
 |succ k ih =>
  intro i h tk hk hi cQ c1 c2 eF hS jb;have ic:i<xs.size:=by lia
  have dG:i<ys.size:=by lia
  obtain⟨κ,ek,oG⟩:=bt i _ (rP ic);have ez:(ks.zip ys.toList)[i]?=some (κ,ys[i]):=by rw[List.getElem?_zip_eq_some];exact⟨ek,by rw[Array.getElem?_toList];exact rP dG⟩
  refine codeAny_builtin Iw ?_;refine p9 (OG (s:={s with heap:=h,toks:=tk}) D cQ c1 c2 (rP ic) (rP dG) jb bM λh' ka mT mU ht hz lu=>?_);refine p9 (wpAny_holding ?_);refine p9 (wpAny_tryCatch ?_);refine p9 (wpAny_typeOf (T:="tuple") ⟨_,ht,rfl⟩ ?_);refine p9 (wpAny_seqItems ht rfl (qg ?_));refine wpAny_holding (wpAny_dictSet_pairs (s:={s with heap:=h',toks:=tk}) oG (by obtain⟨o,es,ep,ho,r⟩:=hS;exact⟨o,es,ep,lu S _ (Ne.symm (dY _ (by simp))) (Ne.symm (dY _ (by simp))) (Ne.symm (dY _ (by simp))) (Ne.symm (dY _ (by simp))) ho,r⟩) (λh2 hd2 sb=>?_) (qF (merged_length_le _ _) (by simp only[List.length_nil,qY];lia)));rw[<- merged_take_succ _ _ _ _ ez]at hd2;have up:∀b o,b≠S->h'.get? b=some o->h2.get? b=some o:=λb o hb e=>sb.extBut b o hb e
  refine qg ⟨plainId_quiet HK _,ih (i+1) h2 (tk+1) (by lia) (by lia) (ka.keep up (λb hb=>dY b (qk [l1,l2] hb)) k6) (mT.at λo e=>up _ o (dY _ (by simp)) e) (mU.at λo e=>up _ o (dY _ (by simp)) e) (λb o q1 q2 e=>?_) hd2 ?_⟩
  .have q3:=q2;simp only[qA,qW,or_false,not_or]at q3;exact up b o q1 (lu b o q3.1 q3.2.1 q3.2.2.1 q3.2.2.2 (eF b o q1 q2 e))
  .exact qF jb (sS (qp (up _ _ (oS k6 jb) ht)))
theorem Hg(hh:A.handled=none)(D:Apart z TI TO i1 i2 l1 l2)(hz:IsZip s.heap z TI TO .none)(aY:IsPair s.heap TI (.ref i1) (.ref i2))(bC:∃a b,IsPair s.heap TO a b)(t1:F7 b1 s.heap i1 l1 0)(t2:F7 b2 s.heap i2 l2 0)(c1:DI b1 s.heap l1 xs)(c2:DI b2 s.heap l2 ys)
  (bM:∀b∈[z,TI,TO,i1,i2,l1,l2],b<s.heap.objs.size) {ks:List K} (bt:∀(i:Nat)(x:Value),xs[i]?=some x->∃k,ks[i]?=some k/\knd.is k x=true) (hn:xs.size<=sizeLine) (hl:ks.length=xs.size)
  (hQ:∀h' tk,(∀b o,b∉[z,TO,i1,i2]->s.heap.get? b=some o->h'.get? b=some o)->h'.DictOf knd s.heap.objs.size (merged [] (ks.zip ys.toList))->Q (.ref s.heap.objs.size) {s with heap:=h',toks:=tk}) :
  wpAny (model prog w) A (call (.type "dict") [.ref z]) Q E s:=by
 refine callType_codes (Q₁:=λobj aB=>obj=.ref s.heap.objs.size/\aB={s with heap:=s.heap.push {cls:=.type "dict",data:=.dict #[]} }) F.kt_called_dict (F.kt_typeCall_dict_1 _) F.entry_dict_init (kt_code_dict_new _ ⟨rfl,rfl⟩) ?_
 rintro obj aB ⟨rfl,rfl⟩
 have fF:(s.heap.push {cls:=.type "dict",data:=.dict #[]}).DictOf knd s.heap.objs.size []:=Heap.DictOf.new s.heap;have z8:∀b o,s.heap.get? b=some o->(s.heap.push {cls:=.type "dict",data:=.dict #[]}).get? b=some o:=λb o e=>qa _ e
 refine⟨fF.typeIs,F.args_dict_init_2 _ _,?_⟩;refine p9 ?_;refine p9 (wpAny_notOrdered_dict fF.typeIs ?_);refine qg ?_;show wpAny _ _ (Builtin.Dict.updateFrom "dict.__init__" s.heap.objs.size (.ref z) [] .none) _ _ _;refine p9 (wpAny_typeOf (T:="zip") ⟨_,z8 _ _ hz,rfl⟩ ?_);refine p9 (Oq (z8 _ _ hz) hh λh2 pk k2=>?_);have up:∀b o,s.heap.get? b=some o->h2.get? b=some o:=λb o e=>k2 b o (z8 b o e)
 refine p9 (wpAny_rule ?_);refine p9 (wpAny_pyIter_zip (up _ _ hz) ?_);obtain⟨ta,tb,bC⟩:=bC;have fU:h2.DictOf knd s.heap.objs.size []:=by obtain⟨o,es,ep,ho,r⟩:=fF;exact⟨o,es,ep,k2 _ _ ho,r⟩
 refine qg ⟨plainId_quiet HK _,OD (A:=A.in1) (s:=s) (aJ:=h2) (lo:=h2.objs.size) (b1:=b1) (b2:=b2) (xs:=xs) (ys:=ys) (knd:=knd) hh D (λb hb=>qC (bM b hb) (by
  obtain⟨o,es,ep,ho,_⟩:=fF;exact sS (qp (k2 _ _ ho)))) (λb hb=>qI (bM b hb)) (by
  obtain⟨o,es,ep,ho,_⟩:=fU;exact qp ho) bt hn hl .none (λh' tk kp dd=>?_) (min xs.size ys.size) 0 h2 pk rfl (sM _)
  ⟨.inl ⟨rfl,up _ _ hz,ta,tb,up _ _ bC⟩,up _ _ aY,t1.at λo e=>up _ o e,t2.at λo e=>up _ o e⟩ (c1.at λo e=>up _ o e) (c2.at λo e=>up _ o e) (λb o _ _ e=>e) (by simpa[merged]using fU) (qz _)⟩
 exact⟨rfl,hQ h' tk (λb o q e=>kp b o (qI (qp e)) q (up b o e)) dd⟩
end
end Zp
end PySem
namespace Lake.L2
open PySem PySem.Spec PyProof.Rows
theorem Rx:∀{ks:List Key}{ys:List V}{us:List Value},Vals ys us->KV (ks.zip ys) (ks.zip us)
 | [],_,_,_=>.nil
 |_::_,[],_,.nil=>.nil
 |k::ks,_::_,_::_,.cons r rr=>.cons ⟨rfl,r⟩ (Rx rr)
def OJ(K:Fg)(ta:TA):TE:=λσ H Q=>ta σ H λvs H1=>∃(b1:Bool)(a1:Addr)(b2:Bool)(a2:Addr)(ks:List Key)(ys:List V),vs=[.ref a1,.ref a2]/\SqB b1 K H1 a1 (ks.map kV)/\SqB b2 K H1 a2 ys/\ks.Nodup/\ks.length=ys.length/\∀d,H1 d=none->Q (.ref d) (upd H1 d (.o (ks.zip ys)))
theorem Lh(hc:X.calm=true)(fD:X.mg "dict"=none)(cL:X.mg "zip"=none)(ha:PA X [a,b] ta)(gw:Gl X "dict":=by rfl)(eD:Gl X "zip":=by rfl)
  (he:starEach [(.Call (.Name "zip" p2) [a,b] [] aX:Expr)] X.env=[(false,eval (.Call (.Name "zip" p2) [a,b] [] aX) X.env)]:=by rfl) (hs:starEach [a,b] X.env=[(false,eval a X.env),(false,eval b X.env)]:=by rfl) (ba:starEach [b] X.env=[(false,eval b X.env)]:=by rfl) :
  PE X (.Call (.Name "dict" p1) [.Call (.Name "zip" p2) [a,b] [] aX] [] cX) (OJ X.K ta):=by
 intro aa s σ H Q I h;refine wpAny_Call_Name_kw (Dp I gw fD boot_dict ?_);refine callWith_type1 ?_ he rfl;refine Calls.spliced_cons ?_;refine wpAny_Call_Name_kw (Dp I eD cL boot_zip ?_);refine callWith_type1 (thn (ha aX aa s σ H _ I h) λus s1 ao=>?_) (by rw[hs,ba]) (by rw[ba];rfl);obtain⟨vs,H1,I1,r1,q1⟩:= ao;obtain⟨b1,a1,b2,a2,ks,ys,e,hx,hy,nd,ln,q⟩:=q1;subst e;cases r1 with
 |cons r rr =>
  cases rr with
  |cons r' rr =>
   cases rr;cases r;cases r';obtain⟨bS,kA,c1,z1⟩:=I1.sqb hx;obtain⟨aW,kB,c2,z2⟩:=I1.sqb hy;have e1:=kA.length;have e2:=kB.length;rw[qe]at e1;refine Zp.KJ (T1:=Zp.BX b1) (T2:=Zp.BX b2) (C1:=λh=>Zp.DI b1 h a1 bS.toArray) (C2:=λh=>Zp.DI b2 h a2 aW.toArray) (Zp.Kl b1 a1 bS.toArray) (Zp.Kl b2 a2 aW.toArray) (λh o c=>Zp.DI.at (b:=b2) c λo e=>qa _ e) c1 c2 ?_;obtain⟨z,TI,TO,i1,i2,ez,g0,g1,g2,g3,g4,D,hz,aY,bC,t1,t2,hk⟩:=Zp.made c1 c2;rw[<- ez];refine Calls.spliced_nil ?_;have kJ:Zp.DI b1 (Zp.z5 s1.heap (Zp.BX b1) (Zp.BX b2) a1 a2) a1 bS.toArray:=Zp.DI.at (b:=b1) c1 λo e=>hk _ o e
   have kK:Zp.DI b2 (Zp.z5 s1.heap (Zp.BX b1) (Zp.BX b2) a1 a2) a2 aW.toArray:=Zp.DI.at (b:=b2) c2 λo e=>hk _ o e
   have kM:∀{b:Bool}{h:Heap}{l:Addr}{xs:Array Value},Zp.DI b h l xs->l<h.objs.size:=λ{b h l xs} c=>by
    cases b
    .obtain⟨o,e,_⟩:=c;exact qp e
    .obtain⟨o,e,_⟩:=c;exact qp e
   refine Zp.Hg (s:={s1 with heap:=Zp.z5 s1.heap (Zp.BX b1) (Zp.BX b2) a1 a2}) (b1:=b1) (b2:=b2) (xs:=bS.toArray) (ys:=aW.toArray) (knd:=AV X.prog X.w) (ks:=ks) (I.ok.hd hc) D hz aY ⟨_,_,bC⟩ t1 t2 kJ kK (λb hb=>?_) (λi x ex=>?_) (by simp only[qD];lia) (by simp only[qD];lia) λh' tk kp dd=>?_
   .simp only[qA,qW,or_false]at hb;rcases hb with rfl|rfl|rfl|rfl|rfl|rfl|rfl
    .exact qp hz
    .exact qp aY
    .exact qp bC
    .obtain⟨o,e,_⟩:=t1.obj;exact qp e
    .obtain⟨o,e,_⟩:=t2.obj;exact qp e
    .exact kM kJ
    .exact kM kK
   .have jG:bS[i]?=some x:=by simpa using ex
    have li:=(ql.mp jG).1;obtain⟨u',hu,ru⟩:=kA.get (i:=i) (qb (by rw[qe];lia));rw[jG]at hu;cases hu;rw[rW]at ru;exact⟨_,qb (by lia),Jz ru⟩
   .have gs:s1.heap.objs.size<=(Zp.z5 s1.heap (Zp.BX b1) (Zp.BX b2) a1 a2).objs.size:=qF g0 (sS (qp hz));have zk:((ks.zip aW).map (·.1))=ks:=by rw[rL (by lia)]
    rw[merged_nil_of_nodup _ (by simp only;rw[zk];exact nd)]at dd;have fr:=I1.z9.fresh (a:=(Zp.z5 s1.heap (Zp.BX b1) (Zp.BX b2) a1 a2).objs.size) gs;refine⟨.ref (Zp.z5 s1.heap (Zp.BX b1) (Zp.BX b2) a1 a2).objs.size,upd H1 (Zp.z5 s1.heap (Zp.BX b1) (Zp.BX b2) a1 a2).objs.size (.o (ks.zip ys)),?_,rfl,q _ fr⟩;refine(I1.kept hk).T3 (fp:=[z,TO,i1,i2]) kp (λb hb=>?_) (λb u e=>?_) λb u e=>?_
    .have fA:s1.heap.objs.size<=b:=by simp only[qA,qW,or_false]at hb;rcases hb with rfl|rfl|rfl|rfl<;>assumption
     exact I1.Qj fA (I1.z9.fresh fA)
    .rwa[Aj (λz=>by rw[z,fr]at e;cases e)]
    .by_cases hb:b=(Zp.z5 s1.heap (Zp.BX b1) (Zp.BX b2) a1 a2).objs.size
     .subst hb;rw[Am]at e;cases e;refine .inr ⟨qz _,(show A7 X.prog X.w _ h' _ (.o (ks.zip ys))from⟨by rw[sG];lia,(beq_eq_false_iff_ne.mpr (Ne.symm (qI (qC I1.big gs)))),ks.zip aW,Rx kB,dd⟩)⟩
     .rw[Aj hb]at e;exact .inl e
theorem K5(l:Addr)(x:Value)(n:Nat)(u:Tok)(dd:Option Addr)(sl:Array (Option Value)):
  Meets (Builtin.«tuple.__mul__» ⟨[.ref l,.int 2 u],[]⟩) (λ_ R s=>s.heap.get? l=some {cls:=.type "tuple",dict:=dd,data:=.seq #[x] n,slots:=sl}/\R (.ok (.ret (Value.ref s.heap.objs.size))) {s with heap:=s.heap.push {cls:=Value.type "tuple",data:=Data.seq #[x,x]},toks:=s.toks}) :=
 .of_wp λprog w A R s h=>by obtain⟨hp,g,d,tk,os⟩:=s;obtain⟨hl,h⟩:=h;have f1:=AutoSeq1.idx_int;wp_walk using wpAny_loadPart' hl;exact⟨_,rfl,h⟩
theorem K6(l:Addr)(x:Value)(n:Nat)(u:Tok)(dd:Option Addr)(sl:Array (Option Value)):
  Meets (Builtin.«tuple.__mul__» ⟨[.ref l,.int 1 u],[]⟩) (λ_ R s=>s.heap.get? l=some {cls:=.type "tuple",dict:=dd,data:=.seq #[x] n,slots:=sl}/\R (.ok (.ret (Value.ref l))) s) :=
 .of_wp λprog w A R s h=>by obtain⟨hp,g,d,tk,os⟩:=s;obtain⟨hl,h⟩:=h;have f1:=AutoSeq1.idx_int;wp_walk using wpAny_loadPart' hl;exact⟨_,rfl,h⟩
theorem HU:OpR X (binaryOp .Mult) (λx y H Q=>∃a v,x=.ref a/\SqT X.K H a [v]/\((y=.int 1/\Q (.ref a) H)\/(y=.int 2/\∀p,H p=none->Q (.ref p) (upd H p (.tup [v,v]))))):=by
 intro aa s σ H x y v u Q I rx ry h;obtain⟨a,z,rfl,ha,q⟩:=h;cases rx;obtain⟨aq,r1,p1,_⟩:=I.tuple ha;obtain⟨w,rfl,gQ⟩:=vals1 r1;obtain⟨⟨cls,dd,data,sl⟩,ho,hc,n,hd⟩:=id p1;subst hc hd;rcases q with⟨rfl,q⟩|⟨rfl,q⟩
 .obtain⟨t',rfl⟩:=ry;refine wpAny_binaryOp_repeat_ref (by decide) ⟨_,ho,rfl⟩ (λs'=>typeIs_int s' 1 t') Bl PySem.F.fills_int_mul slot_int_rmul B7 PySem.F.slot_int_index.lookup
   (call_meets slot_int_rmul (typeIs_int s 1 t') entry_int_rmul (args_int_rmul_2 _ _) (BF 1 t' a _ n dd sl)
    ⟨ho,rfl,⟨_,ho,rfl⟩,call_meets slot_tuple_mul ⟨_,ho,rfl⟩ entry_tuple_mul (args_tuple_mul_2 _ _) (K6 a w n t' dd sl) ⟨ho,?_⟩⟩)
  exact⟨.ref a,H,I,rfl,q⟩
 .obtain⟨t',rfl⟩:=ry;refine wpAny_binaryOp_repeat_ref (by decide) ⟨_,ho,rfl⟩ (λs'=>typeIs_int s' 2 t') Bl PySem.F.fills_int_mul slot_int_rmul B7 PySem.F.slot_int_index.lookup
   (call_meets slot_int_rmul (typeIs_int s 2 t') entry_int_rmul (args_int_rmul_2 _ _) (BF 2 t' a _ n dd sl)
    ⟨ho,rfl,⟨_,ho,rfl⟩,call_meets slot_tuple_mul ⟨_,ho,rfl⟩ entry_tuple_mul (args_tuple_mul_2 _ _) (K5 a w n t' dd sl) ⟨ho,?_⟩⟩)
  refine⟨.ref s.heap.objs.size,_,I.laid (λb ob q=>qa _ q) (qz _) ?_,rfl,q _ (I.z9.fresh (qz _))⟩;exact⟨by rw[sizeLine_eq];show 2<=_;decide,[w,w],.cons gQ (.cons gQ .nil),PlT.new _ _⟩
variable{X:Cx}
inductive rSlS(x:V)(lo:Option Int)(hi:Option Int)(H:Hp)(Q:VK):Prop
 |mk (z:Str) (h0:x=.str z) (h1:(Txt.slice z lo hi).length<=sizeLine) (h2:Q (.str (Txt.slice z lo hi)) H)
theorem part_of{v:Value}{o:Option Int}(p:IsPart v o):∃l:Option (Int×Tok),v=partValue l/\l.map (·.1)=o:=by cases p with|none=>exact⟨none,rfl,rfl⟩|int i t=>exact⟨some (i,t),rfl,rfl⟩
theorem V6:SlR X rSlS:=by
 intro aa s σ H x v vl vu lo hi sl Q I rx hs pl pu h;obtain⟨z,rfl,hz,q⟩:=h;obtain⟨t,rfl⟩:=rx;obtain⟨l,rfl,el⟩:=part_of pl;obtain⟨u,rfl,eu⟩:=part_of pu;refine⟨"str",_,PyProof.Rows.slot_str_getitem.lookup,typeIs_str s z t,?_⟩;refine wpAny_getItem_str_slice (l:=l) (u:=u) (st:=none) hs rfl ?_;have e:Builtin.Str.strSliceIndices lo hi 1 z.length=slicePicked z l u none:=by rw[<- el,<- eu];rfl
 unfold sliceMade;unfold Txt.slice at q hz;rw[e]at q hz;split
 next c=>rw[if_pos (by simpa using c)]at q;exact⟨.str z,H,I,⟨t,rfl⟩,q⟩
 next c=>rw[if_neg (by simpa using c)]at q hz;exact⟨hz,.str _,H,I.tok _,⟨_,rfl⟩,q⟩
end Lake.L2
namespace Lake.L2
open PySem PySem.Spec
variable{X:Cx}{aa:List (Addr×Obj)}{σ:List (Option V)}{H:Hp}{s:Shared}{a:Addr}{o:Obj}{ag:List (Key×V)}{di:HO}{xs:List V}
theorem Inv.thaw(I:Inv X aa σ H s)(e:H a=some (.frz o di))(n:∀o u,X.zo a≠some (.frz o u))(nf:∀o w,di≠.frz o w):Inv X aa σ (upd H a di) s:=by
 have h1:=(show A7 X.prog X.w H s.heap a (.frz o di)from I.z9 a _ e)
 have ne:∀{b:Addr}{u:HO},H b=some u->(∀o w,u≠.frz o w)->upd H a di b=some u:=λ{b u} z q=>by unfold upd;rw[if_neg (λx=>by subst x;rw[e]at z;cases z;exact q _ _ rfl)];exact z
 have no:∀{b:Addr},H b=none->upd H a di b=none:=λ{b} z=>by unfold upd;rw[if_neg (λx=>by subst x;rw[e]at z;cases z)];exact z
 have st:∀{b:Addr}{u:HO},A7 X.prog X.w H s.heap b u->A7 X.prog X.w (upd H a di) s.heap b u:=λz=>z.Me (λ_ _ _ q=>q) (λ_ q=>ne q (λ_ _=>nofun)) λ_ _ q=>ne q (λ_ _=>nofun)
 exact⟨I.ok,I.os,I.bare,⟨I.base.keep,I.base.slot,λb ob q z x=>no (I.base.free b ob q z x),I.base.there,λb xs q=>ne (I.base.zO b xs q) (λ_ _=>nofun),λb ob u q=>by
  have q':=I.base.zX b ob u q;unfold upd;rw[if_neg (λx=>by subst x;exact n _ _ q)];exact q',λb ps q=>by
  obtain⟨m,z⟩:=I.base.zP b ps q;exact⟨m,ne z (λ_ _=>nofun)⟩⟩,I.loc,I.cell,no I.free,λx c q=>no (I.zZ x c q),λp q=>⟨(I.pin p q).1,no (I.pin p q).2.1,(I.pin p q).2.2⟩,λb u q=>by
  by_cases z:b=a
  .subst z;rw[Am]at q;cases q;exact st h1.2
  .unfold upd at q;rw[if_neg z]at q;exact st (I.z9 b u q),I.len⟩
inductive Jaj(td:TE)(σ:St)(H:Hp)(Q:VK):Prop
 |mk (a ag:_) (h0:H a=some (.o ag)) (h1:∀o,td σ (upd H a (.frz o (.o ag))) λv H1=>H1 a=some (.frz o (.o ag))/\Q v (upd H1 a (.o ag)))
theorem S7(h:PE X e td):PE X e (Jaj td):=by
 intro aa s σ H Q I q;obtain⟨a,ag,ha,q⟩:=q;obtain⟨o,I2⟩:=I.freeze ha;refine thn (h aa s σ _ _ I2 (q o)) λv s1 ao => ?_
 obtain⟨x,H1,I1,r1,h1,q1⟩:= ao;refine⟨x,_,I1.thaw h1 (λob u z=>by rw[I.base.zX a ob u z]at ha;cases ha) (λ_ _=>nofun),r1,q1⟩
end Lake.L2
namespace PySem
variable{prog:Program}{w:World}{A:Around}{E:Value->Shared->Prop}
theorem YS(aI:t≠it):∀(n i:Nat)(s:Shared)(Q:List Value->Shared->Prop),s.heap.IsListIter it t i->s.heap.IsList t items->i+n<=items.size ->
  (∀h',h'.IsListIter it t (i+n)->Heap.SameBut it s.heap h'->Q ((items.toList.drop i).take n) {s with heap:=h' })->wpAny (model prog w) A (draw (.ref it) n) Q E s
 |0,i,s,Q,aL,_,_,hQ=>by exact qg (by simpa using hQ s.heap aL (Heap.SameBut.refl ..))
 |n+1,i,s,Q,aL,ht,hle,hQ=>by
  have dN:i<items.size:=by lia
  refine p9 (wpAny_pyNext_list_item aL ht (x:=items[i]) (by simp[dN]) λaJ cK aZ=>?_);refine p9 (wpAny_holding (YS aI n (i+1) _ _ cK (ht.at λo e=>(aZ.2 t aI).trans e) (by lia) λb7 gx iA=>qg ?_));have hd:items.toList.drop i=items[i]::items.toList.drop (i+1):=by simp[sU,dN]
  have:=hQ b7 (by rw[show i+(n+1)=i+1+n by lia];exact gx) (aZ.trans iA);rw[hd,List.take_succ_cons]at this;exact this
theorem Em(hh:A.handled=none)(ht:s.heap.IsList t items)
  (hn:(assignEach bP env).length=items.size) (iu:(assignEach bP env).findIdx? (·.1)=none)
  (h:∀h',Heap.ExtBut s.heap.objs.size s.heap h'->wpAny (model prog w) A (assignInOrder ((assignEach bP env).map (·.2)) items.toList) Q E {s with heap:=h' }) :
  wpAny (model prog w) A (assign (.Tuple bP x1 pos) env (.ref t)) Q E s:=by
 rw[arm_assign_Tuple];refine p9 (wpAny_standAt ?_);unfold unpack;rw[hn,iu];refine p9 (wpAny_holding ?_);have dN:t≠s.heap.objs.size:=by obtain⟨o,ho,_⟩:=ht;exact qI (qp ho)
 unfold unpackItems;refine p9 ?_;unfold notIterableAtAll;refine p9 (wpAny_specialOf ht.typeIs slot_list_iter.lookup ?_);refine qg ?_;simp only[sL,if_false];refine p9 (wpAny_holding (wpAny_pyIter_list ht ?_));have ji:(s.heap.push {cls:=.type "list_iterator",data:=.fields #[.ref t,.int 0 0]}).IsList t items:=ht.at λo e=>qa _ e
 refine p9 (wpAny_holding (YS dN items.size 0 _ _ ⟨_,qo _ rfl,rfl,rfl⟩ ji (by lia) λaJ cK aZ=>?_));have cH:List.take items.size (List.drop 0 items.toList)=items.toList:=by rw[List.drop_zero];exact rY (by simp)
 rw[cH];rw[if_neg (by simp)];have iB:=ji.at λo e=>(aZ.2 t dN).trans e
 refine p9 (wpAny_holding (wpAny_pyNext_list_end hh cK iB (by simp) λb7 du=>?_));simp only[Option.isSome_none,sL,if_false];refine qg (h b7 λb o hb e=>du b o hb (aZ.extBut b o hb (qa _ e)))
end PySem
namespace Lake.L2
open PySem PySem.Spec
variable{X:Cx}{pos:Pos}
inductive gLst(K:Fg)(n:Nat)(t:TGs)(v:V)(σ:St)(H:Hp)(Q:St->Hp->Prop):Prop
 |mk (a xs:_) (h0:v=.ref a) (h1:SqL K H a xs) (h2:xs.length=n) (h3:t xs σ H Q)
theorem WE(hc:X.calm=true)(h:PGs X es t)
  (hn:(assignEach es X.env).length=n:=by rfl) (cQ:(assignEach es X.env).findIdx? (·.1)=none:=by rfl):PG X (.Tuple es k pos) (gLst X.K n t):=by
 intro aa s σ H v u Q I r hw;obtain⟨a,xs,e1,hq,hl,hw⟩:=hw;subst e1;cases r;obtain⟨aq,rv,⟨o,m,e,c,d,hs⟩,hz⟩:=I.list hq;refine Em (I.ok.hd hc) ⟨o,e,c,m,hs⟩ (by simp[hn,<- hl,rv.length]) cQ λh' hx=>?_
 have I1:Inv X aa σ H {s with heap:=h' }:=I.kept λb o e=>hx b o (qI (qp e)) e
 exact h aa _ σ H xs _ Q I1 (by simpa using rv) hw
end Lake.L2
namespace PySem
namespace Zp
variable{prog:Program}{w:World}{A:Around}{E:Value->Shared->Prop}{s:Shared}{e it l:Addr}{xs:Array Value}{S:Nat->Heap->Prop}
theorem NF(W:Draws prog w it l xs S)(ei:e≠it)(le:l≠e){i:Nat}(he:IsEnum s.heap e it i old)(h1:S i s.heap)(hx:xs[i]?=some x)
  (hQ:∀h',IsEnumOut h' e it ((i:Int)+1) x s.heap.objs.size->S (i+1) h'->IsPair h' s.heap.objs.size (.int i s.toks) x->(∀c o,c≠e->c≠it->s.heap.get? c=some o->h'.get? c=some o)->Q (some (.ref s.heap.objs.size)) {s with heap:=h',toks:=s.toks+1}) :
  wpAny (model prog w) A (pyNext (.ref e)) Q E s:=by
 have hT:s.TypeIs (.ref e) "enumerate":=⟨_,he,rfl⟩
 unfold pyNext;refine p9 (wpAny_attempt (wpAny_callSpecial?_slot hT F.slot_enumerate_next (wpAny_call_entry F.slot_enumerate_next hT F.entry_enumerate_next ?_ (F.args_enumerate_next_1 _))));obtain⟨hp,g,d,tk,os⟩:=s;show wpAny _ _ (field (.ref e) 2 >>= _) _ _ _;refine p9 (qJ he rfl rfl ?_);refine p9 (W.item _ _ i x _ _ h1 hx λa s1 b1=>?_);replace b1:Heap.SameBut it hp a:=b1;have ea:=(b1.2 e ei).trans he;show wpAny _ _ (field (.ref e) 3 >>= _) _ _ ⟨a,g,d,tk,os⟩;refine p9 (qJ ea rfl rfl ?_);show wpAny _ _ (field (.ref e) 4 >>= _) _ _ ⟨a,g,d,tk,os⟩;refine p9 (qJ ea rfl rfl ?_);show wpAny _ _ (setField (.ref e) 3 (rawInt ((i:Int)+1)) >>= _) _ _ ⟨a,g,d,tk+1,os⟩;refine p9 (wpAny_setField_rec ea (by simp) λb eb bb=>?_);replace bb:Heap.SameBut e a b:=bb;replace eb:IsEnum b e it ((i:Int)+1) old:=eb;show wpAny _ _ (setField (.ref e) 4 .none >>= _) _ _ ⟨b,g,d,tk+1,os⟩;refine p9 (wpAny_setField_rec eb (by simp) λc ec bc=>?_);replace bc:Heap.SameBut e b c:=bc;replace ec:IsEnum c e it ((i:Int)+1) old:=ec;show wpAny _ _ (newTuple [.int i tk,x] >>= _) _ _ ⟨c,g,d,tk+1,os⟩;refine p9 (wpAny_newTuple ?_);have sz:c.objs.size=hp.objs.size:=by rw[bc.1,bb.1,b1.1]
 have lt:=qp he;have keep:=λq o q1 q2 z=>bc.extBut q o q1 (bb.extBut q o q1 (b1.extBut q o q2 z))
 have sc:=W.keep _ _ _ s1 (λo z=>bc.extBut _ _ ei.symm (bb.extBut _ _ ei.symm z)) λo z=>bc.extBut _ _ le (bb.extBut _ _ le z)
 have ef:IsEnum (c.push {cls:=.type "tuple",data:=.seq #[.int i tk,x]}) e it ((i:Int)+1) old:=qa _ ec;show wpAny _ _ (Builtin.SmallTypes.ownedTupleIsFree (.ref e) >>= _) _ _ ⟨c.push {cls:=.type "tuple",data:=.seq #[.int i tk,x]},g,d,tk+1,os⟩;refine p9 ?_;unfold Builtin.SmallTypes.ownedTupleIsFree;refine p9 (qJ ef rfl rfl (qg ?_));simp only[if_true];refine p9 (wpAny_rule ?_);refine p9 (qJ ef rfl rfl ?_);refine p9 (wpAny_setField_rec ef (by simp) λf eg bf=>?_);replace bf:Heap.SameBut e (c.push {cls:=.type "tuple",data:=.seq #[.int i tk,x]}) f:=bf;replace eg:IsEnum f e it ((i:Int)+1) x:=eg;show wpAny _ _ (Builtin.SmallTypes.ownedTupleHandOut (.ref e) (.ref c.objs.size) >>= _) _ _ ⟨f,g,d,tk+1,os⟩;refine p9 ?_;unfold Builtin.SmallTypes.ownedTupleHandOut;refine p9 (wpAny_setField_rec eg (by simp) λk ek bk=>?_);replace bk:Heap.SameBut e f k:=bk;replace ek:IsEnumOut k e it ((i:Int)+1) x c.objs.size:=ek;refine wpAny_setField_rec ek (by simp) λm em bm=>?_;replace bm:Heap.SameBut e k m:=bm;replace em:IsEnumOut m e it ((i:Int)+1) x c.objs.size:=em
 have up:=λq o q1 z=>bm.extBut q o q1 (bk.extBut q o q1 (bf.extBut q o q1 z))
 refine p9 (wpAny_letGo (qg ⟨_,rfl,qg ?_⟩));have ne:=sR lt;rw[sz]at em ⊢;exact hQ m em (W.keep _ _ _ sc (λo z=>up _ o ei.symm (qa _ z)) λo z=>up _ o le (qa _ z)) (up _ _ ne (by rw[<- sz];exact qo _ rfl)) λq o q1 q2 z=>up q o q1 (qa _ (keep q o q1 q2 z))
theorem Qu(hh:A.handled=none)(W:Draws prog w it l xs S){i:Nat}(he:IsEnum s.heap e it i old)(h1:S i s.heap)(hx:xs[i]?=none)
  (hQ:∀h',Heap.ExtBut it s.heap h'->Q none {s with heap:=h' }):wpAny (model prog w) A (pyNext (.ref e)) Q E s:=by
 have hT:s.TypeIs (.ref e) "enumerate":=⟨_,he,rfl⟩
 unfold pyNext;refine p9 (wpAny_attempt (wpAny_callSpecial?_slot hT F.slot_enumerate_next (wpAny_call_entry F.slot_enumerate_next hT F.entry_enumerate_next ?_ (F.args_enumerate_next_1 _))));show wpAny _ _ (field (.ref e) 2 >>= _) _ _ _;refine p9 (qJ he rfl rfl ?_);refine p9 (W.stop _ _ i _ _ hh h1 hx λh' x gp jj=>?_);obtain⟨o,ho,hc⟩:=jj;refine p9 (wpAny_isInstance ⟨o,ho,hc⟩ isSubtype_stop ?_);exact qg (hQ _ gp)
def YL(i:Addr):Obj:={cls:=.type "enumerate",data:=.fields #[.none,.bool false,.ref i,rawInt 0,.none,.none]}
meta theorem Ju(l:Addr)(xs:Array Value)(n:Nat)(dc:Option Addr)(sl:Array (Option Value)):
  Meets (Builtin.«enumerate.__new__» ⟨[.type "enumerate",.ref l],[]⟩) (λ_ R s=>s.heap.get? l=some {cls:=.type "tuple",dict:=dc,data:=.seq xs n,slots:=sl} /\
   R (.ok (.ret (.ref (s.heap.push (Ig "tuple_iterator" l)).objs.size))) {s with heap:=(s.heap.push (Ig "tuple_iterator" l)).push (YL s.heap.objs.size)}) :=
 .of_wp λprog w A R s h=>by
  obtain⟨hp,g,d,tk,os⟩:=s;obtain⟨hl,h⟩:=h;have eN:=sub_enumerate;have hL:Heap.IsTuple (Shared.heap ⟨hp,g,d,tk,os⟩) l xs:=⟨_,hl,rfl,n,rfl⟩
  wp_walk using wpAny_loadPart' hl
  refine wpAny_stack_any λst=>qg ?_
  split
  next c _ _ _ _ _=>cases(c==Value.type "enumerate")<;>(wp_walk using wpAny_loadPart' hl,wpAny_pyIter_tuple hL;exact⟨_,rfl,h⟩)
  .wp_walk using wpAny_loadPart' hl,wpAny_pyIter_tuple hL;exact⟨_,rfl,h⟩
theorem NZ(b:Bool)(c:DI b s.heap l xs)
  (h:∀h',IsEnum h' (s.heap.objs.size+1) s.heap.objs.size 0 .none->F7 b h' s.heap.objs.size l 0->(∀c o,s.heap.get? c=some o->h'.get? c=some o)->Q (.ref (s.heap.objs.size+1)) {s with heap:=h' }) :
  wpAny (model prog w) A (call (.type "enumerate") [.ref l]) Q E s:=by
 cases b
 .exact call_enumerate_list c λh' a1 a2 _ a4=>h h' a1 a2 a4
 .obtain⟨⟨cc,dc,dt,sl⟩,hl,hc,n,hd⟩:=c;replace hc:cc=.type "tuple":=hc;replace hd:dt=.seq xs n:=hd;subst hc hd;refine callType_new F.called_enumerate (by decide) (F.typeCall_enumerate_1 _) (F.newCall_enumerate_1 _) (λobj=>F.args_object_init_2 obj _) F.entry_enumerate_new (Ju l xs n dc sl) ⟨hl,?_⟩;have hz:(s.heap.push (Ig "tuple_iterator" l)).objs.size=s.heap.objs.size+1:=rG ..;have he:=by have:=qo (s.heap.push (Ig "tuple_iterator" l)) (o:=YL s.heap.objs.size) rfl;rw[hz]at this;exact this
  rw[hz];exact⟨⟨_,he,rfl⟩,h _ he (F7.new (qa _ (qo _ rfl))) λb o x=>qa _ (qa _ x)⟩
end Zp
end PySem
namespace Lake.L2
open PySem PySem.Spec PyProof.Rows
def Ite(K:Fg)(b:Bool)(a:Addr):It :=
  ⟨λi H=>∃xs x,SqB b K H a xs/\xs[i]?=some x,
   λi H x H'=>∃T vx,H T=none/\x=.ref T/\H'=upd H T (.tup [.int i,vx])/\∀xs,SqB b K H a xs->xs[i]?=some vx,
   λi H=>∃xs,SqB b K H a xs/\xs.length<=i⟩
theorem L5{K:Fg}(ei:e≠it)(ae:a≠e)(ai:a≠it):
  Turn P w K (.Tuple bP k0 bV) (Ite K b a) [e,it] e (λi h=>(∃old,IsEnum h e it i old)/\Zp.F7 b h it a i) where
 mem:=by simp
 obj:=λi h st c hc=>by
  obtain⟨⟨old,he⟩,h1⟩:=st;simp only[qA,qW,or_false]at hc;rcases hc with rfl|rfl
  .exact⟨_,he,λv z=>nomatch z⟩
  .exact h1.obj
 keep:=λi h h' st k=>by obtain⟨⟨old,he⟩,h1⟩:=st;exact⟨⟨old,k e (by simp) _ he⟩,h1.at λo z=>k it (by simp) o z⟩
 item:=by
  intro X hP hw hK hc i aa s σ H E I hf st hg;subst hP hw hK;obtain⟨⟨old,he⟩,h1⟩:=st;obtain⟨xs,x,q1,ex⟩:=hg;obtain⟨aq,r1,c1,z1⟩:=I.sqb q1;obtain⟨u1,ke,kz⟩:=r1.get ex;refine Zp.NF (Zp.A1 b ai) ei ae he ⟨h1,c1⟩ (by simpa using ke) λh' eo s' hT hk=>⟨_,rfl,?_⟩
  refine wpAny_letOwnedTupleGo_enum eo λh2 e2 sb=>?_
  have Tn:∀{c o},s.heap.get? c=some o->c≠s.heap.objs.size:=λq=>qI (qp q)
  have Il:Inv X aa σ (upd H s.heap.objs.size (.tup [.int i,x])) {s with heap:=s.heap.push {cls:=.type "tuple",data:=.seq #[.int i s.toks,u1]},toks:=s.toks+1} :=
   I.laid (λb o e=>qa _ e) (qz _) ⟨by show 2<=sizeLine;rw[sizeLine_eq];decide,[.int i s.toks,u1],.cons ⟨_,rfl⟩ (.cons kz .nil),⟨_,qo _ rfl,rfl,_,rfl,rfl⟩⟩
  have dN:∀c∈[e,it],c≠s.heap.objs.size:=λc hc=>by
   simp only[qA,qW,or_false]at hc;rcases hc with rfl|rfl
   .exact Tn he
   .obtain⟨o,q,_⟩:=h1.obj;exact Tn q
  have gq:∀c∈[e,it],I0 X aa (upd H s.heap.objs.size (.tup [.int i,x])) c:=λc hc=>by obtain⟨f0,f⟩:=hf c hc;exact⟨by rw[Aj (dN c hc)];exact f0,f⟩
  have I2:Inv X aa σ (upd H s.heap.objs.size (.tup [.int i,x])) {s with heap:=h2,toks:=s.toks+1}:=Il.EY (λc o hc z=>by
   have ne:c≠e:=λq=>hc (by simp[q])
   refine sb.extBut _ _ ne ?_;by_cases cT:c=s.heap.objs.size
   .subst cT;have z':=z;rw[qo _ rfl]at z';cases z';exact hT
   .have z':=z;rw[Heap.get?_push_ne _ _ _ cT]at z';exact hk c o ne (λq=>hc (by simp[q])) z') gq
  refine⟨.ref s.heap.objs.size,_,I2,rfl,⟨s.heap.objs.size,x,I.z9.fresh (qz _),rfl,rfl,λzs hz=>by rw[I.Jh hz q1];exact ex⟩,?_,λc hc=>(gq c hc).1⟩;exact⟨⟨_,by simpa using e2⟩,s'.1.at λo z=>sb.extBut _ _ ei.symm z⟩
 done:=by intro X hP hw hK hc i aa s σ H E I hf st hg;subst hP hw hK;obtain⟨⟨old,he⟩,h1⟩:=st;obtain⟨xs,q1,bu⟩:=hg;obtain⟨aq,r1,c1,z1⟩:=I.sqb q1;have e1:=r1.length;exact Zp.Qu (I.ok.hd hc) (Zp.A1 b ai) he ⟨h1,c1⟩ (by simp;lia) λh' hk=>⟨rfl,I.EY (λc o hc z=>hk c o (λq=>hc (by simp[q])) z) hf⟩
 self:=λ_ _ _ _ _ st h=>by obtain⟨⟨old,he⟩,_⟩:=st;exact wpAny_pyIter_enum he h
def Ja4(K:Fg)(ta:TA):TI:=λσ H R=>ta σ H λvs H1=>∃b a,vs=[.ref a]/\(∃xs,SqB b K H1 a xs)/\R (Ite K b a) H1
theorem S4{a:Expr}(hg:Gl X "enumerate")(hm:X.mg "enumerate"=none)(ha:PA X [a] ta)(hs:starEach [a] X.env=[(false,eval a X.env)]:=by rfl):
  PI X (.Tuple bP k0 bV) (.Call (.Name "enumerate" p) [a] [] pos) (Ja4 X.K ta):=by
 intro aa s σ H R I h;refine Call_ (Dp I hg hm boot_enumerate (callWith_type1 (thn (ha pos aa s σ H _ I h) λus s1 ao=>?_) (by rw[hs];rfl) (by rfl)));obtain⟨vs,H1,I1,r1,q1⟩:= ao;obtain⟨b,a1,e,⟨xs,hx⟩,q⟩:=q1;subst e;cases r1 with
 |cons r rr =>
  cases rr;cases r;obtain⟨aq,rv,c,_⟩:=I1.sqb hx;have lt:@LT.lt Nat _ a1 s1.heap.objs.size:=by
   cases b
   .obtain⟨o,e,_⟩:=c;exact qp e
   .obtain⟨o,e,_⟩:=c;exact qp e
  refine Zp.NZ b c λh' he hi hk=>?_
  refine wpAny_pyIter_enum he ⟨s1.heap.objs.size+1,[s1.heap.objs.size+1,s1.heap.objs.size],_,Ite X.K b a1,H1,rfl,I1.kept hk,L5 (by intro z;have z2:@Eq Nat _ _:=z;lia) (by intro z;have z2:@Eq Nat _ _:=z;lia) (by intro z;have z2:@Eq Nat _ _:=z;lia),⟨⟨_,he⟩,hi⟩,λc hc=>?_,q⟩;have fA:@LE.le Nat _ s1.heap.objs.size c:=by
   simp only[qA,qW,or_false]at hc;rcases hc with rfl|rfl
   .exact Nat.le_succ _
   .exact qz _
  exact I1.Qj fA (I1.z9.fresh fA)
theorem K7(l:Addr)(n:Nat)(u:Tok)(dd:Option Addr)(sl:Array (Option Value)):
  Meets (Builtin.«tuple.__mul__» ⟨[.ref l,.int 0 u],[]⟩) (λ_ R s=>s.heap.get? l=some {cls:=.type "tuple",dict:=dd,data:=.seq #[] n,slots:=sl}/\R (.ok (.ret (Value.ref l))) s) :=
 .of_wp λprog w A R s h=>by obtain⟨hp,g,d,tk,os⟩:=s;obtain⟨hl,h⟩:=h;have f1:=AutoSeq1.idx_int;wp_walk using wpAny_loadPart' hl;exact⟨_,rfl,h⟩
theorem Tg:OpR X (binaryOp .Mult) (λx y H Q=>∃a,x=.ref a/\((∃v,SqT X.K H a [v]/\((y=.int 1/\Q (.ref a) H)\/(y=.int 2/\∀p,H p=none->Q (.ref p) (upd H p (.tup [v,v])))\/(y=.int 3/\∀p,H p=none->Q (.ref p) (upd H p (.tup [v,v,v])))))\/(SqT X.K H a []/\y=.int 0/\Q (.ref a) H))):=by
 intro aa s σ H x y v u Q I rx ry h;obtain⟨a,rfl,h⟩:=h;rcases h with⟨z,ha,h⟩|⟨ha,rfl,q⟩
 .rcases h with h|h|⟨rfl,q⟩
  .exact HU aa s σ H _ _ v u Q I rx ry ⟨a,z,rfl,ha,.inl h⟩
  .exact HU aa s σ H _ _ v u Q I rx ry ⟨a,z,rfl,ha,.inr h⟩
  .exact Pg aa s σ H _ _ v u Q I rx ry ⟨a,z,rfl,rfl,ha,q⟩
 .cases rx;obtain⟨t',rfl⟩:=ry;obtain⟨aq,r1,p1,_⟩:=I.tuple ha;cases aq with
  |cons w ws=>cases r1
  |nil =>
   obtain⟨⟨cls,dd,data,sl⟩,ho,hc,n,hd⟩:=id p1;simp only at hc hd;subst hc hd;exact wpAny_binaryOp_repeat_ref (by decide) ⟨_,ho,rfl⟩ (λs'=>typeIs_int s' 0 t') Bl PySem.F.fills_int_mul slot_int_rmul B7 PySem.F.slot_int_index.lookup
    (call_meets slot_int_rmul (typeIs_int s 0 t') entry_int_rmul (args_int_rmul_2 _ _) (BF 0 t' a _ n dd sl)
     ⟨ho,rfl,⟨_,ho,rfl⟩,call_meets slot_tuple_mul ⟨_,ho,rfl⟩ entry_tuple_mul (args_tuple_mul_2 _ _) (K7 a n t' dd sl) ⟨ho,⟨.ref a,H,I,rfl,q⟩⟩⟩)
end Lake.L2
namespace Lake.FL
open PySem PySem.Spec L2
inductive T where
 |l|v (b:Bool)|int (i:Int)|str (x:Str)
 |tup (ts:List T)|lst (ts:List T)
 |z0 (ts:List T)
 |o (ks:List Key) (ts:List T)|dT (ks:List (List Key)) (ts:List T)
 |ins (C:Addr) (fs:List Str) (ts:List T)
 |dF (ks:List Key) (ts:List T)
 |zI (c:Str)
inductive FO where
 |lst (ts:List T)|o (ks:List Key) (ts:List T)|dT (ks:List (List Key)) (ts:List T)
 |ins (C:Addr) (fs:List Str) (os:List FO)|val (t:T)
 |yZ (os:List FO)|yY (os:List FO)
 |dO (ks:List Key) (os:List FO)|la (p:Addr) (ts:List T)
inductive Sl where
 |val (t:T)|own (o:FO)|bor (o:FO)
abbrev FS:=List (Option Sl)
inductive Rv where
 |t (t:T)|nw (o:FO)|n (i:Nat)
inductive Out(α:Type) where
 |ok (a:α) (fs:FS)|exc (c:Str) (fs:FS)|bad
inductive SO where
 |nx (fs:FS)|ret (r:Rv) (fs:FS)|brk (fs:FS)|cnt (fs:FS)|exc (c:Str) (fs:FS)|bad
structure Wd where
 f:Addr->Prop
 p:Addr->Prop
instance:CoeFun Wd λ_=>Addr->Prop:=⟨Wd.f⟩
structure Le(F:Wd)(H:Hp)(F':Wd)(H':Hp):Prop where
 f:∀a,F a->F' a/\H' a=H a
 p:∀a,F.p a->F'.p a/\H' a=H a
theorem Le.refl:Le F H F H:=⟨λ_ h=>⟨h,rfl⟩,λ_ h=>⟨h,rfl⟩⟩
theorem Le.trans(x:Le F H F1 H1)(y:Le F1 H1 F2 H2):Le F H F2 H2 :=
 ⟨λa h=>let⟨p,q⟩:=x.f a h;let⟨p2,q2⟩:=y.f a p;⟨p2,q2.trans q⟩,λa h=>let⟨p,q⟩:=x.p a h;let⟨p2,q2⟩:=y.p a p;⟨p2,q2.trans q⟩⟩
section
variable(K:Fg)
def KL(a:Addr)(vs:List V):Prop:=∃(o:Obj)(aq:Array Value)(n:Nat),K.lookup a=some o/\o.cls=.type "list"/\o.dict=none/\o.data=.seq aq n/\aq.size<=sizeLine/\Vals vs aq.toList
def StL(F:Wd)(H:Hp)(a:Addr)(vs:List V):Prop:=(F a/\Rd H a (.lst vs))\/KL K a vs
def StT(F:Wd)(H:Hp)(a:Addr)(vs:List V):Prop:=K=K/\F a/\H a=some (.tup vs)
end
variable{F':Wd}{H':Hp}{a:Addr}{vs:List V}
section
variable{K:Fg}{F:Wd}{H:Hp}
theorem StL.sq(h:StL K F H a vs):SqL K H a vs:=by
 rcases h with⟨_,h⟩|h
 .exact .inl h
 .exact .inr h
theorem StT.sq(h:StT K F H a vs):SqT K H a vs:=SqT.of h.2.2
theorem Rd.same(h:Rd H a u)(e:H' a=H a):Rd H' a u:=by unfold Rd at *;rwa[e]
theorem StL.le(h:StL K F H a vs)(l:Le F H F' H'):StL K F' H' a vs:=by
 rcases h with⟨f,h⟩|h
 .exact .inl ⟨(l.f a f).1,FL.Rd.same h (l.f a f).2⟩
 .exact .inr h
theorem StT.le(h:StT K F H a vs)(l:Le F H F' H'):StT K F' H' a vs:=⟨rfl,(l.f a h.2.1).1,(l.f a h.2.1).2.trans h.2.2⟩
end
def Cq(K:Fg)(c:Str):Option Addr:=match nsIn K mainGlobals c with|some (some (.ref C))=>some C|_=>none
section
variable(K:Fg)(F:Wd)(H:Hp)
mutual
def AH:T->V->Prop
 |.l,v=>v=.l
 |.v b,v=>v=.v b
 |.int i,v=>v=.int i
 |.str x,v=>v=.str x
 |.tup ts,v=>∃a vs,v=.ref a/\StT K F H a vs/\Ah ts vs
 |.lst ts,v=>∃a vs,v=.ref a/\F a/\H a=some (.lst vs)/\Ah ts vs
 |.z0 ts,v=>∃a vs,v=.ref a/\StL K F H a vs/\Ah ts vs
 |.o ks ts,v=>∃a ag,v=.ref a/\F a/\Rd H a (.o ag)/\ag.map (·.1)=ks/\Ah ts (ag.map (·.2))
 |.dT ks ts,v=>∃a ag,v=.ref a/\F a/\H a=some (.dT ag)/\ag.map (·.1)=ks/\Ah ts (ag.map (·.2))
 |.ins C fs ts,v=>∃a dx ag,v=.ref a/\F a/\H a=some (.ins C dx ag)/\ag.map (·.1)=fs/\Ah ts (ag.map (·.2))
 |.dF ks ts,v=>∃a ag,v=.ref a/\F a/\(∃o,H a=some (.frz o (.o ag)))/\ag.map (·.1)=ks/\Ah ts (ag.map (·.2))
 |.zI c,v=>∃a C,v=.ref a/\F a/\H a=some (exO (.ref C) a)/\Cq K c=some C
def Ah:List T->List V->Prop
 | [],vs=>vs=[]
 |t::ts,vs=>∃v r,vs=v::r/\AH t v/\Ah ts r
end
mutual
def AN:FO->V->List Addr->Prop
 |.val t,v,L=>L=[]/\AH K F H t v
 |.lst ts,v,L=>∃a vs,v=.ref a/\H a=some (.lst vs)/\Ah K F H ts vs/\L=[a]
 |.o ks ts,v,L=>∃a ag,v=.ref a/\H a=some (.o ag)/\ag.map (·.1)=ks/\Ah K F H ts (ag.map (·.2))/\L=[a]
 |.dT ks ts,v,L=>∃a ag,v=.ref a/\H a=some (.dT ag)/\ag.map (·.1)=ks/\Ah K F H ts (ag.map (·.2))/\L=[a]
 |.ins C fs os,v,L=>∃a dx ag L',v=.ref a/\H a=some (.ins C dx ag)/\ag.map (·.1)=fs/\Ay os (ag.map (·.2)) L'/\L=a::L'
 |.yZ os,v,L=>∃a vs L',v=.ref a/\H a=some (.lst vs)/\Ay os vs L'/\L=a::L'
 |.yY os,v,L=>∃a vs L',v=.ref a/\H a=some (.tup vs)/\Ay os vs L'/\L=a::L'
 |.dO ks os,v,L=>∃a ag L',v=.ref a/\H a=some (.o ag)/\ag.map (·.1)=ks/\Ay os (ag.map (·.2)) L'/\L=a::L'
 |.la p ts,v,L=>∃vs,v=.ref p/\H p=some (.lst vs)/\Ah K F H ts vs/\L=[p]
def Ay:List FO->List V->List Addr->Prop
 | [],vs,L=>vs=[]/\L=[]
 |o::os,vs,L=>∃v r L1 L2,vs=v::r/\AN o v L1/\Ay os r L2/\L=L1++L2
end
mutual
def toT:FO->T
 |.val t=>t
 |.lst ts=>.lst ts
 |.o ks ts=>.o ks ts
 |.dT ks ts=>.dT ks ts
 |.ins C fs os=>.ins C fs (Vn os)
 |.yZ os=>.lst (Vn os)
 |.yY os=>.tup (Vn os)
 |.dO ks os=>.o ks (Vn os)
 |.la _ ts=>.lst ts
def Vn:List FO->List T
 | []=>[]
 |o::os=>toT o::Vn os
end
def Ap:FS->St->List Addr->Prop
 | [],σ,L=>σ=[]/\L=[]
 |none::r,σ,L=>∃v ax,σ=v::ax/\Ap r ax L
 |some (.val t)::r,σ,L=>∃v ax,σ=some v::ax/\AH K F H t v/\Ap r ax L
 |some (.own o)::r,σ,L=>∃v ax L1 L2,σ=some v::ax/\AN K F H o v L1/\Ap r ax L2/\L=L1++L2
 |some (.bor o)::r,σ,L=>∃v ax L1 L2,σ=some v::ax/\AN K F H o v L1/\Ap r ax L2/\L=L1++L2
end
variable{K:Fg}{F:Wd}{H:Hp}
mutual
theorem AH.le(l:Le F H F' H'):∀{t:T}{v:V},AH K F H t v->AH K F' H' t v
 |.l,_,h=>h
 |.v _,_,h=>h
 |.int _,_,h=>h
 |.str _,_,h=>h
 |.tup ts,_,h=>by obtain⟨a,vs,e,s,r⟩:=h;exact⟨a,vs,e,s.le l,Ah.le l r⟩
 |.lst ts,_,h=>by obtain⟨a,vs,e,f,s,r⟩:=h;exact⟨a,vs,e,(l.f a f).1,(l.f a f).2.trans s,Ah.le l r⟩
 |.z0 ts,_,h=>by obtain⟨a,vs,e,s,r⟩:=h;exact⟨a,vs,e,s.le l,Ah.le l r⟩
 |.o ks ts,_,h=>by obtain⟨a,ag,e,f,s,k,r⟩:=h;exact⟨a,ag,e,(l.f a f).1,FL.Rd.same s (l.f a f).2,k,Ah.le l r⟩
 |.dT ks ts,_,h=>by obtain⟨a,ag,e,f,s,k,r⟩:=h;exact⟨a,ag,e,(l.f a f).1,(l.f a f).2.trans s,k,Ah.le l r⟩
 |.ins C fs ts,_,h=>by obtain⟨a,dx,ag,e,f,s,k,r⟩:=h;exact⟨a,dx,ag,e,(l.f a f).1,(l.f a f).2.trans s,k,Ah.le l r⟩
 |.dF ks ts,_,h=>by obtain⟨a,ag,e,f,⟨o,s⟩,k,r⟩:=h;exact⟨a,ag,e,(l.f a f).1,⟨o,(l.f a f).2.trans s⟩,k,Ah.le l r⟩
 |.zI c,_,h=>by obtain⟨a,C,e,f,s,k⟩:=h;exact⟨a,C,e,(l.f a f).1,(l.f a f).2.trans s,k⟩
theorem Ah.le(l:Le F H F' H'):∀{ts:List T}{vs:List V},Ah K F H ts vs->Ah K F' H' ts vs
 | [],_,h=>h
 |t::ts,_,h=>by obtain⟨v,r,e,h1,h2⟩:=h;exact⟨v,r,e,AH.le l h1,Ah.le l h2⟩
end
theorem Ah.len:∀{ts:List T}{vs:List V},Ah K F H ts vs->vs.length=ts.length
 | [],_,h=>by simp only[Ah]at h;subst h;rfl
 |t::ts,_,h=>by obtain⟨v,r,rfl,_,h2⟩:=h;simp[Ah.len h2]
theorem Ah.at:∀{ts:List T}{vs:List V}{i:Nat}{t:T},Ah K F H ts vs->ts[i]?=some t->∃v,vs[i]?=some v/\AH K F H t v
 | [],_,_,_,_,e=>by simp at e
 |t::ts,_,0,_,h,e=>by obtain⟨v,r,rfl,h1,_⟩:=h;simp at e;subst e;exact⟨v,rfl,h1⟩
 |t::ts,_,i+1,_,h,e=>by obtain⟨v,r,rfl,_,h2⟩:=h;obtain⟨u,e1,e2⟩:=Ah.at h2 (by simpa using e);exact⟨u,by simpa using e1,e2⟩
theorem Ah.app:∀{ts us:List T}{vs ws:List V},Ah K F H ts vs->Ah K F H us ws->Ah K F H (ts++us) (vs++ws)
 | [],_,_,_,h,h'=>by simp only[Ah]at h;subst h;exact h'
 |t::ts,us,_,ws,h,h'=>by obtain⟨v,r,rfl,h1,h2⟩:=h;show Ah K F H (t::(ts++us)) (v::(r++ws));exact⟨v,r++ws,rfl,h1,Ah.app h2 h'⟩
theorem Ah.one(h:AH K F H t v):Ah K F H [t] [v]:=by exact⟨v,[],rfl,h,rfl⟩
theorem Ah.take:∀{ts:List T}{vs:List V}(n:Nat),Ah K F H ts vs->Ah K F H (ts.take n) (vs.take n)
 | [],_,n,h=>by simp only[Ah]at h;subst h;simp[Ah]
 |t::ts,_,0,h=>by simp[Ah]
 |t::ts,_,n+1,h=>by obtain⟨v,r,rfl,h1,h2⟩:=h;exact⟨v,_,rfl,h1,Ah.take n h2⟩
theorem Ah.drop:∀{ts:List T}{vs:List V}(n:Nat),Ah K F H ts vs->Ah K F H (ts.drop n) (vs.drop n)
 | [],_,n,h=>by simp only[Ah]at h;subst h;simp[Ah]
 |t::ts,_,0,h=>by simpa using h
 |t::ts,_,n+1,h=>by obtain⟨v,r,rfl,h1,h2⟩:=h;exact Ah.drop n h2
theorem Ah.set(q:AH K F H t v):∀{ts:List T}{vs:List V}(n:Nat),Ah K F H ts vs->Ah K F H (ts.set n t) (vs.set n v)
 | [],_,n,h=>by simp only[Ah]at h;subst h;simp[Ah]
 |u::ts,_,0,h=>by obtain⟨w,r,rfl,h1,h2⟩:=h;exact⟨v,r,rfl,q,h2⟩
 |u::ts,_,n+1,h=>by obtain⟨w,r,rfl,h1,h2⟩:=h;exact⟨w,_,rfl,h1,Ah.set q n h2⟩
theorem Ah.rev:∀{ts:List T}{vs:List V},Ah K F H ts vs->Ah K F H ts.reverse vs.reverse
 | [],_,h=>by simp only[Ah]at h;subst h;simp[Ah]
 |t::ts,_,h=>by obtain⟨v,r,rfl,h1,h2⟩:=h;rw[sW,sW];exact Ah.app (Ah.rev h2) (Ah.one h1)
mutual
theorem AN.le(l:Le F H F' H'):∀{o:FO}{v:V}{L:List Addr},(∀a∈L,H' a=H a)->AN K F H o v L->AN K F' H' o v L
 |.val t,_,L,k,h=>by exact⟨h.1,h.2.le l⟩
 |.lst ts,_,L,k,h=>by obtain⟨a,vs,e,s,r,rfl⟩:=h;exact⟨a,vs,e,(k a (by simp)).trans s,r.le l,rfl⟩
 |.o ks ts,_,L,k,h=>by obtain⟨a,vs,e,s,q,r,rfl⟩:=h;exact⟨a,vs,e,(k a (by simp)).trans s,q,r.le l,rfl⟩
 |.dT ks ts,_,L,k,h=>by obtain⟨a,vs,e,s,q,r,rfl⟩:=h;exact⟨a,vs,e,(k a (by simp)).trans s,q,r.le l,rfl⟩
 |.ins C fs os,_,L,k,h=>by obtain⟨a,dx,ag,L',e,s,q,r,rfl⟩:=h;exact⟨a,dx,ag,L',e,(k a (by simp)).trans s,q,Ay.le l (λb hb=>k b (qf _ hb)) r,rfl⟩
 |.yZ os,_,L,k,h=>by obtain⟨a,vs,L',e,s,r,rfl⟩:=h;exact⟨a,vs,L',e,(k a (by simp)).trans s,Ay.le l (λb hb=>k b (qf _ hb)) r,rfl⟩
 |.yY os,_,L,k,h=>by obtain⟨a,vs,L',e,s,r,rfl⟩:=h;exact⟨a,vs,L',e,(k a (by simp)).trans s,Ay.le l (λb hb=>k b (qf _ hb)) r,rfl⟩
 |.dO ks os,_,L,k,h=>by obtain⟨a,ag,L',e,s,q,r,rfl⟩:=h;exact⟨a,ag,L',e,(k a (by simp)).trans s,q,Ay.le l (λb hb=>k b (qf _ hb)) r,rfl⟩
 |.la p ts,_,L,k,h=>by obtain⟨vs,e,s,r,rfl⟩:=h;exact⟨vs,e,(k p (by simp)).trans s,r.le l,rfl⟩
theorem Ay.le(l:Le F H F' H'):∀{os:List FO}{vs:List V}{L:List Addr},(∀a∈L,H' a=H a)->Ay K F H os vs L->Ay K F' H' os vs L
 | [],_,L,k,h=>h
 |o::os,_,L,k,h=>by obtain⟨v,r,L1,L2,e,h1,h2,rfl⟩:=h;exact⟨v,r,L1,L2,e,AN.le l (λa ha=>k a (qk _ ha)) h1,Ay.le l (λa ha=>k a (qt _ ha)) h2,rfl⟩
end
mutual
theorem AN.def:∀{o:FO}{v:V}{L:List Addr},AN K F H o v L->∀a∈L,H a≠none
 |.val t,_,L,h,a,m=>by rw[h.1]at m;cases m
 |.lst ts,_,L,h,a,m=>by obtain⟨b,vs,e,s,r,rfl⟩:=h;rw[qj.mp m,s];simp
 |.o ks ts,_,L,h,a,m=>by obtain⟨b,vs,e,s,q,r,rfl⟩:=h;rw[qj.mp m,s];simp
 |.dT ks ts,_,L,h,a,m=>by obtain⟨b,vs,e,s,q,r,rfl⟩:=h;rw[qj.mp m,s];simp
 |.ins C fs os,_,L,h,a,m=>by
  obtain⟨b,dx,ag,L',e,s,q,r,rfl⟩:=h;rcases qA.mp m with m|m
  .rw[m,s];simp
  .exact Ay.def r a m
 |.yZ os,_,L,h,a,m=>by
  obtain⟨b,vs,L',e,s,r,rfl⟩:=h;rcases qA.mp m with m|m
  .rw[m,s];simp
  .exact Ay.def r a m
 |.yY os,_,L,h,a,m=>by
  obtain⟨b,vs,L',e,s,r,rfl⟩:=h;rcases qA.mp m with m|m
  .rw[m,s];simp
  .exact Ay.def r a m
 |.dO ks os,_,L,h,a,m=>by
  obtain⟨b,vs,L',e,s,q,r,rfl⟩:=h;rcases qA.mp m with m|m
  .rw[m,s];simp
  .exact Ay.def r a m
 |.la p ts,_,L,h,a,m=>by obtain⟨vs,e,s,r,rfl⟩:=h;rw[qj.mp m,s];simp
theorem Ay.def:∀{os:List FO}{vs:List V}{L:List Addr},Ay K F H os vs L->∀a∈L,H a≠none
 | [],_,L,h,a,m=>by rw[h.2]at m;cases m
 |o::os,_,L,h,a,m=>by
  obtain⟨v,r,L1,L2,e,h1,h2,rfl⟩:=h;rcases qd.mp m with m|m
  .exact AN.def h1 a m
  .exact Ay.def h2 a m
end
mutual
theorem AN.frz(l:Le F H F' H):∀{o:FO}{v:V}{L:List Addr},(∀a∈L,F' a)->AN K F H o v L->AH K F' H (toT o) v
 |.val t,_,L,k,h=>by exact AH.le l h.2
 |.lst ts,_,L,k,h=>by obtain⟨a,vs,e,s,r,rfl⟩:=h;exact⟨a,vs,e,k a (by simp),s,Ah.le l r⟩
 |.o ks ts,_,L,k,h=>by obtain⟨a,vs,e,s,q,r,rfl⟩:=h;exact⟨a,vs,e,k a (by simp),.inl s,q,Ah.le l r⟩
 |.dT ks ts,_,L,k,h=>by obtain⟨a,vs,e,s,q,r,rfl⟩:=h;exact⟨a,vs,e,k a (by simp),s,q,Ah.le l r⟩
 |.ins C fs os,_,L,k,h=>by obtain⟨a,dx,ag,L',e,s,q,r,rfl⟩:=h;exact⟨a,dx,ag,e,k a (by simp),s,q,Ay.frz l (λb hb=>k b (qf _ hb)) r⟩
 |.yZ os,_,L,k,h=>by obtain⟨a,vs,L',e,s,r,rfl⟩:=h;exact⟨a,vs,e,k a (by simp),s,Ay.frz l (λb hb=>k b (qf _ hb)) r⟩
 |.yY os,_,L,k,h=>by obtain⟨a,vs,L',e,s,r,rfl⟩:=h;exact⟨a,vs,e,⟨rfl,k a (by simp),s⟩,Ay.frz l (λb hb=>k b (qf _ hb)) r⟩
 |.dO ks os,_,L,k,h=>by obtain⟨a,ag,L',e,s,q,r,rfl⟩:=h;exact⟨a,ag,e,k a (by simp),.inl s,q,Ay.frz l (λb hb=>k b (qf _ hb)) r⟩
 |.la p ts,_,L,k,h=>by obtain⟨vs,e,s,r,rfl⟩:=h;exact⟨p,vs,e,k p (by simp),s,Ah.le l r⟩
theorem Ay.frz(l:Le F H F' H):∀{os:List FO}{vs:List V}{L:List Addr},(∀a∈L,F' a)->Ay K F H os vs L->Ah K F' H (Vn os) vs
 | [],_,L,k,h=>by exact h.1
 |o::os,_,L,k,h=>by obtain⟨v,r,L1,L2,e,h1,h2,rfl⟩:=h;exact⟨v,r,e,AN.frz l (λa ha=>k a (qk _ ha)) h1,Ay.frz l (λa ha=>k a (qt _ ha)) h2⟩
end
theorem Ap.len:∀{fs:FS}{σ:St}{L:List Addr},Ap K F H fs σ L->σ.length=fs.length
 | [],_,_,h=>by simp only[Ap]at h;rw[h.1];rfl
 |none::r,_,_,h=>by obtain⟨v,ax,rfl,h⟩:=h;simp[Ap.len h]
 |some (.val t)::r,_,_,h=>by obtain⟨v,ax,rfl,_,h⟩:=h;simp[Ap.len h]
 |some (.own t)::r,_,_,h=>by obtain⟨v,ax,L1,L2,rfl,_,h,_⟩:=h;simp[Ap.len h]
 |some (.bor t)::r,_,_,h=>by obtain⟨v,ax,L1,L2,rfl,_,h,_⟩:=h;simp[Ap.len h]
theorem Ap.le(l:Le F H F' H'):∀{fs:FS}{σ:St}{L:List Addr},(∀a∈L,H' a=H a)->Ap K F H fs σ L->Ap K F' H' fs σ L
 | [],_,_,k,h=>h
 |none::r,_,_,k,h=>by obtain⟨v,ax,e,h⟩:=h;exact⟨v,ax,e,Ap.le l k h⟩
 |some (.val t)::r,_,_,k,h=>by obtain⟨v,ax,e,q,h⟩:=h;exact⟨v,ax,e,q.le l,Ap.le l k h⟩
 |some (.own t)::r,_,_,k,h=>by obtain⟨v,ax,L1,L2,e,q,h,rfl⟩:=h;exact⟨v,ax,L1,L2,e,q.le l λa ha=>k a (qk _ ha),Ap.le l (λa ha=>k a (qt _ ha)) h,rfl⟩
 |some (.bor t)::r,_,_,k,h=>by obtain⟨v,ax,L1,L2,e,q,h,rfl⟩:=h;exact⟨v,ax,L1,L2,e,q.le l λa ha=>k a (qk _ ha),Ap.le l (λa ha=>k a (qt _ ha)) h,rfl⟩
theorem Ap.def:∀{fs:FS}{σ:St}{L:List Addr},Ap K F H fs σ L->∀a∈L,H a≠none
 | [],_,_,h,a,m=>by simp only[Ap]at h;rw[h.2]at m;cases m
 |none::r,_,_,h,a,m=>by obtain⟨v,ax,e,h⟩:=h;exact Ap.def h a m
 |some (.val t)::r,_,_,h,a,m=>by obtain⟨v,ax,e,q,h⟩:=h;exact Ap.def h a m
 |some (.own t)::r,_,_,h,a,m=>by
  obtain⟨v,ax,L1,L2,e,q,h,rfl⟩:=h;rcases qd.mp m with m|m
  .exact q.def a m
  .exact Ap.def h a m
 |some (.bor t)::r,_,_,h,a,m=>by
  obtain⟨v,ax,L1,L2,e,q,h,rfl⟩:=h;rcases qd.mp m with m|m
  .exact q.def a m
  .exact Ap.def h a m
def Od(K:Fg)(F:Wd)(H:Hp):Option Sl->Option V->List Addr->Prop
 |none,_,L=>L=[]
 |some (.val t),v,L=>∃u,v=some u/\AH K F H t u/\L=[]
 |some (.own o),v,L=>∃u,v=some u/\AN K F H o u L
 |some (.bor o),v,L=>∃u,v=some u/\AN K F H o u L
theorem Ap.cons(h1:Od K F H s v L1)(h2:Ap K F H r σ L2):Ap K F H (s::r) (v::σ) (L1++L2):=by cases s with|none =>subst h1;exact⟨v,σ,rfl,h2⟩|some s =>cases s with|val t =>obtain⟨u,rfl,q,rfl⟩:=h1;exact⟨u,σ,rfl,q,h2⟩|own o =>obtain⟨u,rfl,q⟩:=h1;exact⟨u,σ,L1,L2,rfl,q,h2,rfl⟩|bor o =>obtain⟨u,rfl,q⟩:=h1;exact⟨u,σ,L1,L2,rfl,q,h2,rfl⟩
theorem Ap.Ep(h:Ap K F H (s::r) σ L):∃v ax L1 L2,σ=v::ax/\Od K F H s v L1/\Ap K F H r ax L2/\L=L1++L2:=by cases s with|none =>obtain⟨v,ax,rfl,h⟩:=h;exact⟨v,ax,[],L,rfl,rfl,h,rfl⟩|some s =>cases s with|val t =>obtain⟨v,ax,rfl,q,h⟩:=h;exact⟨some v,ax,[],L,rfl,⟨v,rfl,q,rfl⟩,h,rfl⟩|own o =>obtain⟨v,ax,L1,L2,rfl,q,h,rfl⟩:=h;exact⟨some v,ax,L1,L2,rfl,⟨v,rfl,q⟩,h,rfl⟩|bor o =>obtain⟨v,ax,L1,L2,rfl,q,h,rfl⟩:=h;exact⟨some v,ax,L1,L2,rfl,⟨v,rfl,q⟩,h,rfl⟩
theorem Ap.pick:∀{fs:FS}{σ:St}{L:List Addr}{i:Nat}{s:Option Sl},Ap K F H fs σ L->fs[i]?=some s->∃v L1 L2 L3,σ[i]?=some v/\L=L1++(L2++L3)/\Od K F H s v L2 /\
  ∀(F':Wd)(H':Hp)(s':Option Sl)(v':Option V)(gX:List Addr),Le F H F' H'->(∀a∈L1++L3,H' a=H a)->Od K F' H' s' v' gX->Ap K F' H' (fs.set i s') (σ.set i v') (L1++(gX++L3))
 | [],_,_,_,_,_,e=>by simp at e
 |s::r,_,_,0,_,h,e=>by obtain⟨v,ax,L1,L2,rfl,h1,h2,rfl⟩:=h.Ep;simp at e;subst e;refine⟨v,[],L1,L2,rfl,rfl,h1,λF' H' s' v' gX l k q=>?_⟩;have h3:=Ap.cons q (h2.le l λa ha=>k a (by simpa using ha));exact h3
 |s::r,_,_,i+1,_,h,e=>by
  obtain⟨v,ax,L1,L2,rfl,h1,h2,rfl⟩:=h.Ep;obtain⟨w,M1,M2,M3,e1,rfl,h3,h4⟩:=Ap.pick h2 (by simpa using e);refine⟨w,L1++M1,M2,M3,by simpa using e1,by simp,h3,λF' H' s' v' gX l k q=>?_⟩;have h6:Od K F' H' s v L1:=by cases s with|none=>exact h1|some s =>cases s with|val t =>obtain⟨u,e,q,z⟩:=h1;exact⟨u,e,q.le l,z⟩|own o =>obtain⟨u,e,q⟩:=h1;exact⟨u,e,q.le l λa ha=>k a (by simp[ha])⟩|bor o =>obtain⟨u,e,q⟩:=h1;exact⟨u,e,q.le l λa ha=>k a (by simp[ha])⟩
  have h7:=Ap.cons h6 (h4 F' H' s' v' gX l (λa ha=>k a (by simp at ha ⊢;rcases ha with ha|ha;exact .inr (.inl ha);exact .inr (.inr ha))) q);simpa using h7
mutual
theorem AH.wp:∀{t:T}{v:V},AH K F H t v->AH K ⟨F.f,p⟩ H t v
 |.l,_,h=>h
 |.v _,_,h=>h
 |.int _,_,h=>h
 |.str _,_,h=>h
 |.tup ts,_,h=>by obtain⟨a,vs,e,s,r⟩:=h;exact⟨a,vs,e,s,Ah.wp r⟩
 |.lst ts,_,h=>by obtain⟨a,vs,e,f,s,r⟩:=h;exact⟨a,vs,e,f,s,Ah.wp r⟩
 |.z0 ts,_,h=>by obtain⟨a,vs,e,s,r⟩:=h;exact⟨a,vs,e,s,Ah.wp r⟩
 |.o ks ts,_,h=>by obtain⟨a,ag,e,f,s,k,r⟩:=h;exact⟨a,ag,e,f,s,k,Ah.wp r⟩
 |.dT ks ts,_,h=>by obtain⟨a,ag,e,f,s,k,r⟩:=h;exact⟨a,ag,e,f,s,k,Ah.wp r⟩
 |.ins C fs ts,_,h=>by obtain⟨a,dx,ag,e,f,s,k,r⟩:=h;exact⟨a,dx,ag,e,f,s,k,Ah.wp r⟩
 |.dF ks ts,_,h=>by obtain⟨a,ag,e,f,s,k,r⟩:=h;exact⟨a,ag,e,f,s,k,Ah.wp r⟩
 |.zI c,_,h=>by obtain⟨a,C,e,f,s,k⟩:=h;exact⟨a,C,e,f,s,k⟩
theorem Ah.wp:∀{ts:List T}{vs:List V},Ah K F H ts vs->Ah K ⟨F.f,p⟩ H ts vs
 | [],_,h=>h
 |t::ts,_,h=>by obtain⟨v,r,e,h1,h2⟩:=h;exact⟨v,r,e,AH.wp h1,Ah.wp h2⟩
end
mutual
theorem AN.wp:∀{o:FO}{v:V}{L:List Addr},AN K F H o v L->AN K ⟨F.f,p⟩ H o v L
 |.val t,_,L,h=>by exact⟨h.1,h.2.wp⟩
 |.lst ts,_,L,h=>by obtain⟨a,vs,e,s,r,q⟩:=h;exact⟨a,vs,e,s,r.wp,q⟩
 |.o ks ts,_,L,h=>by obtain⟨a,vs,e,s,q,r,z⟩:=h;exact⟨a,vs,e,s,q,r.wp,z⟩
 |.dT ks ts,_,L,h=>by obtain⟨a,vs,e,s,q,r,z⟩:=h;exact⟨a,vs,e,s,q,r.wp,z⟩
 |.ins C fs os,_,L,h=>by obtain⟨a,dx,ag,L',e,s,q,r,z⟩:=h;exact⟨a,dx,ag,L',e,s,q,Ay.wp r,z⟩
 |.yZ os,_,L,h=>by obtain⟨a,vs,L',e,s,r,z⟩:=h;exact⟨a,vs,L',e,s,Ay.wp r,z⟩
 |.yY os,_,L,h=>by obtain⟨a,vs,L',e,s,r,z⟩:=h;exact⟨a,vs,L',e,s,Ay.wp r,z⟩
 |.dO ks os,_,L,h=>by obtain⟨a,vs,L',e,s,q,r,z⟩:=h;exact⟨a,vs,L',e,s,q,Ay.wp r,z⟩
 |.la p ts,_,L,h=>by obtain⟨vs,e,s,r,z⟩:=h;exact⟨vs,e,s,r.wp,z⟩
theorem Ay.wp:∀{os:List FO}{vs:List V}{L:List Addr},Ay K F H os vs L->Ay K ⟨F.f,p⟩ H os vs L
 | [],_,L,h=>h
 |o::os,_,L,h=>by obtain⟨v,r,L1,L2,e,h1,h2,z⟩:=h;exact⟨v,r,L1,L2,e,AN.wp h1,Ay.wp h2,z⟩
end
theorem Ap.wp:∀{fs:FS}{σ:St}{L:List Addr},Ap K F H fs σ L->Ap K ⟨F.f,p⟩ H fs σ L
 | [],_,_,h=>h
 |none::r,_,_,h=>by obtain⟨v,ax,e,h⟩:=h;exact⟨v,ax,e,Ap.wp h⟩
 |some (.val t)::r,_,_,h=>by obtain⟨v,ax,e,q,h⟩:=h;exact⟨v,ax,e,q.wp,Ap.wp h⟩
 |some (.own t)::r,_,_,h=>by obtain⟨v,ax,L1,L2,e,q,h,z⟩:=h;exact⟨v,ax,L1,L2,e,q.wp,Ap.wp h,z⟩
 |some (.bor t)::r,_,_,h=>by obtain⟨v,ax,L1,L2,e,q,h,z⟩:=h;exact⟨v,ax,L1,L2,e,q.wp,Ap.wp h,z⟩
theorem Od.le(l:Le F H F' H')(k:∀a∈L,H' a=H a)(h:Od K F H s v L):Od K F' H' s v L:=by cases s with|none=>exact h|some s =>cases s with|val t =>obtain⟨u,e,q,z⟩:=h;exact⟨u,e,q.le l,z⟩|own o =>obtain⟨u,e,q⟩:=h;exact⟨u,e,q.le l k⟩|bor o =>obtain⟨u,e,q⟩:=h;exact⟨u,e,q.le l k⟩
def Eo(B:Nat->Option V)(fs:FS)(σ:St):Prop:=∀(i:Nat)(o:FO),fs[i]?=some (some (.bor o))->∃v,σ[i]?=some (some v)/\B i=some v
structure Ok(K:Fg)(F:Wd)(B:Nat->Option V)(H:Hp)(fs:FS)(σ:St)(L:List Addr):Prop where
 sl:Ap K F H fs σ L
 nd:L.Nodup
 nf:∀a∈L,¬F a
 fd:∀a,F a->H a≠none
 bo:Eo B fs σ
 pd:∀a,F.p a->H a≠none
 pf:∀a,F a->¬F.p a
 pl:∀a∈L,¬F.p a
def Okk(K:Fg)(F:Wd)(B:Nat->Option V)(H:Hp)(fs:FS)(σ:St):Prop:=∃L,Ok K F B H fs σ L
structure Xp where
 p:Wd->(Nat->Option V)->Hp->Str->FS->Prop
 mono:∀{F:Wd}{B:Nat->Option V}{H:Hp}{c:Str}{fs:FS}{F':Wd}{H':Hp},p F B H c fs->Le F H F' H'->p F' B H' c fs
def Xp.no:Xp:=⟨λ_ _ _ _ _=>False,λh _=>h⟩
def sat(Z:Xp)(B:Nat->Option V){α β:Type}(R:Wd->Hp->FS->α->β->Prop)(F:Wd)(H:Hp)(o:Out α)(Q:β->Hp->Prop):Prop :=
 match o with|.ok a fs=>∀F' H' b,Le F H F' H'->R F' H' fs a b->Q b H'|.exc c fs=>Z.p F B H c fs|.bad=>False
theorem sat.le(h:sat Z B R F H o Q)(l:Le F H F' H'):sat Z B R F' H' o Q:=by
 cases o with
 |ok a fs=>exact λF2 H2 b l2 r=>h F2 H2 b (l.trans l2) r
 |exc c fs=>exact Z.mono h l
 |bad=>exact h
def Out.bind{α β:Type}(o:Out α)(k:α->FS->Out β):Out β:=match o with|.ok a fs=>k a fs|.exc c fs=>.exc c fs|.bad=>.bad
theorem Ar{R2:Wd->Hp->FS->γ->δ->Prop}
  (h:sat Z B R2 F H (o.bind k) Q) (hk:∀a fs F' H' b,Le F H F' H'->R1 F' H' fs a b->sat Z B R2 F' H' (k a fs) Q->Q' b H'):sat Z B R1 F H o Q':=by
 cases o with
 |ok a fs=>exact λF2 H2 b l r=>hk a fs F2 H2 b l r (sat.le h l)
 |exc c fs=>exact h
 |bad=>exact h
def Oe(K:Fg)(F:Wd)(H:Hp)(σ:St):Rv->V->List Addr->Prop
 |.t t,v,L=>L=[]/\AH K F H t v
 |.nw o,v,L=>AN K F H o v L
 |.n i,v,L=>L=[]/\σ[i]?=some (some v)
inductive RR(K:Fg)(B:Nat->Option V)(σ:St)(F:Wd)(H:Hp)(fs:FS)(r:Rv)(u:V):Prop
 |mk (L L':List Addr) (h0:Ok K F B H fs σ L) (h1:Oe K F H σ r u L') (h2:(L++L').Nodup) (h3:∀a∈L',¬F a/\¬F.p a)
def Cr(K:Fg)(F:Wd)(H:Hp)(σ:St):Rv->V->Prop
 |.t t,v=>AH K F H t v
 |.nw _,_=>False
 |.n i,v=>σ[i]?=some (some v)
def Out.bnd{α:Type}(o:Out Rv)(k:Rv->FS->Out α):Out α:=o.bind λr fs=>match r with|.nw _=>.bad|.t t=>k (.t t) fs|.n i=>k (.n i) fs
variable{Z:Xp}{B:Nat->Option V}{σ:St}{fs:FS}{r:Rv}{u:V}
theorem Cr.le(h:Cr K F H σ r u)(l:Le F H F' H'):Cr K F' H' σ r u:=by cases r with|t t=>exact AH.le l h|nw o=>exact h|n i=>exact h
theorem RR.of(h:Okk K F B H fs σ)(q:Cr K F H σ r u):RR K B σ F H fs r u:=by obtain⟨L,h⟩:=h;refine⟨L,[],h,?_,by simpa using h.nd,(λ_ m=>nomatch m)⟩;cases r with|t t=>exact⟨rfl,q⟩|nw o=>exact q.elim|n i=>exact⟨rfl,q⟩
theorem RR.ok(h:RR K B σ F H fs r u):Okk K F B H fs σ:=let⟨L,_,h,_,_,_⟩:=h;⟨L,h⟩
theorem Aq{R2:Wd->Hp->FS->γ->δ->Prop}{o:Out Rv}
  (h:sat Z B R2 F H (o.bnd k) Q) (hk:∀r fs F' H' u,Le F H F' H'->Okk K F' B H' fs σ->Cr K F' H' σ r u->sat Z B R2 F' H' (k r fs) Q->Q' u H'):sat Z B (RR K B σ) F H o Q':=by
 refine Ar h λr fs F' H' u l q s=>?_
 cases r with|t t =>obtain⟨L,L',q1,q2,_⟩:=q;exact hk (.t t) fs F' H' u l ⟨L,q1⟩ q2.2 s|nw o=>exact s.elim|n i =>obtain⟨L,L',q1,q2,_⟩:=q;exact hk (.n i) fs F' H' u l ⟨L,q1⟩ q2.2 s
inductive tF(K:Fg)(Z:Xp)(f:FS->Out Rv)(σ:St)(H:Hp)(Q:VK):Prop
 |mk (F:Wd) (B:Nat->Option V) (fs:FS) (h0:Okk K F B H fs σ) (h1:sat Z B (RR K B σ) F H (f fs) Q)
def RB(K:Fg)(B:Nat->Option V)(σ:St):Wd->Hp->FS->Bool->Bool->Prop:=λF H fs b b'=>Okk K F B H fs σ/\b'=b
inductive tT(K:Fg)(Z:Xp)(f:FS->Out Bool)(σ:St)(H:Hp)(Q:Bool->Hp->Prop):Prop
 |mk (F:Wd) (B:Nat->Option V) (fs:FS) (h0:Okk K F B H fs σ) (h1:sat Z B (RB K B σ) F H (f fs) Q)
def Ho(K:Fg)(F:Wd)(H:Hp)(σ:St):List Rv->List V->Prop
 | [],vs=>vs=[]
 |r::rs,vs=>∃v w,vs=v::w/\Cr K F H σ r v/\Ho K F H σ rs w
def RA(K:Fg)(B:Nat->Option V)(σ:St):Wd->Hp->FS->List Rv->List V->Prop:=λF H fs rs vs=>Okk K F B H fs σ/\Ho K F H σ rs vs
inductive tA(K:Fg)(Z:Xp)(f:FS->Out (List Rv))(σ:St)(H:Hp)(Q:List V->Hp->Prop):Prop
 |mk (F:Wd) (B:Nat->Option V) (fs:FS) (h0:Okk K F B H fs σ) (h1:sat Z B (RA K B σ) F H (f fs) Q)
def FE(X:Cx)(Z:Xp)(e:Expr)(f:FS->Out Rv):Prop:=PE X e (tF X.K Z f)
def FT(X:Cx)(Z:Xp)(e:Expr)(f:FS->Out Bool):Prop:=PT X e (tT X.K Z f)
def FA(X:Cx)(Z:Xp)(es:List Expr)(f:FS->Out (List Rv)):Prop:=PA X es (tA X.K Z f)
theorem AE(h:PE X e t)(i:∀σ H Q,t' σ H Q->t σ H Q):PE X e t':=λaa s σ H Q I q=>h aa s σ H Q I (i _ _ _ q)
theorem J5(h:PT X e t)(i:∀σ H Q,t' σ H Q->t σ H Q):PT X e t':=λaa s σ H Q I q=>h aa s σ H Q I (i _ _ _ q)
theorem Kb(h:PA X e t)(i:∀σ H Q,t' σ H Q->t σ H Q):PA X e t':=λpos aa s σ H Q I q=>h pos aa s σ H Q I (i _ _ _ q)
theorem B8(h:PS X e t)(i:∀D σ H,t' D σ H->t D σ H):PS X e t':=λaa s σ H D I q=>h aa s σ H D I (i _ _ _ q)
theorem Mr(h:PSs X e t)(i:∀D σ H,t' D σ H->t D σ H):PSs X e t':=λaa s σ H D I q=>h aa s σ H D I (i _ _ _ q)
variable{p:Addr}{o:HO}
def LN(F:Wd)(p:Addr):Wd:=⟨λa=>F a\/a=p,F.p⟩
theorem AA(h:Okk K F B H fs σ)(hp:H p=none):Le F H (LN F p) (upd H p o) :=
 let⟨_,h⟩:=h
 ⟨λa f=>⟨.inl f,Aj λe=>h.fd a f (e▸hp)⟩,λa f=>⟨f,Aj λe=>h.pd a f (e▸hp)⟩⟩
theorem AJ(h:Okk K F B H fs σ)(hp:H p=none):Le F H F (upd H p o) :=
 let⟨_,h⟩:=h
 ⟨λa f=>⟨f,Aj λe=>h.fd a f (e▸hp)⟩,λa f=>⟨f,Aj λe=>h.pd a f (e▸hp)⟩⟩
theorem CU(h:H a≠none):upd H p o a≠none:=by
 by_cases e:a=p
 .subst e;rw[Am];simp
 .rwa[Aj e]
theorem Ok.T5(h:Ok K F B H fs σ L)(hp:H p=none):∀a∈L,(upd H p o) a=H a:=λa m=>Aj λe=>h.sl.def a m (e▸hp)
theorem Okk.fd(h:Okk K F B H fs σ):∀a,F a->H a≠none:=let⟨_,h⟩:=h;h.fd
theorem Okk.alloc(h:Okk K F B H fs σ)(hp:H p=none):Okk K (LN F p) B (upd H p o) fs σ:=by
 obtain⟨L,h⟩:=h;refine⟨L,h.sl.le (AA ⟨L,h⟩ hp) (h.T5 hp),h.nd,λa m q=>?_,λa q=>?_,h.bo,λa q=>CU (h.pd a q),λa q z=>?_,h.pl⟩
 rotate_left 2
 .rcases q with q|q
  .exact h.pf a q z
  .exact h.pd a z (q▸hp)
 .rcases q with q|q
  .exact h.nf a m q
  .exact h.sl.def a m (q▸hp)
 .rcases q with q|q
  .exact CU (h.fd a q)
  .rw[q,Am];simp
theorem RR.alloc(h:Okk K F B H fs σ)(hp:H p=none)(q:AN K F (upd H p o) ob (.ref p) [p]):RR K B σ F (upd H p o) fs (.nw ob) (.ref p):=by
 obtain⟨L,h⟩:=h;refine⟨L,[p],⟨h.sl.le (AJ ⟨L,h⟩ hp) (h.T5 hp),h.nd,h.nf,λa q=>CU (h.fd a q),h.bo,λa q=>CU (h.pd a q),h.pf,h.pl⟩,q,?_,λa m=>?_⟩
 .rw[qc];exact⟨h.nd,by simp,λa ma b mb e=>h.sl.def a ma (by rwa[e,qj.mp mb])⟩
 .rw[qj.mp m];exact⟨λf=>h.fd p f hp,λf=>h.pd p f hp⟩
def Sl.put:Sl->FO->Sl
 |.own _,o=>.own o
 |.bor _,o=>.bor o
 |.val t,_=>.val t
def AF(fs:FS)(i:Nat):Option FO:=match fs[i]? with|some (some (.own o))=>some o|some (some (.bor o))=>some o|_=>none
def putAt(fs:FS)(i:Nat)(o:FO):FS:=match fs[i]? with|some (some s)=>fs.set i (some (s.put o))|_=>fs
variable{i:Nat}{ob:FO}
theorem Eo.put(h:Eo B fs σ)(hs:∀o,s=some (.bor o)->∃u,v=some u/\B i=some u)(hl:σ.length=fs.length):Eo B (fs.set i s) (σ.set i v):=by
 intro j o e;by_cases hj:i=j
 .subst hj;have hi:=by have:=(ql.mp e).1;simpa using this
  rw[q0 hi]at e;obtain⟨u,e1,e2⟩:=hs o (by simpa using e);exact⟨u,by rw[q0 (by lia),e1],e2⟩
 .rw[rh hj]at e;obtain⟨v,e1,e2⟩:=h j o e;exact⟨v,by rw[rh hj];exact e1,e2⟩
theorem AZ{l:List α}(h:l[i]?=some x):l.set i x=l:=by
 apply List.ext_getElem?;intro j;by_cases hj:i=j
 .subst hj;rw[q0 (ql.mp h).1,h]
 .rw[rh hj]
theorem BB{L1 L2 L3 M:List Addr}(h:(L1++(L2++L3)).Nodup)(hm:M.Nodup)(d:∀a∈M,a∉L1++L3):(L1++(M++L3)).Nodup:=by
 rw[qc]at h ⊢;obtain⟨h1,h2,h3⟩:=h;rw[qc]at h2;obtain⟨h4,h5,h6⟩:=h2;refine⟨h1,?_,λa ha b hb e=>?_⟩
 .rw[qc];exact⟨hm,h5,λa ha b hb e=>d a ha (by rw[e];exact qt _ hb)⟩
 .rcases qd.mp hb with hb|hb
  .exact d b hb (by rw[<- e];exact qk _ ha)
  .exact h3 a ha b (qt _ hb) e
meta theorem Okk.own(h:Okk K F B H fs σ)(e:AF fs i=some ob):∃v L2,σ[i]?=some (some v)/\AN K F H ob v L2/\(∀a∈L2,¬F a/\¬F.p a)/\L2.Nodup /\
  ∀bG H',(∀a,a∉L2->H a≠none->H' a=H a)->AN K F H' bG v L2->Okk K F B H' (putAt fs i bG) σ/\Le F H F H':=by
 obtain⟨L,h⟩:=h;have key:∀s:Sl,fs[i]?=some (some s)->(s=.own ob\/s=.bor ob)->∃v L2,σ[i]?=some (some v)/\AN K F H ob v L2/\(∀a∈L2,¬F a/\¬F.p a)/\L2.Nodup /\
  ∀bG H',(∀a,a∉L2->H a≠none->H' a=H a)->AN K F H' bG v L2->Okk K F B H' (fs.set i (some (s.put bG))) σ/\Le F H F H':=by
  intro s es ho;obtain⟨v,L1,L2,L3,e1,rfl,h1,h2⟩:=h.sl.pick es;obtain⟨u,rfl,q⟩:∃u,v=some u/\AN K F H ob u L2:=by
   rcases ho with rfl|rfl
   .exact h1
   .exact h1
  have nd:=h.nd;have dW:∀a∈L1++L3,a∉L2:=λa ha hb=>by
   rw[qc]at nd;rcases qd.mp ha with ha|ha
   .exact nd.2.2 a ha a (qk _ hb) rfl
   .have:=(qc.mp nd.2.1).2.2;exact this a hb a ha rfl
  refine⟨u,L2,e1,q,λa m=>⟨h.nf a (by simp[m]),h.pl a (by simp[m])⟩,?_,λbG H' k q'=>?_⟩
  .rw[qc]at nd;exact(qc.mp nd.2.1).1
  .have l:Le F H F H':=⟨λa f=>⟨f,k a (λm=>h.nf a (by simp[m]) f) (h.fd a f)⟩,λa f=>⟨f,k a (λm=>h.pl a (by simp[m]) f) (h.pd a f)⟩⟩
   refine⟨⟨L1++(L2++L3),?_,nd,h.nf,λa f=>by rw[(l.f a f).2];exact h.fd a f,?_,λa f=>by rw[(l.p a f).2];exact h.pd a f,h.pf,h.pl⟩,l⟩
   .have hL:∀a∈L1++L3,H' a=H a:=λa m=>k a (dW a m) (h.sl.def a (by
      rcases qd.mp m with m|m
      .simp[m]
      .simp[m]))
    have h3:=h2 F H' (some (s.put bG)) (some u) L2 l hL (by
     rcases ho with rfl|rfl
     .exact⟨u,rfl,q'⟩
     .exact⟨u,rfl,q'⟩)
    rwa[AZ e1]at h3
   .have:=Eo.put (s:=some (s.put bG)) h.bo (λo eo=>by
     rcases ho with rfl|rfl
     .cases eo
     .obtain⟨w,e3,e4⟩:=h.bo i ob es;rw[e1]at e3;have e5:u=w:=by simpa using e3
      exact⟨u,rfl,by rwa[e5]⟩) h.sl.len
    rwa[AZ e1]at this
 unfold AF at e;split at e
 next o es=>cases e;obtain⟨v,L2,a1,a2,a3,a4,a5⟩:=key _ es (.inl rfl);refine⟨v,L2,a1,a2,a3,a4,λbG H' k q=>?_⟩;have:=a5 bG H' k q;unfold putAt;rwa[es]
 next o es=>cases e;obtain⟨v,L2,a1,a2,a3,a4,a5⟩:=key _ es (.inr rfl);refine⟨v,L2,a1,a2,a3,a4,λbG H' k q=>?_⟩;have:=a5 bG H' k q;unfold putAt;rwa[es]
 .cases e
def Aa(i:Nat):FS->Out Rv:=λfs=>match fs[i]? with|some (some (.val t))=>.ok (.t t) fs|some (some (.own _))=>.ok (.n i) fs|some (some (.bor _))=>.ok (.n i) fs|_=>.bad
def gc(t:T):FS->Out Rv:=λfs=>.ok (.t t) fs
variable{X:Cx}{e:Expr}
meta theorem fe_v(i:Nat)(hN:X.N[i]?=some x:=by rfl)(hv:Vis X.env.scope x:=by first|exact Or.inl rfl|exact Or.inr (Or.inl rfl)|exact Or.inr (Or.inr rfl))(hd:(x==("__debug__":Str))=false:=by decide)
  (dD:(x==("__classdict__":Str))=false:=by decide):FE X Z (.Name x pos) (Aa i):=by
 refine AE (pv i hN hv hd dD) λσ H Q h=>?_
 obtain⟨F,B,fs,ok,s⟩:=h;obtain⟨L,o⟩:=id ok;unfold Aa at s;split at s
 next t es=>obtain⟨v,L1,L2,L3,e1,_,h1,_⟩:=o.sl.pick es;obtain⟨u,rfl,q,_⟩:=h1;exact⟨u,e1,s F H u Le.refl (RR.of ok q)⟩
 next t es=>obtain⟨v,L1,L2,L3,e1,_,h1,_⟩:=o.sl.pick es;obtain⟨u,rfl,q⟩:=h1;exact⟨u,e1,s F H u Le.refl (RR.of ok e1)⟩
 next t es=>obtain⟨v,L1,L2,L3,e1,_,h1,_⟩:=o.sl.pick es;obtain⟨u,rfl,q⟩:=h1;exact⟨u,e1,s F H u Le.refl (RR.of ok e1)⟩
 .exact s.elim
theorem Vq(t:T)(h:PE X e (tC v))(r:∀K F H,AH K F H t v):FE X Z e (gc t) :=
 AE h λσ H Q ⟨F,B,fs,ok,s⟩=>s F H v Le.refl (RR.of ok (r _ _ _))
theorem Yt:FE X Z (.Constant (.int i) j pos) (gc (.int i)):=Vq _ WO λ_ _ _=>rfl
theorem JbE:FE X Z (.Constant (.bool b) j pos) (gc (.v b)):=Vq _ JaO λ_ _ _=>rfl
theorem Yh:FE X Z (.Constant .none j pos) (gc .l):=Vq _ WK λ_ _ _=>rfl
theorem Yd:FE X Z (.Constant (.str x) j pos) (gc (.str x)):=Vq _ WI λ_ _ _=>rfl
theorem Yu(h:∃t,X.mg x=some (.int i t))(hg:Gl X x:=by rfl)(hd:(x==("__debug__":Str))=false:=by decide):FE X Z (.Name x pos) (gc (.int i)):=Vq _ (JaN h hg hd) λ_ _ _=>rfl
theorem JbB(h:∃t,X.mg x=some (.str z t))(hg:Gl X x:=by rfl)(hd:(x==("__debug__":Str))=false:=by decide):FE X Z (.Name x pos) (gc (.str z)):=Vq _ (JaM h hg hd) λ_ _ _=>rfl
def fz(f:FS->Out Rv):FS->Out Rv:=λfs=>(f fs).bind λr fs=>match r with|.t t=>.ok (.t t) fs|.nw o=>.ok (.t (toT o)) fs|.n i=>match fs[i]? with|some (some (.own o))=>.ok (.t (toT o)) (fs.set i (some (.val (toT o))))|_=>.bad
variable{f:FS->Out Rv}
def Hm(F:Wd)(L:List Addr):Wd:=⟨λa=>F a\/a∈L,F.p⟩
theorem orF:Le F H (Hm F L) H:=⟨λ_ f=>⟨.inl f,rfl⟩,λ_ f=>⟨f,rfl⟩⟩
theorem JbC(h:FE X Z e f):FE X Z e (fz f):=by
 refine AE h λσ H Q ao => ?_
 obtain⟨F,B,fs,ok,s⟩:= ao;refine⟨F,B,fs,ok,?_⟩;refine Ar s λr fs F' H' u l q s=>?_
 cases r with
 |t t=>exact s F' H' u Le.refl q
 |nw o =>
  obtain⟨L,L',o1,q,nd,nf⟩:=q;refine s (Hm F' L') H' u orF (RR.of ⟨L,?_⟩ (AN.frz orF (λa m=>.inr m) q));refine⟨o1.sl.le orF λ_ _=>rfl,o1.nd,λa m z=>?_,λa z=>?_,o1.bo,o1.pd,λa z=>?_,o1.pl⟩
  .rcases z with z|z
   .exact o1.nf a m z
   .exact(qc.mp nd).2.2 a m a z rfl
  .rcases z with z|z
   .exact o1.fd a z
   .exact AN.def q a z
  .rcases z with z|z
   .exact o1.pf a z
   .exact(nf a z).2
 |n i =>
  dsimp only at s;split at s
  .rename_i o es;obtain⟨L,L',o1,⟨_,q⟩,nd,nf⟩:=q;obtain⟨v,L1,L2,L3,e1,rfl,h1,h2⟩:=o1.sl.pick es;obtain⟨w,rfl,q2⟩:=h1;rw[e1]at q;have eu:w=u:=by simpa using q
   subst eu;have l2:Le F' H' (Hm F' L2) H':=orF;have r2:=AN.frz orF (λa m=>.inr m) q2;refine s (Hm F' L2) H' w l2 (RR.of ⟨L1++([]++L3),?_⟩ r2);have h3:=h2 (Hm F' L2) H' (some (.val (toT o))) (some w) [] l2 (λ_ _=>rfl) ⟨w,rfl,r2,rfl⟩;rw[AZ e1]at h3;have bh:=o1.nd;refine⟨h3,BB bh qM (λ_ m=>nomatch m),λa m z=>?_,λa z=>?_,?_,o1.pd,λa z=>?_,λa m=>o1.pl a ?_⟩
   .have m':=by simpa using m
    rcases z with z|z
    .exact o1.nf a (by rcases m' with m|m<;>simp[m]) z
    .rw[qc]at bh;rcases m' with m|m
     .exact bh.2.2 a m a (qk _ z) rfl
     .exact(qc.mp bh.2.1).2.2 a z a m rfl
   .rcases z with z|z
    .exact o1.fd a z
    .exact AN.def q2 a z
   .have:=Eo.put (i:=i) (s:=some (.val (toT o))) (v:=some w) o1.bo (λo eo=>by cases eo) o1.sl.len;rwa[AZ e1]at this
   .rcases z with z|z
    .exact o1.pf a z
    .exact o1.pl a (by simp[z])
   .have m':=by simpa using m
    rcases m' with m|m<;>simp[m]
  .exact s.elim
def big:Nat:=1000000
theorem CO:big<=sizeLine:=by rw[sizeLine_eq];decide
theorem Fz:big<sizeLine:=by rw[sizeLine_eq];decide
def Du(fs:FS):Rv->Option (List T)
 |.t (.lst ts)=>some ts
 |.t (.z0 ts)=>some ts
 |.n i=>match AF fs i with|some (.lst ts)=>some ts|_=>none
 |_=>none
def SE:Rv->Option (List T)
 |.t (.tup ts)=>some ts
 |_=>none
variable{x:Rv}{ts:List T}
meta theorem Br(h:Okk K F B H fs σ)(r:Cr K F H σ x u)(e:Du fs x=some ts):∃a vs,u=.ref a/\SqL K H a vs/\Ah K F H ts vs:=by
 unfold Du at e;split at e
 .cases e;obtain⟨a,vs,e,f,s,q⟩:=r;exact⟨a,vs,e,SqL.of s,q⟩
 .cases e;obtain⟨a,vs,e,s,q⟩:=r;exact⟨a,vs,e,s.sq,q⟩
 .rename_i i;split at e
  .rename_i fL eo;cases e;obtain⟨v,L2,e1,q,_⟩:=h.own eo;have e2:σ[i]?=some (some u):=r;rw[e1]at e2;have e3:v=u:=by simpa using e2
   subst e3;obtain⟨a,vs,e,s,q,_⟩:=q;exact⟨a,vs,e,SqL.of s,q⟩
  .cases e
 .cases e
theorem BP(r:Cr K F H σ x u)(e:SE x=some ts):∃a vs,u=.ref a/\SqT K H a vs/\Ah K F H ts vs:=by
 unfold SE at e;split at e
 .cases e;obtain⟨a,vs,e,s,q⟩:=r;exact⟨a,vs,e,s.sq,q⟩
 .cases e
theorem Oc{i:Int}(r:Ah K F H ts vs)(e:atI ts i=some t):∃v,atI vs i=some v/\AH K F H t v:=by unfold atI at e ⊢;rw[r.len];cases q:ixN ts.length i with|none=>rw[q]at e;cases e|some j =>rw[q]at e;exact r.at e
theorem Ah.ints:∀{ns:List Int}{vs:List V},Ah K F H (ns.map T.int) vs->vs=ns.map V.int
 | [],_,h=>by simpa[Ah]using h
 |n::ns,_,h=>by obtain⟨v,r,rfl,rfl,h⟩:=h;rw[qi,Ah.ints h]
theorem Ah.bls:∀{ns:List Bool}{vs:List V},Ah K F H (ns.map T.v) vs->vs=ns.map V.v
 | [],_,h=>by simpa[Ah]using h
 |n::ns,_,h=>by obtain⟨v,r,rfl,rfl,h⟩:=h;rw[qi,Ah.bls h]
def Cd:List T->Option (List Int)
 | []=>some []
 |.int i::r=>(Cd r).map (i::·)
 |_=>none
def CQ:List T->Option (List Bool)
 | []=>some []
 |.v i::r=>(CQ r).map (i::·)
 |_=>none
theorem IV:∀{ts:List T}{ns:List Int},Cd ts=some ns->ts=ns.map T.int
 | [],_,e=>by cases e;rfl
 |.int i::r,_,e=>by simp only[Cd,qw]at e;obtain⟨ns,e,rfl⟩:=e;rw[qi,<- IV e]
 |.l::r,_,e=>by simp[Cd]at e
 |.v _::r,_,e=>by simp[Cd]at e
 |.str _::r,_,e=>by simp[Cd]at e
 |.tup _::r,_,e=>by simp[Cd]at e
 |.lst _::r,_,e=>by simp[Cd]at e
 |.z0 _::r,_,e=>by simp[Cd]at e
 |.o _ _::r,_,e=>by simp[Cd]at e
 |.dT _ _::r,_,e=>by simp[Cd]at e
 |.ins _ _ _::r,_,e=>by simp[Cd]at e
 |.dF _ _::r,_,e=>by simp[Cd]at e
theorem EU:∀{ts:List T}{ns:List Bool},CQ ts=some ns->ts=ns.map T.v
 | [],_,e=>by cases e;rfl
 |.v i::r,_,e=>by simp only[CQ,qw]at e;obtain⟨ns,e,rfl⟩:=e;rw[qi,<- EU e]
 |.l::r,_,e=>by simp[CQ]at e
 |.int _::r,_,e=>by simp[CQ]at e
 |.str _::r,_,e=>by simp[CQ]at e
 |.tup _::r,_,e=>by simp[CQ]at e
 |.lst _::r,_,e=>by simp[CQ]at e
 |.z0 _::r,_,e=>by simp[CQ]at e
 |.o _ _::r,_,e=>by simp[CQ]at e
 |.dT _ _::r,_,e=>by simp[CQ]at e
 |.ins _ _ _::r,_,e=>by simp[CQ]at e
 |.dF _ _::r,_,e=>by simp[CQ]at e
def Ae(g:Rv->Rv->FS->Out Rv)(fa fb:FS->Out Rv):FS->Out Rv:=λfs=>(fa fs).bnd λx fs=>(fb fs).bnd λy fs=>g x y fs
def OpF(K:Fg)(Z:Xp)(r:R2)(g:Rv->Rv->FS->Out Rv):Prop:=∀(F:Wd)(B:Nat->Option V)(H:Hp)(σ:St)(fs:FS)(x y:Rv)(u w:V)(Q:VK),Okk K F B H fs σ->Cr K F H σ x u->Cr K F H σ y w ->
 sat Z B (RR K B σ) F H (g x y fs) Q->r u w H Q
def asB(f:FS->Out Rv):FS->Out Bool:=λfs=>(f fs).bind λr fs=>match r with|.t (.v b)=>.ok b fs|_=>.bad
variable{a b c:Expr}{fa fb fc:FS->Out Rv}{r r':R2}{g g':Rv->Rv->FS->Out Rv}{pos:Pos}
theorem ET(hg:OpF K Z r g)(h:tF K Z (Ae g fa fb) σ H Q):tOp r (tF K Z fa) (tF K Z fb) σ H Q:=by obtain⟨F,B,fs,ok,s⟩:=h;exact⟨F,B,fs,ok,Aq s λx af F1 H1 u l az rx s1=>⟨F1,B,af,az,Aq s1 λy ay F2 H2 w l2 aO ry s2=>hg F2 B H2 σ ay x y u w Q aO (rx.le l2) ry s2⟩⟩
meta theorem R6(h:tT K Z (asB f) σ H Q):tF K Z f σ H λx H'=>∃k,x=.v k/\Q k H':=by
 obtain⟨F,B,fs,ok,s⟩:=h;refine⟨F,B,fs,ok,Ar s λr af F1 H1 u l q s1=>?_⟩;split at s1
 next b=>obtain⟨L,L',o1,⟨_,q⟩,_⟩:=q;exact⟨b,q,s1 F1 H1 b Le.refl ⟨⟨L,o1⟩,rfl⟩⟩
 .exact s1.elim
theorem Ir(hg:OpF X.K Z r g)(ho:OpR X (binaryOp op) r)(ha:FE X Z a fa)(hb:FE X Z b fb):FE X Z (.BinOp a op b pos) (Ae g fa fb) :=
 AE (JaI ho ha hb) λ_ _ _ h=>ET hg h
theorem Iu(hg:OpF X.K Z r g)(ho:OpR X (compareOp op) r)(ha:FE X Z a fa)(hb:FE X Z b fb)(hm:behindInMarks op b=false):FE X Z (.Compare a [op] [b] pos) (Ae g fa fb) :=
 AE (Tc ho ha hb hm) λ_ _ _ h=>ET hg h
theorem Dq(hg:OpF X.K Z r g)(ho:OpR X (compareOp op) r)(ha:FE X Z a fa)(hb:FE X Z b fb)(hm:behindInMarks op b=false):FT X Z (.Compare a [op] [b] pos) (asB (Ae g fa fb)) :=
 J5 (SR ho ha hb hm) λ_ _ _ h=>ET hg (R6 h)
theorem Jby(hg:OpF X.K Z r g)(hr:IxR X r)(ha:FE X Z a fa)(hb:FE X Z b fb)(hs:JV b):FE X Z (.Subscript a b pos) (Ae g fa fb) :=
 AE (JaL hr ha hb hs) λ_ _ _ h=>ET hg h
def chain(g g':Rv->Rv->FS->Out Rv)(fa fb fc:FS->Out Rv):FS->Out Rv:=λfs=>(fa fs).bnd λx fs=>(fb fs).bnd λy fs=>(g x y fs).bnd λz fs=>match z with
 |.t (.v true)=>(fc fs).bnd λw fs=>g' y w fs
 |.t (.v false)=>.ok (.t (.v false)) fs
 |_=>.bad
theorem U6(hg:OpF K Z r g)(gv:OpF K Z r' g')(h:tF K Z (chain g g' fa fb fc) σ H Q):Mc r r' (tF K Z fa) (tF K Z fb) (tF K Z fc) σ H Q:=by
 obtain⟨F,B,fs,ok,s⟩:=h;refine⟨F,B,fs,ok,Aq s λx af F1 H1 u l az rx s1=>⟨F1,B,af,az,Aq s1 λy ay F2 H2 w l2 aO ry s2=>hg F2 B H2 σ ay x y u w _ aO (rx.le l2) ry ?_⟩⟩;refine Aq s2 λz bQ F3 H3 v l3 cV rz s3=>?_
 split at s3
 .refine⟨true,rz,?_⟩;exact⟨F3,B,bQ,cV,Aq s3 λw' fO F4 H4 v' l4 gJ cZ s4=>gv F4 B H4 σ fO y w' w v' Q gJ ((ry.le l3).le l4) cZ s4⟩
 .refine⟨false,rz,?_⟩;exact s3 F3 H3 (.v false) Le.refl (RR.of cV rfl)
 .exact s3.elim
theorem Pq{a}{b}(ha:Builtin.Int.intBits a<=2^26)(hb:Builtin.Int.intBits b<=2^26):IntMulOk a b:=by intro h;rw[qE]at h;have h2:=qG (show decide _=true from h.2);have e:bitsLine=134217728:=rfl;omega
def gI(g:Int->Int->FS->Out Rv):Rv->Rv->FS->Out Rv
 |.t (.int i),.t (.int j),fs=>g i j fs
 |_,_,_=>.bad
def okT(t:T)(fs:FS):Out Rv:=.ok (.t t) fs
def Jbj:=gI λi j=>okT (.int (i+j))
def Ik:=gI λi j=>okT (.int (i-j))
def XU:=gI λi j fs=>if(decide (-(2^64)<i/\i<2^64)||decide (-(2^64)<j/\j<2^64)||(decide (Builtin.Int.intBits i<=2^26)&&decide (Builtin.Int.intBits j<=2^26)))=true then okT (.int (i*j)) fs else .bad
def BD:=gI λi j fs=>if 0<j then okT (.int (i%j)) fs else .bad
def C0:=gI λi j fs=>if 0<j/\j<1073741824 then okT (.int (i/j)) fs else .bad
def gLt:=gI λi j=>okT (.v (decide (i<j)))
def gLe:=gI λi j=>okT (.v (decide (i<=j)))
def gGt:=gI λi j=>okT (.v (decide (j<i)))
meta theorem MD{g}{t:Int->Int->T}(hv:∀K F H i j,AH K F H (t i j) (v i j))(hg:∀i j fs,g i j fs=.bad\/(C i j/\g i j fs=okT (t i j) fs)):OpF K Z (rI C v) (gI g):=by
 intro F B H σ fs x y u w Q ok rx ry s;unfold gI at s;split at s
 .rename_i i j;rcases hg i j fs with e|⟨c,e⟩
  .rw[e]at s;exact s.elim
  .rw[e]at s;exact⟨i,j,rx,ry,c,s F H _ Le.refl (RR.of ok (hv _ _ _ _ _))⟩
 .exact s.elim
meta theorem HQ{t:Int->Int->T}(hv:∀K F H i j,AH K F H (t i j) (v i j)):OpF K Z (rI0 v) (gI λi j=>okT (t i j)):=by
 intro F B H σ fs x y u w Q ok rx ry s;unfold gI at s;split at s
 next i j=>exact⟨i,j,rx,ry,s F H _ Le.refl (RR.of ok (hv _ _ _ _ _))⟩
 .exact s.elim
theorem Xf:OpF K Z (rI0 λi j=>.int (i+j)) Jbj:=HQ λ_ _ _ _ _=>rfl
theorem W9:OpF K Z (rI0 λi j=>.int (i-j)) Ik:=HQ λ_ _ _ _ _=>rfl
theorem of_lt:OpF K Z (rI0 λi j=>.v (decide (i<j))) gLt:=HQ λ_ _ _ _ _=>rfl
theorem of_le:OpF K Z (rI0 λi j=>.v (decide (i<=j))) gLe:=HQ λ_ _ _ _ _=>rfl
theorem Xd:OpF K Z (rI0 λi j=>.v (decide (j<i))) gGt:=HQ λ_ _ _ _ _=>rfl
theorem Xc:OpF K Z (rI (λ_ j=>0<j) λi j=>.int (i%j)) BD:=MD (t:=λi j=>.int (i%j)) (λ_ _ _ _ _=>rfl) λi j fs=>by
 by_cases h:0<j
 .exact .inr ⟨h,if_pos h⟩
 .exact .inl (if_neg h)
theorem Xe:OpF K Z (rI Jch λi j=>.int (i/j)) C0:=MD (t:=λi j=>.int (i/j)) (λ_ _ _ _ _=>rfl) λi j fs=>by
 by_cases h:0<j/\j<1073741824
 .exact .inr ⟨h,if_pos h⟩
 .exact .inl (if_neg h)
theorem Xb:OpF K Z (rI IntMulOk λi j=>.int (i*j)) XU:=MD (t:=λi j=>.int (i*j)) (λ_ _ _ _ _=>rfl) λi j fs=>by
 by_cases h:(decide (-(2^64)<i/\i<2^64)||decide (-(2^64)<j/\j<2^64)||(decide (Builtin.Int.intBits i<=2^26)&&decide (Builtin.Int.intBits j<=2^26)))=true
 .refine .inr ⟨?_,if_pos h⟩;rw[sg,sg,qE]at h;rcases h with(h|h)|⟨h1,h2⟩
  .exact Zt.ok (.inl (qG h))
  .exact Zt.ok (.inr (qG h))
  .exact Pq (qG h1) (qG h2)
 .exact .inl (if_neg h)
def plV:T->Option V
 |.l=>some .l
 |.v b=>some (.v b)
 |.int i=>some (.int i)
 |.str x=>some (.str x)
 |_=>none
theorem Bz(e:plV t=some v)(r:AH K F H t u):u=v:=by cases t with|l=>cases e;exact r|v b=>cases e;exact r|int i=>cases e;exact r|str x=>cases e;exact r|tup ts=>cases e|lst ts=>cases e|z0 ts=>cases e|o ks ts=>cases e|dT ks ts=>cases e|ins C fs ts=>cases e|dF ks ts=>cases e|zI c=>cases e
def gEq(neg:Bool):Rv->Rv->FS->Out Rv
 |.t x,.t y,fs=>match plV x,plV y with|some u,some w=>if SG u w=true then okT (.v (if neg then !decide (u=w)else decide (u=w))) fs else .bad|_,_=>.bad
 |_,_,_=>.bad
def S3:List T->Option (List V)
 | []=>some []
 |t::r=>(plV t).bind λv=>(S3 r).map (v::·)
theorem GJ:∀{ts:List T}{us vs:List V},S3 ts=some vs->Ah K F H ts us->us=vs/\vs.all Eh=true
 | [],_,_,e,r=>by cases e;exact⟨r,rfl⟩
 |t::ts,_,_,e,r=>by obtain⟨v,w,rfl,r1,r2⟩:=r;simp only[S3,qQ,qw]at e;obtain⟨v',e1,ws,e2,rfl⟩:=e;obtain⟨rfl,h⟩:=GJ e2 r2;have:=Bz e1 r1;subst this;refine⟨rfl,?_⟩;rw[sZ,h,Bool.and_true];cases t<;>first|(cases e1;rfl)|cases e1
theorem B9(e:plV t=some v):Eh v=true:=by cases t<;>first|(cases e;rfl)|cases e
def gIn(neg:Bool):Rv->Rv->FS->Out Rv
 |.t x,y,fs=>match plV x with
  |some v=>match(match Du fs y with|some ts=>S3 ts|none=>(SE y).bind S3)with|some vs=>okT (.v (if neg then !inV v vs else inV v vs)) fs|none=>.bad
  |none=>.bad
 |_,_,_=>.bad
def Io(neg:Bool):Rv->Rv->FS->Out Rv
 |.t (.str i),.t (.str j),fs=>okT (.v (if neg then !(!(Builtin.Str.occurrences j i 0 j.length 1).isEmpty)else !(Builtin.Str.occurrences j i 0 j.length 1).isEmpty)) fs
 |_,_,_=>.bad
theorem of_eq:OpF K Z rEq (gEq false):=by
 intro F B H σ fs x y u w Q ok rx ry s;unfold gEq at s;split at s
 .split at s
  .rename_i e1 e2;split at s
   next hs=>have h1:=Bz e1 rx;have h2:=Bz e2 ry;subst h1 h2;exact⟨hs,s F H _ Le.refl (RR.of ok rfl)⟩
   .exact s.elim
  .exact s.elim
 .exact s.elim
theorem JaR:OpF K Z rNe (gEq true):=by
 intro F B H σ fs x y u w Q ok rx ry s;unfold gEq at s;split at s
 .split at s
  .rename_i e1 e2;split at s
   next hs=>have h1:=Bz e1 rx;have h2:=Bz e2 ry;subst h1 h2;exact⟨hs,s F H _ Le.refl (RR.of ok rfl)⟩
   .exact s.elim
  .exact s.elim
 .exact s.elim
meta theorem Tw(neg:Bool):OpF K Z (rIn K neg) (gIn neg):=by
 intro F B H σ fs x y u w Q ok rx ry s;unfold gIn at s;split at s
 .split at s
  .rename_i v e1;split at s
   .rename_i vs e2;have h1:=Bz e1 rx;subst h1;split at e2
    next ts e3=>obtain⟨a,us,rfl,hs,q⟩:=Br ok ry e3;obtain⟨rfl,hf⟩:=GJ e2 q;exact⟨a,us,rfl,.inl hs,B9 e1,hf,s F H _ Le.refl (RR.of ok rfl)⟩
    .rw[qQ]at e2;obtain⟨ts,e3,e2⟩:=e2;obtain⟨a,us,rfl,hs,q⟩:=BP ry e3;obtain⟨rfl,hf⟩:=GJ e2 q;exact⟨a,us,rfl,.inr hs,B9 e1,hf,s F H _ Le.refl (RR.of ok rfl)⟩
   .exact s.elim
  .exact s.elim
 .exact s.elim
meta theorem Ke:OpF K Z (λx y H Q=>∃i j,x=.str i/\y=.str j/\Q (.v (!(Builtin.Str.occurrences j i 0 j.length 1).isEmpty)) H) (Io false):=by
 intro F B H σ fs x y u w Q ok rx ry s;unfold Io at s;split at s
 next i j=>exact⟨i,j,rx,ry,s F H _ Le.refl (RR.of ok rfl)⟩
 .exact s.elim
meta theorem Jm:OpF K Z (λx y H Q=>∃i j,x=.str i/\y=.str j/\Q (.v (!(!(Builtin.Str.occurrences j i 0 j.length 1).isEmpty))) H) (Io true):=by
 intro F B H σ fs x y u w Q ok rx ry s;unfold Io at s;split at s
 next i j=>exact⟨i,j,rx,ry,s F H _ Le.refl (RR.of ok rfl)⟩
 .exact s.elim
def gIx:Rv->Rv->FS->Out Rv
 |x,.t (.int i),fs=>match Du fs x with
  |some ts=>match atI ts i with|some t=>okT t fs|none=>.bad
  |none=>match x with
   |.t (.tup ts)=>match atI ts i with|some t=>okT t fs|none=>.bad
   |.t (.str z)=>if z.length<=big then match atI z.cps.toList i with|some c=>okT (.str ⟨#[c]⟩) fs|none=>.bad
    else .bad
   |_=>.bad
 |_,_,_=>.bad
meta theorem JaS:OpF K Z (rIx K) gIx:=by
 intro F B H σ fs x y u w Q ok rx ry s;unfold gIx at s;split at s
 .rename_i i;split at s
  .rename_i ts e;split at s
   next t et=>obtain⟨a,vs,rfl,hs,q⟩:=Br ok rx e;obtain⟨v,ev,rv⟩:=Oc q et;exact .inl ⟨a,vs,i,v,rfl,ry,hs,ev,s F H v Le.refl (RR.of ok rv)⟩
   .exact s.elim
  .split at s
   .rename_i ts _;split at s
    next t et=>obtain⟨a,vs,rfl,hs,q⟩:=BP rx rfl;obtain⟨v,ev,rv⟩:=Oc q et;exact .inr (.inl ⟨a,vs,i,v,rfl,ry,hs,ev,s F H v Le.refl (RR.of ok rv)⟩)
    .exact s.elim
   .rename_i z _;split at s
    .rename_i hz;split at s
     next c ec=>exact .inr (.inr ⟨z,i,c,rx,ry,qF hz CO,ec,s F H _ Le.refl (RR.of ok rfl)⟩)
     .exact s.elim
    .exact s.elim
   .exact s.elim
 .exact s.elim
def Qf:Rv->Rv->FS->Out Rv
 |.t (.str i),.t (.str j),fs=>if i.length+j.length<=big then okT (.str (i++j)) fs else .bad
 |_,_,_=>.bad
def Up:Rv->Rv->FS->Out Rv
 |.t (.str z),.t (.int n),fs=>if z.length=1/\1<=n/\n<=1000 then okT (.str (Txt.mul z n)) fs else .bad
 |_,_,_=>.bad
theorem TM(hz:z.length=1)(h0:1<=n)(h1:n<=1000):MulOk z n:=by
 refine⟨?_,λ_ _=>?_,λ_ _=>?_⟩
 .rw[Bool.or_eq_false_iff];exact⟨qK (by omega),qK (by omega)⟩
 .have h:=by omega
  have h2:1<=((2:Int)^63-1)/n:=(Int.le_ediv_iff_mul_le (by omega)).mpr (by omega);omega
 .unfold Builtin.Str.tooLong;refine qK ?_;rw[hz];have h3:(1000:Nat)<=sizeLine:=by rw[sizeLine_eq];decide
  omega
meta theorem TK:OpF K Z (λx y H Q=>∃i j,x=.str i/\y=.str j/\i.length+j.length<=sizeLine/\Q (.str (i++j)) H) Qf:=by
 intro F B H σ fs x y u w Q ok rx ry s;unfold Qf at s;split at s
 .rename_i i j;split at s
  next h=>exact⟨i,j,rx,ry,qF h CO,s F H _ Le.refl (RR.of ok rfl)⟩
  .exact s.elim
 .exact s.elim
meta theorem Tv:OpF K Z (λx y H Q=>∃z n,x=.str z/\y=.int n/\MulOk z n/\Q (.str (Txt.mul z n)) H) Up:=by
 intro F B H σ fs x y u w Q ok rx ry s;unfold Up at s;split at s
 .rename_i i j;split at s
  next h=>exact⟨i,j,rx,ry,TM h.1 h.2.1 h.2.2,s F H _ Le.refl (RR.of ok rfl)⟩
  .exact s.elim
 .exact s.elim
def Jag(fs:FS):Rv->Option Bool
 |.t .l=>some false
 |.t (.v b)=>some b
 |.t (.int i)=>some (i !=0)
 |.t (.str x)=>if x.length<=big then some ((x.length:Int)!=0)else none
 |.t (.lst ts)=>some !ts.isEmpty
 |.t (.tup ts)=>some !ts.isEmpty
 |.n i=>match AF fs i with|some (.lst ts)=>some !ts.isEmpty|some (.o ks _)=>some !ks.isEmpty|_=>none
 |_=>none
def K8(f:FS->Out Rv):FS->Out Bool:=λfs=>(f fs).bnd λr fs=>match Jag fs r with|some b=>.ok b fs|none=>.bad
def FQ(f:FS->Out Bool):FS->Out Bool:=λfs=>(f fs).bind λb fs=>.ok (!b) fs
def JU(f g:FS->Out Bool):FS->Out Bool:=λfs=>(f fs).bind λb fs=>if b=true then g fs else .ok false fs
def orT(f g:FS->Out Bool):FS->Out Bool:=λfs=>(f fs).bind λb fs=>if b=true then .ok true fs else g fs
def Vi(f g:FS->Out Rv):FS->Out Rv:=λfs=>(f fs).bnd λr fs=>match r with|.t (.v true)=>g fs|.t (.v false)=>okT (.v false) fs|_=>.bad
def orV(f g:FS->Out Rv):FS->Out Rv:=λfs=>(f fs).bnd λr fs=>match r with|.t (.v false)=>g fs|.t (.v true)=>okT (.v true) fs|_=>.bad
theorem CA{xs:List α}{ys:List β}(h:ys.length=xs.length):(!ys.isEmpty)=!xs.isEmpty:=by cases xs<;>cases ys<;>simp_all
meta theorem Sn{b}(h:Okk K F B H fs σ)(r:Cr K F H σ x u)(e:Jag fs x=some b):JbR K u H b:=by
 unfold Jag at e;split at e
 .cases e;cases r;rfl
 .cases e;cases r;rfl
 .cases e;cases r;rfl
 .split at e
  next hz=>cases e;cases r;exact⟨qF hz CO,rfl⟩
  .cases e
 .cases e;obtain⟨a,vs,rfl,hs,q⟩:=Br h r rfl;exact .inl ⟨vs,hs,(CA q.len).symm⟩
 .cases e;obtain⟨a,vs,rfl,hs,q⟩:=BP r rfl;exact .inr (.inl ⟨vs,hs,(CA q.len).symm⟩)
 .rename_i i;split at e
  next ts eo=>cases e;obtain⟨a,vs,rfl,hs,q⟩:=Br (ts:=ts) h r (by simp[Du,eo]);exact .inl ⟨vs,hs,(CA q.len).symm⟩
  .rename_i ks ts eo;cases e;obtain⟨v,L2,e1,q,_⟩:=h.own eo;have e2:σ[i]?=some (some u):=r;rw[e1]at e2;have e3:v=u:=by simpa using e2
   subst e3;obtain⟨a,ag,rfl,hd,rfl,_⟩:=q;exact .inr (.inr ⟨ag,hd,(CA (by simp))⟩)
  .cases e
 .cases e
variable{ga gb:FS->Out Bool}{rest:List Expr}
meta theorem Qg(ha:FE X Z a fa)(he:∀bq,isTrue a X.env bq=(do let v <- bq;standAt a.pos;holding [v] (truthy v))):FT X Z a (K8 fa):=by
 refine J5 (OX ha he) λσ H Q ao => ?_
 obtain⟨F,B,fs,ok,s⟩:= ao;refine⟨F,B,fs,ok,Aq s λr af F1 H1 u l az rx s1=>?_⟩;split at s1
 next b e=>exact⟨b,Sn az rx e,s1 F1 H1 b Le.refl ⟨az,rfl⟩⟩
 .exact s1.elim
theorem X3(ha:FT X Z a ga):FT X Z (.UnaryOp .Not a pos) (FQ ga):=by
 refine J5 (Wt ha) λσ H Q ao => ?_
 obtain⟨F,B,fs,ok,s⟩:= ao;refine⟨F,B,fs,ok,Ar s λb af F1 H1 b' l q s1=>?_⟩;obtain⟨az,rfl⟩:=q;exact s1 F1 H1 _ Le.refl ⟨az,rfl⟩
def FW(X:Cx)(Z:Xp)(e:Expr)(f:FS->Out Bool):Prop:=PW X e (tT X.K Z f)
theorem FW.ft(h:FW X Z a ga):FT X Z a ga:=PW.pt h
theorem Rb(h:PW X e t)(i:∀σ H Q,t' σ H Q->t σ H Q):PW X e t':=λbq aa s σ H Q I q=>h bq aa s σ H Q I (i _ _ _ q)
theorem Uu(ha:FT X Z a ga):FW X Z (.BoolOp .And [a] pos) ga:=SQ ha
theorem X1(ha:FT X Z a ga):FW X Z (.BoolOp .Or [a] pos) ga:=Wo ha
theorem X2(ha:FT X Z a ga)(hb:FW X Z (.BoolOp .And (b::rest) pos) gb):FW X Z (.BoolOp .And (a::b::rest) pos) (JU ga gb):=by
 refine Rb (Wq ha hb) λσ H Q ao => ?_
 obtain⟨F,B,fs,ok,s⟩:= ao;refine⟨F,B,fs,ok,Ar s λb af F1 H1 b' l q s1=>?_⟩;obtain⟨az,rfl⟩:=q;cases b' with|true =>exact⟨F1,B,af,az,s1⟩|false =>exact s1 F1 H1 _ Le.refl ⟨az,rfl⟩
theorem Jbk(ha:FT X Z a ga)(hb:FW X Z (.BoolOp .Or (b::rest) pos) gb):FW X Z (.BoolOp .Or (a::b::rest) pos) (orT ga gb):=by
 refine Rb (JaD ha hb) λσ H Q ao => ?_
 obtain⟨F,B,fs,ok,s⟩:= ao;refine⟨F,B,fs,ok,Ar s λb af F1 H1 b' l q s1=>?_⟩;obtain⟨az,rfl⟩:=q;cases b' with|true =>exact s1 F1 H1 _ Le.refl ⟨az,rfl⟩|false =>exact⟨F1,B,af,az,s1⟩
theorem Yg(h:FE X Z a fa):FE X Z (.BoolOp op [a] pos) fa:=WJ h
theorem YC(ha:FE X Z a fa)(hb:FE X Z (.BoolOp .And (b::rest) pos) fb):FE X Z (.BoolOp .And (a::b::rest) pos) (Vi fa fb):=by
 refine AE (WT ha hb) λσ H Q ao => ?_
 obtain⟨F,B,fs,ok,s⟩:= ao;refine⟨F,B,fs,ok,Aq s λr af F1 H1 u l az rx s1=>?_⟩;split at s1
 .exact⟨true,rx,by rw[if_pos rfl];exact⟨F1,B,af,az,s1⟩⟩
 .exact⟨false,rx,by rw[if_neg (by decide)];exact s1 F1 H1 _ Le.refl (RR.of az rfl)⟩
 .exact s1.elim
theorem Jbv(ha:FE X Z a fa)(hb:FE X Z (.BoolOp .Or (b::rest) pos) fb):FE X Z (.BoolOp .Or (a::b::rest) pos) (orV fa fb):=by
 refine AE (JaH ha hb) λσ H Q ao => ?_
 obtain⟨F,B,fs,ok,s⟩:= ao;refine⟨F,B,fs,ok,Aq s λr af F1 H1 u l az rx s1=>?_⟩;split at s1
 .exact⟨false,rx,by rw[if_neg (by decide)];exact⟨F1,B,af,az,s1⟩⟩
 .exact⟨true,rx,by rw[if_pos rfl];exact s1 F1 H1 _ Le.refl (RR.of az rfl)⟩
 .exact s1.elim
theorem Qi(hg:OpF X.K Z r g)(gv:OpF X.K Z r' g')(ha:FE X Z a fa)(hb:FE X Z b fb)(hc:FE X Z c fc)
  (h:∀{ta tb tc:TE},PE X a ta->PE X b tb->PE X c tc->PT X (.Compare a [op,op'] [b,c] pos) (Sr (Mc r r' ta tb tc))):FT X Z (.Compare a [op,op'] [b,c] pos) (asB (chain g g' fa fb fc)) :=
 J5 (h ha hb hc) λ_ _ _ q=>U6 hg gv (R6 q)
def Ag:FS->Out (List Rv):=λfs=>.ok [] fs
def Ab(f:FS->Out Rv)(g:FS->Out (List Rv)):FS->Out (List Rv):=λfs=>(f fs).bnd λr fs=>(g fs).bind λrs fs=>.ok (r::rs) fs
def LI:List Rv->Option (List T)
 | []=>some []
 |.t t::r=>(LI r).map (t::·)
 |_=>none
theorem EV:∀{rs:List Rv}{vs:List V}{ts:List T},Ho K F H σ rs vs->LI rs=some ts->Ah K F H ts vs
 | [],_,_,h,e=>by cases e;exact h
 |.t t::r,_,_,h,e=>by simp only[LI,qw]at e;obtain⟨ts,e,rfl⟩:=e;obtain⟨v,w,rfl,h1,h2⟩:=h;exact⟨v,w,rfl,h1,EV h2 e⟩
 |.nw _::r,_,_,h,e=>by simp[LI]at e
 |.n _::r,_,_,h,e=>by simp[LI]at e
def An(g:List T->FS->Out Rv)(f:FS->Out (List Rv)):FS->Out Rv:=λfs=>(f fs).bind λrs fs=>match LI rs with|some ts=>if ts.length<=big then g ts fs else .bad|none=>.bad
def AD(ts:List T)(fs:FS):Out Rv:=.ok (.t (.tup ts)) fs
def Bj(ts:List T)(fs:FS):Out Rv:=.ok (.t (.lst ts)) fs
def DS(ts:List T)(fs:FS):Out Rv:=.ok (.nw (.lst ts)) fs
variable{es:List Expr}{g:FS->Out (List Rv)}
theorem YF:FA X Z [] Ag:=Kb Gm λσ H Q ⟨F,B,fs,ok,s⟩=>s F H [] Le.refl ⟨ok,rfl⟩
theorem UP(ha:FE X Z e f)(hr:FA X Z es g)(hs:starEach (e::es) X.env=(false,eval e X.env)::starEach es X.env:=by rfl):FA X Z (e::es) (Ab f g):=by
 refine Kb (Cy ha hr hs) λσ H Q ao => ?_
 obtain⟨F,B,fs,ok,s⟩:= ao;refine⟨F,B,fs,ok,Aq s λr af F1 H1 u l az rx s1=>⟨F1,B,af,az,Ar s1 λrs ay F2 H2 us l2 q s2=>?_⟩⟩;exact s2 F2 H2 (u::us) Le.refl ⟨q.1,u,us,rfl,rx.le l2,q.2⟩
meta theorem Ya(h:FA X Z es g):FE X Z (.Tuple es x1 pos) (An AD g):=by
 refine AE (WH h) λσ H Q ao => ?_
 obtain⟨F,B,fs,ok,s⟩:= ao;refine⟨F,B,fs,ok,Ar s λrs af F1 H1 us l q s1=>?_⟩;obtain⟨az,q⟩:=q;split at s1
 .rename_i ts e;have r:=EV q e;split at s1
  next hl=>refine⟨by rw[r.len];exact qF hl CO,λp hp=>s1 (LN F1 p) (upd H1 p (.tup us)) (.ref p) (AA az hp) (RR.of (az.alloc hp) ?_)⟩;exact⟨p,us,rfl,⟨rfl,.inr rfl,Am⟩,r.le (AA az hp)⟩
  .exact s1.elim
 .exact s1.elim
meta theorem Yo(h:FA X Z es g):FE X Z (.List es pos) (An Bj g):=by
 refine AE (Ri h) λσ H Q ao => ?_
 obtain⟨F,B,fs,ok,s⟩:= ao;refine⟨F,B,fs,ok,Ar s λrs af F1 H1 us l q s1=>?_⟩;obtain⟨az,q⟩:=q;split at s1
 .rename_i ts e;have r:=EV q e;split at s1
  next hl=>refine⟨by rw[r.len];exact qF hl CO,λp hp=>s1 (LN F1 p) (upd H1 p (.lst us)) (.ref p) (AA az hp) (RR.of (az.alloc hp) ?_)⟩;exact⟨p,us,rfl,.inr rfl,Am,r.le (AA az hp)⟩
  .exact s1.elim
 .exact s1.elim
theorem Cw(h:H p=some (.lst us))(r:Ah K F H ts us):AN K F H (.lst ts) (.ref p) [p]:=by exact⟨p,us,rfl,h,r,rfl⟩
meta theorem UI(h:FA X Z es g):FE X Z (.List es pos) (An DS g):=by
 refine AE (Ri h) λσ H Q ao => ?_
 obtain⟨F,B,fs,ok,s⟩:= ao;refine⟨F,B,fs,ok,Ar s λrs af F1 H1 us l q s1=>?_⟩;obtain⟨az,q⟩:=q;split at s1
 .rename_i ts e;have r:=EV q e;split at s1
  next hl=>exact⟨by rw[r.len];exact qF hl CO,λp hp=>s1 F1 (upd H1 p (.lst us)) (.ref p) (AJ az hp) (RR.alloc az hp (Cw Am (r.le (AJ az hp))))⟩
  .exact s1.elim
 .exact s1.elim
def Fi:FS->Out Rv:=λfs=>.ok (.nw (.o [] [])) fs
theorem Qn:FE X Z (.Dict [] [] pos) Fi:=by
 refine AE J9 λσ H Q ⟨F,B,fs,ok,s⟩ p hp=>s F (upd H p (.o [])) (.ref p) (AJ ok hp) (RR.alloc ok hp ?_)
 exact⟨p,[],rfl,Am,rfl,rfl,rfl⟩
def Cs(K:Fg)(Z:Xp)(r:List V->Hp->VK->Prop)(g:List Rv->FS->Out Rv):Prop:=∀(F:Wd)(B:Nat->Option V)(H:Hp)(σ:St)(fs:FS)(rs:List Rv)(vs:List V)(Q:VK),Okk K F B H fs σ->Ho K F H σ rs vs ->
 sat Z B (RR K B σ) F H (g rs fs) Q->r vs H Q
def Ac(g:List Rv->FS->Out Rv)(f:FS->Out (List Rv)):FS->Out Rv:=λfs=>(f fs).bind λrs fs=>g rs fs
variable{fa:FS->Out (List Rv)}{g:List Rv->FS->Out Rv}{r:List V->Hp->VK->Prop}{p:Pos}{x:Str}{Ty:String}
section
variable{id:String}
theorem EN(gv:Cs X.K Z r g)(hc:B6 X (.builtin id) r)(hm:X.mg x=none)(hv:bootBuiltins x=some (.builtin id))(ha:FA X Z (e::es) fa)(hg:Gl X x:=by rfl)(hn:x≠"__name__":=by decide)(aS:(x==("__debug__":Str))=false:=by decide)
  (he:starEach (e::es) X.env=(false,eval e X.env)::starEach es X.env:=by rfl) (aG:(backTo pos (starEach es X.env)).any (·.1)=false:=by rfl):FE X Z (.Call (.Name x p) (e::es) [] pos) (Ac g fa) :=
 AE (GN hc hg hm hv ha hn aS he aG) λσ H Q ⟨F,B,fs,ok,s⟩=>⟨F,B,fs,ok,Ar s λrs af F1 H1 us l q s1=>gv F1 B H1 σ af rs us Q q.1 q.2 s1⟩
theorem DU(gv:Cs X.K Z r g)(hc:B6 X (.type Ty) r)(hm:X.mg x=none)(hv:bootBuiltins x=some (.type Ty))(ha:FA X Z (e::es) fa)(hg:Gl X x:=by rfl)(hn:x≠"__name__":=by decide)(aS:(x==("__debug__":Str))=false:=by decide)
  (he:starEach (e::es) X.env=(false,eval e X.env)::starEach es X.env:=by rfl) (aG:(backTo pos (starEach es X.env)).any (·.1)=false:=by rfl):FE X Z (.Call (.Name x p) (e::es) [] pos) (Ac g fa) :=
 AE (MC hc hg hm hv ha hn aS he aG) λσ H Q ⟨F,B,fs,ok,s⟩=>⟨F,B,fs,ok,Ar s λrs af F1 H1 us l q s1=>gv F1 B H1 σ af rs us Q q.1 q.2 s1⟩
end
def Jbf:List Rv->FS->Out Rv
 | [x],fs=>match Du fs x with|some ts=>okT (.int ts.length) fs|none=>match SE x with|some ts=>okT (.int ts.length) fs|none=>.bad
 |_,_=>.bad
def Nh:List Rv->FS->Out Rv
 | [.t (.str z)],fs=>if z.length<=big then okT (.int z.length) fs else .bad
 |_,_=>.bad
def Fj:List Rv->FS->Out Rv
 | [.t (.int i)],fs=>okT (.int i) fs
 | [.t (.v k)],fs=>okT (.int (if k then 1 else 0)) fs
 |_,_=>.bad
def Zi:List Rv->FS->Out Rv
 | [x],fs=>match(Du fs x).bind Cd with|some ns=>okT (.int ns.sum) fs|none=>.bad
 |_,_=>.bad
def XZ:List Rv->FS->Out Rv
 | [x],fs=>match(Du fs x).bind CQ with|some ns=>okT (.v (ns.all id)) fs|none=>.bad
 |_,_=>.bad
def Uq:List Rv->FS->Out Rv
 | [x],fs=>match Du fs x with|some ts=>.ok (.nw (.lst ts)) fs|none=>match SE x with|some ts=>.ok (.nw (.lst ts)) fs|none=>.bad
 |_,_=>.bad
def AW:List Rv->FS->Out Rv
 | [x],fs=>match Du fs x with|some ts=>okT (.tup ts) fs|none=>match SE x with|some ts=>okT (.tup ts) fs|none=>.bad
 |_,_=>.bad
def Oi:Key->T
 |.inl i=>.int i
 |.inr x=>.str x
def Ng:List Rv->FS->Out Rv
 | [.t (.o ks _)],fs=>.ok (.nw (.lst (ks.map Oi))) fs
 |_,_=>.bad
theorem A3{x}(h:Ho K F H σ [x] vs):∃v,vs=[v]/\Cr K F H σ x v:=by obtain⟨v,w,rfl,h1,h2⟩:=h;have:=h2;subst this;exact⟨v,rfl,h1⟩
theorem YZ:Cs K Z (λxs H Q=>∃p ys,xs=[.ref p]/\(SqL K H p ys\/SqT K H p ys)/\Q (.int ys.length) H) Jbf:=by
 intro F B H σ fs rs vs Q ok q s;unfold Jbf at s;split at s
 .obtain⟨v,rfl,qq⟩:=A3 q;have q:=qq;split at s
  next ts e=>obtain⟨a,us,rfl,hs,r⟩:=Br ok q e;exact⟨a,us,rfl,.inl hs,by rw[r.len];exact s F H _ Le.refl (RR.of ok rfl)⟩
  .split at s
   next ts e=>obtain⟨a,us,rfl,hs,r⟩:=BP q e;exact⟨a,us,rfl,.inr hs,by rw[r.len];exact s F H _ Le.refl (RR.of ok rfl)⟩
   .exact s.elim
 .exact s.elim
meta theorem U8:Cs K Z (λxs H Q=>∃z,xs=[.str z]/\z.length<=sizeLine/\Q (.int z.length) H) Nh:=by
 intro F B H σ fs rs vs Q ok q s;unfold Nh at s;split at s
 .rename_i z;obtain⟨v,rfl,qq⟩:=A3 q;cases qq;split at s
  next hz=>exact⟨z,rfl,qF hz CO,s F H _ Le.refl (RR.of ok rfl)⟩
  .exact s.elim
 .exact s.elim
theorem Va:Cs K Z (λxs H Q=>(∃i,xs=[.int i]/\Q (.int i) H)\/∃k,xs=[.v k]/\Q (.int (if k then 1 else 0)) H) Fj:=by
 intro F B H σ fs rs vs Q ok q s;unfold Fj at s;split at s
 .obtain⟨v,rfl,qq⟩:=A3 q;have q:=qq;cases q;exact .inl ⟨_,rfl,s F H _ Le.refl (RR.of ok rfl)⟩
 .obtain⟨v,rfl,qq⟩:=A3 q;cases qq;exact .inr ⟨_,rfl,s F H _ Le.refl (RR.of ok rfl)⟩
 .exact s.elim
meta theorem YY:Cs K Z (λxs H Q=>∃(l:Addr)(ns:List Int),xs=[.ref l]/\SqL K H l (ns.map V.int)/\Q (.int ns.sum) H) Zi:=by
 intro F B H σ fs rs vs Q ok q s;unfold Zi at s;split at s
 .obtain⟨v,rfl,qq⟩:=A3 q;split at s
  next ns e=>rw[qQ]at e;obtain⟨ts,e1,e2⟩:=e;obtain⟨a,us,rfl,hs,r⟩:=Br ok qq e1;rw[IV e2]at r;rw[Ah.ints r]at hs;exact⟨a,ns,rfl,hs,s F H _ Le.refl (RR.of ok rfl)⟩
  .exact s.elim
 .exact s.elim
meta theorem Y2:Cs K Z (λxs H Q=>∃(l:Addr)(bs:List Bool),xs=[.ref l]/\SqL K H l (bs.map V.v)/\Q (.v (bs.all id)) H) XZ:=by
 intro F B H σ fs rs vs Q ok q s;unfold XZ at s;split at s
 .obtain⟨v,rfl,qq⟩:=A3 q;split at s
  next ns e=>rw[qQ]at e;obtain⟨ts,e1,e2⟩:=e;obtain⟨a,us,rfl,hs,r⟩:=Br ok qq e1;rw[EU e2]at r;rw[Ah.bls r]at hs;exact⟨a,ns,rfl,hs,s F H _ Le.refl (RR.of ok rfl)⟩
  .exact s.elim
 .exact s.elim
theorem U7:Cs K Z (λxs H Q=>∃p ys,xs=[.ref p]/\(SqL K H p ys\/SqT K H p ys)/\∀l,H l=none->Q (.ref l) (upd H l (.lst ys))) Uq:=by
 intro F B H σ fs rs vs Q ok q s;unfold Uq at s;split at s
 .obtain⟨v,rfl,qq⟩:=A3 q;have q:=qq;split at s
  next ts e=>obtain⟨a,us,rfl,hs,r⟩:=Br ok q e;exact⟨a,us,rfl,.inl hs,λp hp=>s F (upd H p (.lst us)) (.ref p) (AJ ok hp) (RR.alloc ok hp (Cw Am (r.le (AJ ok hp))))⟩
  .split at s
   next ts e=>obtain⟨a,us,rfl,hs,r⟩:=BP q e;exact⟨a,us,rfl,.inr hs,λp hp=>s F (upd H p (.lst us)) (.ref p) (AJ ok hp) (RR.alloc ok hp (Cw Am (r.le (AJ ok hp))))⟩
   .exact s.elim
 .exact s.elim
theorem Df{p}(ok:Okk K F B H fs σ)(hp:H p=none)(r:Ah K F H ts us):RR K B σ (LN F p) (upd H p (.tup us)) fs (.t (.tup ts)) (.ref p):=by refine RR.of (ok.alloc hp) ?_;exact⟨p,us,rfl,⟨rfl,.inr rfl,Am⟩,r.le (AA ok hp)⟩
theorem Lc{p}(ok:Okk K F B H fs σ)(hp:H p=none)(r:Ah K F H ts us):RR K B σ (LN F p) (upd H p (.lst us)) fs (.t (.lst ts)) (.ref p):=by refine RR.of (ok.alloc hp) ?_;exact⟨p,us,rfl,.inr rfl,Am,r.le (AA ok hp)⟩
meta theorem QE:Cs K Z (λxs H Q=>∃p ys,xs=[.ref p]/\((SqL K H p ys/\∀l,H l=none->Q (.ref l) (upd H l (.tup ys)))\/(SqT K H p ys/\Q (.ref p) H))) AW:=by
 intro F B H σ fs rs vs Q ok q s;unfold AW at s;split at s
 .rename_i x;obtain⟨v,rfl,qq⟩:=A3 q;have q:=qq;split at s
  next ts e=>obtain⟨a,us,rfl,hs,r⟩:=Br ok q e;exact⟨a,us,rfl,.inl ⟨hs,λp hp=>s _ _ (.ref p) (AA ok hp) (Df ok hp r)⟩⟩
  .split at s
   .rename_i ts e;obtain⟨a,us,rfl,hs,r⟩:=BP q e;have ex:x=.t (.tup ts):=by
     unfold SE at e;split at e
     .cases e;rfl
     .cases e
    rw[ex]at q;exact⟨a,us,rfl,.inr ⟨hs,s F H _ Le.refl (RR.of ok q)⟩⟩
   .exact s.elim
 .exact s.elim
theorem GV:∀ks:List Key,Ah K F H (ks.map Oi) (ks.map kV)
 | []=>by simp[Ah]
 |.inl i::r=>by exact⟨_,_,rfl,rfl,GV r⟩
 |.inr i::r=>by exact⟨_,_,rfl,rfl,GV r⟩
meta theorem QF:Cs K Z (λxs H Q=>∃p ag,xs=[.ref p]/\Rd H p (.o ag)/\∀l,H l=none->Q (.ref l) (upd H l (.lst (ag.map λkv=>kV kv.1)))) Ng:=by
 intro F B H σ fs rs vs Q ok q s;unfold Ng at s;split at s
 .rename_i ks ts;obtain⟨v,rfl,qq⟩:=A3 q;have q:=qq;obtain⟨a,ag,rfl,f,hd,rfl,r⟩:=q;refine⟨a,ag,rfl,hd,λp hp=>s F _ (.ref p) (AJ ok hp) (RR.alloc ok hp (Cw Am ?_))⟩;have e:(ag.map λkv=>kV kv.1)=(ag.map (·.1)).map kV:=by rw[qO];rfl
  rw[e];exact GV _
 .exact s.elim
def MtF(K:Fg)(Z:Xp)(r:V->List V->Hp->VK->Prop)(g:Rv->List Rv->FS->Out Rv):Prop:=∀(F:Wd)(B:Nat->Option V)(H:Hp)(σ:St)(fs:FS)(x:Rv)(rs:List Rv)(u:V)(vs:List V)(Q:VK),Okk K F B H fs σ->Cr K F H σ x u->Ho K F H σ rs vs ->
 sat Z B (RR K B σ) F H (g x rs fs) Q->r u vs H Q
def Cz(g:Rv->List Rv->FS->Out Rv)(fo:FS->Out Rv)(fa:FS->Out (List Rv)):FS->Out Rv:=λfs=>(fo fs).bnd λx fs=>if(Du fs x).isSome=true then(fa fs).bind λrs fs=>g x rs fs else .bad
def Px(g:Rv->List Rv->FS->Out Rv)(fo:FS->Out Rv)(fa:FS->Out (List Rv)):FS->Out Rv:=λfs=>(fo fs).bnd λx fs=>match x with
 |.t (.str _)=>(fa fs).bind λrs fs=>g x rs fs
 |_=>.bad
variable{o:Expr}{fo:FS->Out Rv}{g:Rv->List Rv->FS->Out Rv}{r:V->List V->Hp->VK->Prop}{aD aE:Pos}{name:Str}
section
variable{id:String}
theorem YA(hg:MtF X.K Z r g)(slot:Slot "list" name id)(eO:typeOf (.builtin id)=pure (.type "method_descriptor"))(hm:MtR X id r)(ho:FE X Z o fo)(ha:FA X Z (e::es) fa)
  (cy:attributeBase o name X.env (eval o X.env)=eval o X.env:=by rfl)
  (eC:((backTo aE (starEach (e::es) X.env)).all (λx=>!x.1)&&(backToKw aE (keywordEach [] X.env)).all (λx=>x.1.isSome)
  &&decide ((e::es).length+([]:List Keyword).length+(if([]:List Keyword).isEmpty then 0 else 1)<30))=true:=by rfl)
  (cA:(aD.endLine==aE.line)=true:=by rfl) (hs:starEach (e::es) X.env=(false,eval e X.env)::starEach es X.env:=by rfl) (bH:(backTo aE (starEach es X.env)).any (·.1)=false:=by rfl) :
  FE X Z (.Call (.Attribute o name aD) (e::es) [] aE) (Cz g fo fa):=by
 refine AE (WS PySem.F.plainAttrs_list slot eO hm ho ha cy eC cA hs bH) λσ H Q ao => ?_
 obtain⟨F,B,fs,ok,s⟩:= ao;refine⟨F,B,fs,ok,Aq s λx af F1 H1 u l az rx s1=>?_⟩;split at s1
 next he=>obtain⟨ts,mZ⟩:=sE.mp he;obtain⟨a,vs,rfl,hs,q⟩:=Br az rx mZ;exact⟨.inl ⟨rfl,vs,hs⟩,F1,B,af,az,Ar s1 λrs ay F2 H2 us l2 q2 s2=>hg F2 B H2 σ ay x rs _ us Q q2.1 (rx.le l2) q2.2 s2⟩
 .exact s1.elim
theorem Yz(hg:MtF X.K Z r g)(slot:Slot "str" name id)(eO:typeOf (.builtin id)=pure (.type "method_descriptor"))(hm:MtR X id r)(ho:FE X Z o fo)(ha:FA X Z (e::es) fa)
  (cy:attributeBase o name X.env (eval o X.env)=eval o X.env:=by rfl)
  (eC:((backTo aE (starEach (e::es) X.env)).all (λx=>!x.1)&&(backToKw aE (keywordEach [] X.env)).all (λx=>x.1.isSome)
  &&decide ((e::es).length+([]:List Keyword).length+(if([]:List Keyword).isEmpty then 0 else 1)<30))=true:=by rfl)
  (cA:(aD.endLine==aE.line)=true:=by rfl) (hs:starEach (e::es) X.env=(false,eval e X.env)::starEach es X.env:=by rfl) (bH:(backTo aE (starEach es X.env)).any (·.1)=false:=by rfl) :
  FE X Z (.Call (.Attribute o name aD) (e::es) [] aE) (Px g fo fa):=by
 refine AE (WS PySem.F.plainAttrs_str slot eO hm ho ha cy eC cA hs bH) λσ H Q ao => ?_
 obtain⟨F,B,fs,ok,s⟩:= ao;refine⟨F,B,fs,ok,Aq s λx af F1 H1 u l az rx s1=>?_⟩;split at s1
 .have iR:=rx;cases rx;exact⟨rfl,F1,B,af,az,Ar s1 λrs ay F2 H2 us l2 q2 s2=>hg F2 B H2 σ ay _ rs _ us Q q2.1 (Cr.le iR l2) q2.2 s2⟩
 .exact s1.elim
end
def GZ:Rv->List Rv->FS->Out Rv
 |.n i,[.t t],fs=>match AF fs i with|some (.lst ts)=>if ts.length<big then .ok (.t .l) (putAt fs i (.lst (ts++[t])))else .bad|_=>.bad
 |_,_,_=>.bad
theorem Okk.list(h:Okk K F B H fs σ)(r:σ[i]?=some (some u))(e:AF fs i=some (.lst ts)):∃a vs,u=.ref a/\H a=some (.lst vs)/\Ah K F H ts vs /\
  ∀fL gj,Ah K F H fL gj->Okk K F B (upd H a (.lst gj)) (putAt fs i (.lst fL)) σ/\Le F H F (upd H a (.lst gj)):=by
 obtain⟨v,L2,e1,q,nf,_,k⟩:=h.own e;rw[e1]at r;have e3:v=u:=by simpa using r
 subst e3;obtain⟨a,vs,rfl,hs,q,rfl⟩:=q;refine⟨a,vs,rfl,hs,q,λfL gj q'=>?_⟩;have l:Le F H F (upd H a (.lst gj)):=⟨λb f=>⟨f,Aj λz=>(nf a (by simp)).1 (z▸f)⟩,λb f=>⟨f,Aj λz=>(nf a (by simp)).2 (z▸f)⟩⟩
 exact k _ _ (λb hb _=>Aj (by simpa using hb)) (Cw Am (q'.le l))
meta theorem Xm:MtF K Z Mp GZ:=by
 intro F B H σ fs x rs u vs Q ok rx q s;unfold GZ at s;split at s
 .rename_i i t;obtain⟨v,rfl,qq⟩:=A3 q;split at s
  .rename_i ts e;split at s
   next hl=>obtain⟨a,us,rfl,hs,r,k⟩:=ok.list rx e;obtain⟨cU,l⟩:=k (ts++[t]) (us++[v]) (r.app (Ah.one qq));exact⟨a,us,v,rfl,rfl,hs,by rw[r.len];exact se hl Fz,s F _ _ l (RR.of cU rfl)⟩
   .exact s.elim
  .exact s.elim
 .exact s.elim
def FN:T->Option Key
 |.int i=>some (.inl i)
 |.str x=>some (.inr x)
 |_=>none
def FU:List T->Option (List Key)
 | []=>some []
 |t::r=>(FN t).bind λk=>(FU r).map (k::·)
theorem Ct(e:FN t=some k)(r:AH K F H t u):u=kV k:=by
 unfold FN at e;split at e
 .cases e;exact r
 .cases e;exact r
 .cases e
theorem DN:∀{ts:List T}{us:List V}{ks:List Key},FU ts=some ks->Ah K F H ts us->us=ks.map kV
 | [],_,_,e,r=>by cases e;exact r
 |t::ts,_,_,e,r=>by simp only[FU,qQ,qw]at e;obtain⟨k,e1,ks,e2,rfl⟩:=e;obtain⟨v,w,rfl,r1,r2⟩:=r;rw[qi,DN e2 r2,Ct e1 r1]
def By{κ:Type}[DecidableEq κ]:List κ->List T->κ->Option T
 |k::ks,t::ts,j=>if k=j then some t else By ks ts j
 |_,_,_=>none
def D8{κ:Type}[DecidableEq κ](ks:List κ)(ts:List T)(j:κ)(v:T):List κ×List T :=
 if(ks.any λk=>decide (k=j))=true then(ks,List.zipWith (λk t=>if k=j then v else t) ks ts)else(ks++[j],ts++[v])
section
variable{κ:Type}[DecidableEq κ]
theorem GD:∀{ag:List (κ×V)}{ts:List T}{j:κ},Ah K F H ts (ag.map (·.2))->(By (ag.map (·.1)) ts j=none/\Jc ag j=none)\/∃t v,By (ag.map (·.1)) ts j=some t/\Jc ag j=some v/\AH K F H t v
 | [],ts,j,r=>by have h:=r.len;cases ts with|nil=>exact .inl ⟨rfl,rfl⟩|cons t ts=>simp at h
 |(k,v)::ag,ts,j,r=>by
  cases ts with
  |nil =>have h:=r.len;simp at h
  |cons t ts =>
   obtain⟨v',w,e,r1,r2⟩:=r;cases e;by_cases hk:k=j
   .refine .inr ⟨t,v,?_,DK hk,r1⟩;simp only[qi,By];rw[if_pos hk]
   .have e1:By (((k,v)::ag).map (·.1)) (t::ts) j=By (ag.map (·.1)) ts j:=by simp only[qi,By];rw[if_neg hk]
    rw[e1,DL hk];exact GD r2
theorem LQ(q:AH K F H t w):∀{ag:List (κ×V)}{ts:List T},Ah K F H ts (ag.map (·.2)) ->
  Ah K F H (List.zipWith (λk t'=>if k=j then t else t') (ag.map (·.1)) ts) ((ag.map λkv=>if kv.1=j then(kv.1,w)else kv).map (·.2))
 | [],ts,r=>by have h:=r.len;cases ts with|cons t ts=>simp at h|nil=>exact rfl
 |(k,v)::ag,ts,r=>by
  cases ts with
  |nil =>have h:=r.len;simp at h
  |cons t' ts =>
   obtain⟨v',w',e,r1,r2⟩:=r;cases e;have ih:=LQ q (j:=j) r2;simp only[qi,List.zipWith_cons_cons];by_cases hk:k=j
   .rw[if_pos hk,if_pos hk];exact⟨w,_,rfl,q,ih⟩
   .rw[if_neg hk,if_neg hk];exact⟨v,_,rfl,r1,ih⟩
theorem EI(q:AH K F H t w){ag:List (κ×V)}(r:Ah K F H ts (ag.map (·.2))):
  (putK ag j w).map (·.1)=(D8 (ag.map (·.1)) ts j t).1/\Ah K F H (D8 (ag.map (·.1)) ts j t).2 ((putK ag j w).map (·.2)):=by
 have e:((ag.map (·.1)).any λk=>decide (k=j))=(ag.any λkv=>decide (kv.1=j)):=by rw[List.any_map];rfl
 unfold putK D8;rw[e];by_cases h:(ag.any λkv=>decide (kv.1=j))=true
 .rw[if_pos h,if_pos h];refine⟨?_,LQ q r⟩;rw[qO];refine List.map_congr_left λp hp=>?_
  show(if p.1=j then(p.1,w)else p).1=p.1;split<;>rfl
 .rw[if_neg h,if_neg h];refine⟨by rw[qh];rfl,?_⟩;rw[qh];exact r.app (Ah.one q)
end
def RT(fs:FS):Rv->T->Option (Option T)
 |.t (.o ks ts),y=>(FN y).map λk=>By ks ts k
 |.t (.dF ks ts),y=>(FN y).map λk=>By ks ts k
 |.t (.dT ks ts),.tup y=>(FU y).map λk=>By ks ts k
 |.n i,y=>match AF fs i with
  |some (.o ks ts)=>(FN y).map λk=>By ks ts k
  |some (.dT ks ts)=>match y with
   |.tup y=>(FU y).map λk=>By ks ts k
   |_=>none
  |_=>none
 |_,_=>none
variable{x:Rv}{y:T}{w:V}
meta theorem NN{o}(h:Okk K F B H fs σ)(rx:Cr K F H σ x u)(ry:AH K F H y w)(e:RT fs x y=some o):
  ∃a o',u=.ref a/\Ja H a w o'/\((o=none/\o'=none)\/∃t v,o=some t/\o'=some v/\AH K F H t v):=by
 have key:∀{a:Addr}{ag:List (Key×V)}{ts:List T},Rd H a (.o ag)->Ah K F H ts (ag.map (·.2))->(FN y).map (λk=>By (ag.map (·.1)) ts k)=some o ->
   ∃o',Ja H a w o'/\((o=none/\o'=none)\/∃t v,o=some t/\o'=some v/\AH K F H t v):=by
  intro a ag ts hd r e;rw[qw]at e;obtain⟨k,ek,eo⟩:=e;have:=Ct ek ry;subst this;refine⟨_,.inl ⟨ag,k,hd,rfl,rfl⟩,?_⟩;rcases GD r with⟨h1,h2⟩|⟨t,v,h1,h2,h3⟩
  .exact .inl ⟨eo.symm.trans h1,h2⟩
  .exact .inr ⟨t,v,eo.symm.trans h1,h2,h3⟩
 have Oi:∀{a:Addr}{ag:List (List Key×V)}{ts ys:List T},H a=some (.dT ag)->Ah K F H ts (ag.map (·.2))->y=.tup ys->(FU ys).map (λk=>By (ag.map (·.1)) ts k)=some o ->
   ∃o',Ja H a w o'/\((o=none/\o'=none)\/∃t v,o=some t/\o'=some v/\AH K F H t v):=by
  intro a ag ts ys hd r ey e;rw[qw]at e;obtain⟨k,ek,eo⟩:=e;subst ey;obtain⟨b,vs,rfl,hb,rb⟩:=ry;have:=DN ek rb;subst this;refine⟨_,Ja.t hd hb.2.2,?_⟩;rcases GD r with⟨h1,h2⟩|⟨t,v,h1,h2,h3⟩
  .exact .inl ⟨eo.symm.trans h1,h2⟩
  .exact .inr ⟨t,v,eo.symm.trans h1,h2,h3⟩
 unfold RT at e;split at e
 .simp only[Cr,AH]at rx;obtain⟨a,ag,rfl,f,hd,rfl,r⟩:=rx;obtain⟨o',h1,h2⟩:=key hd r e;exact⟨a,o',rfl,h1,h2⟩
 .simp only[Cr,AH]at rx;obtain⟨a,ag,rfl,f,⟨ob,hd⟩,rfl,r⟩:=rx;obtain⟨o',h1,h2⟩:=key (.inr ⟨ob,hd⟩) r e;exact⟨a,o',rfl,h1,h2⟩
 .simp only[Cr,AH]at rx;obtain⟨a,ag,rfl,f,hd,rfl,r⟩:=rx;obtain⟨o',h1,h2⟩:=Oi hd r rfl e;exact⟨a,o',rfl,h1,h2⟩
 .rename_i y' i;have e2:σ[i]?=some (some u):=rx;split at e
  .rename_i eo;obtain⟨v,L2,e1,q,_⟩:=h.own eo;rw[e1]at e2;have e3:v=u:=by simpa using e2
   subst e3;obtain⟨a,ag,rfl,hd,rfl,r,_⟩:=q;obtain⟨o',h1,h2⟩:=key (.inl hd) r e;exact⟨a,o',rfl,h1,h2⟩
  .rename_i eo;split at e
   .obtain⟨v,L2,e1,q,_⟩:=h.own eo;rw[e1]at e2;have e3:v=u:=by simpa using e2
    subst e3;obtain⟨a,ag,rfl,hd,rfl,r,_⟩:=q;obtain⟨o',h1,h2⟩:=Oi hd r rfl e;exact⟨a,o',rfl,h1,h2⟩
   .cases e
  .cases e
 .cases e
def JG:Rv->Rv->FS->Out Rv
 |x,.t y,fs=>match RT fs x y with|some (some t)=>okT t fs|_=>.bad
 |_,_,_=>.bad
def Ut(neg:Bool):Rv->Rv->FS->Out Rv
 |.t y,x,fs=>match RT fs x y with|some o=>okT (.v (if neg then !o.isSome else o.isSome)) fs|_=>.bad
 |_,_,_=>.bad
variable{i:Expr}{fi:FS->Out Rv}
def FK:List Str->List T->Str->Option T
 |f::fs,t::ts,g=>if g==f then some t else FK fs ts g
 |_,_,_=>none
def Bw:List Str->List FO->Str->Option FO
 |f::fs,t::ts,g=>if g==f then some t else Bw fs ts g
 |_,_,_=>none
def Jbi(C:Addr)(f:Str):Rv->FS->Out Rv
 |.t (.ins C' fs ts),st=>if C'=C then match FK fs ts f with|some t=>okT t st|none=>.bad
  else .bad
 |.n i,st=>match AF st i with
  |some (.ins C' fs os)=>if C'=C then match Bw fs os f with|some (.val t)=>okT t st|_=>.bad
   else .bad
  |_=>.bad
 |_,_=>.bad
theorem JZ{g}:∀{ag:List (Str×V)}{ts:List T}{t:T},Ah K F H ts (ag.map (·.2))->FK (ag.map (·.1)) ts g=some t->∃v,ag.lookup g=some v/\AH K F H t v
 | [],ts,t,r,e=>by cases ts<;>simp[FK]at e
 |(k,v)::ag,ts,t,r,e=>by cases ts with|nil=>simp[FK]at e|cons t' ts =>obtain⟨v',w',ee,r1,r2⟩:=r;cases ee;simp only[qi,FK]at e;rw[qX];cases hb:g==k with|true =>rw[hb]at e;cases e;exact⟨v,rfl,r1⟩|false =>rw[hb]at e;exact JZ r2 (by simpa using e)
theorem Hu{g}:∀{ag:List (Str×V)}{ts:List FO}{L:List Addr}{t:FO},Ay K F H ts (ag.map (·.2)) L->Bw (ag.map (·.1)) ts g=some t->∃v L',ag.lookup g=some v/\AN K F H t v L'/\∀a∈L',a∈L
 | [],ts,L,t,r,e=>by cases ts<;>simp[Bw]at e
 |(k,v)::ag,ts,L,t,r,e=>by cases ts with|nil=>simp[Bw]at e|cons t' ts =>obtain⟨v',w',L1,L2,ee,r1,r2,rfl⟩:=r;cases ee;simp only[qi,Bw]at e;rw[qX];cases hb:g==k with|true =>rw[hb]at e;cases e;exact⟨v,L1,rfl,r1,λa m=>qk _ m⟩|false =>rw[hb]at e;obtain⟨v2,L',h1,h2,h3⟩:=Hu r2 (by simpa using e);exact⟨v2,L',h1,h2,λa m=>qt _ (h3 a m)⟩
def EM(C:Addr)(f:Str)(fo:FS->Out Rv):FS->Out Rv:=λfs=>(fo fs).bnd λx fs=>Jbi C f x fs
variable{C:Addr}{f:Str}
meta theorem Yx(c:Cls X.K C)(n:A8 X.K C f)(ho:FE X Z o fo)(hb:attributeBase o f X.env (eval o X.env)=eval o X.env:=by rfl):FE X Z (.Attribute o f pos) (EM C f fo):=by
 refine AE (J8 ho hb) λσ H Q ao => ?_
 obtain⟨F,B,fs,ok,s⟩:= ao;refine⟨F,B,fs,ok,Aq s λx af F1 H1 u l az rx s1=>?_⟩;unfold Jbi at s1;split at s1
 .rename_i C' gs ts;split at s1
  .rename_i hC;subst hC;split at s1
   next t e=>obtain⟨a,dx,ag,rfl,ff,hd,rfl,r⟩:=rx;obtain⟨v,e1,rv⟩:=JZ r e;exact⟨a,C',dx,ag,v,rfl,hd,c,n,e1,s1 F1 H1 v Le.refl (RR.of az rv)⟩
   .exact s1.elim
  .exact s1.elim
 .rename_i i;split at s1
  .rename_i C' gs os eo;split at s1
   .rename_i hC;subst hC;split at s1
    .rename_i t e;obtain⟨v,L2,e1,q,_⟩:=az.own eo;have e2:σ[i]?=some (some u):=rx;rw[e1]at e2;have e3:v=u:=by simpa using e2
     subst e3;obtain⟨a,dx,ag,L',rfl,hd,rfl,r,_⟩:=q;obtain⟨v2,L3,e4,r4,_⟩:=Hu r e;exact⟨a,C',dx,ag,v2,rfl,hd,c,n,e4,s1 F1 H1 v2 Le.refl (RR.of az r4.2)⟩
    .exact s1.elim
   .exact s1.elim
  .exact s1.elim
 .exact s1.elim
def Gf(K:Fg)(Z:Xp)(B:Nat->Option V)(F:Wd)(H:Hp)(o:SO)(D:Ends):Prop:=match o with|.nx fs=>∀F' H' σ,Le F H F' H'->Okk K F' B H' fs σ->D.nx σ H'|.ret r fs=>∀F' H' σ u,Le F H F' H'->RR K B σ F' H' fs r u->D.rt u H'|.brk fs=>∀F' H' σ,Le F H F' H'->Okk K F' B H' fs σ->D.bk σ H'|.cnt fs=>∀F' H' σ,Le F H F' H'->Okk K F' B H' fs σ->D.ct σ H'|.exc c fs=>Z.p F B H c fs|.bad=>False
inductive tSt(K:Fg)(Z:Xp)(g:FS->SO)(D:Ends)(σ:St)(H:Hp):Prop
 |mk (F:Wd) (B:Nat->Option V) (fs:FS) (h0:Okk K F B H fs σ) (h1:Gf K Z B F H (g fs) D)
def GS(X:Cx)(Z:Xp)(st:Stmt)(g:FS->SO):Prop:=PS X st (tSt X.K Z g)
def GSs(X:Cx)(Z:Xp)(kG:List Stmt)(g:FS->SO):Prop:=PSs X kG (tSt X.K Z g)
theorem Gf.le{o}(h:Gf K Z B F H o D)(l:Le F H F' H'):Gf K Z B F' H' o D:=by
 cases o with
 |nx fs=>exact λF2 H2 σ l2 k=>h F2 H2 σ (l.trans l2) k
 |ret r fs=>exact λF2 H2 σ u l2 k=>h F2 H2 σ u (l.trans l2) k
 |brk fs=>exact λF2 H2 σ l2 k=>h F2 H2 σ (l.trans l2) k
 |cnt fs=>exact λF2 H2 σ l2 k=>h F2 H2 σ (l.trans l2) k
 |exc c fs=>exact Z.mono h l
 |bad=>exact h
def nxS:FS->SO:=λfs=>.nx fs
def Ak(g h:FS->SO):FS->SO:=λfs=>match g fs with|.nx fs=>h fs|o=>o
def SO.of{α:Type}(o:Out α)(k:α->FS->SO):SO:=match o with|.ok a fs=>k a fs|.exc c fs=>.exc c fs|.bad=>.bad
theorem B0{o}(h:Gf K Z B F H (SO.of o k) D)
  (hk:∀a fs F' H' b,Le F H F' H'->R F' H' fs a b->Gf K Z B F' H' (k a fs) D->Q b H'):sat Z B R F H o Q:=by
 cases o with
 |ok a fs=>exact λF2 H2 b l r=>hk a fs F2 H2 b l r (Gf.le h l)
 |exc c fs=>exact h
 |bad=>exact h
def Ws(i:Nat)(r:Rv)(fs:FS):Option FS:=match r with|.t t=>some (fs.set i (some (.val t)))|.nw o=>some (fs.set i (some (.own o)))|.n _=>none
def Jg(i:Nat)(r:Rv)(fs:FS):Option FS:=match fs[i]? with|none=>none|some (some (.bor _))=>none|some _=>Ws i r fs
meta theorem Jf{i}{r}(h:RR K B σ F H fs r u)(e:Jg i r fs=some ar):Okk K F B H ar (σ.set i (some u)):=by
 obtain⟨L,L',ok,q,nd,nf⟩:=h;have key:∀s:Option Sl,fs[i]?=some s->(∀o,s≠some (.bor o))->Ws i r fs=some ar->Okk K F B H ar (σ.set i (some u)):=by
  intro s es hb e;obtain⟨v,L1,L2,L3,e1,rfl,h1,h2⟩:=ok.sl.pick es;have jt:∀a∈L1++(L'++L3),¬F a/\¬F.p a:=λa m=>by
   rcases qd.mp m with m|m
   .exact⟨ok.nf a (by simp[m]),ok.pl a (by simp[m])⟩
   .rcases qd.mp m with m|m
    .exact nf a m
    .exact⟨ok.nf a (by simp[m]),ok.pl a (by simp[m])⟩
  cases r with
  |t t =>cases e;obtain⟨rfl,q⟩:=q;refine⟨L1++([]++L3),h2 F H (some (.val t)) (some u) [] Le.refl (λ_ _=>rfl) ⟨u,rfl,q,rfl⟩,BB ok.nd qM (λ_ m=>nomatch m),λa m=>(jt a m).1,ok.fd,?_,ok.pd,ok.pf,λa m=>(jt a m).2⟩;exact Eo.put ok.bo (λo eo=>by cases eo) ok.sl.len
  |nw o =>
   cases e;refine⟨L1++(L'++L3),h2 F H (some (.own o)) (some u) L' Le.refl (λ_ _=>rfl) ⟨u,rfl,q⟩,BB ok.nd (qc.mp nd).2.1 (λa m m2=>(qc.mp nd).2.2 a (by
   rcases qd.mp m2 with m2|m2
   .simp[m2]
   .simp[m2]) a m rfl),λa m=>(jt a m).1,ok.fd,?_,ok.pd,ok.pf,λa m=>(jt a m).2⟩
   exact Eo.put ok.bo (λo eo=>by cases eo) ok.sl.len
  |n j=>cases e
 unfold Jg at e;split at e
 .cases e
 .cases e
 next s hb es=>exact key s es (λo z=>hb o z) e
def Av(i:Nat)(f:FS->Out Rv):FS->SO:=λfs=>SO.of (f fs) λr fs=>match Jg i r fs with|some fs=>.nx fs|none=>.bad
def Bb(f:FS->Out Rv):FS->SO:=λfs=>SO.of (f fs) λ_ fs=>.nx fs
def retS(f:FS->Out Rv):FS->SO:=λfs=>SO.of (f fs) λr fs=>.ret r fs
def ifS(c:FS->Out Bool)(g h:FS->SO):FS->SO:=λfs=>SO.of (c fs) λb fs=>if b=true then g fs else h fs
variable{st:Stmt}{rest a b:List Stmt}{f:FS->Out Rv}{fc:FS->Out Bool}{g h:FS->SO}
theorem Ui:GSs X Z [] nxS:=Mr SU λD σ H ⟨F,B,fs,ok,s⟩=>s F H σ Le.refl ok
theorem PY(h1:GS X Z st g)(h2:GSs X Z rest h):GSs X Z (st::rest) (Ak g h):=by
 refine Mr (OZ h1 h2) λD σ H ao => ?_
 obtain⟨F,B,fs,ok,s⟩:= ao;refine⟨F,B,fs,ok,?_⟩;unfold Ak at s;cases e:g fs with
 |nx af =>rw[e]at s;exact λF1 H1 gR l k=>⟨F1,B,af,k,Gf.le s l⟩
 |ret r af=>rwa[e]at s
 |brk af=>rwa[e]at s
 |cnt af=>rwa[e]at s
 |exc c af=>rwa[e]at s
 |bad=>rwa[e]at s
theorem Uh(h1:GS X Z st g):GSs X Z [st] g:=SS h1
theorem Uj(he:FE X Z e f)(hs:swapsWith e none pos.line X.env=pure false:=by rfl):GS X Z (.Expr e pos) (Bb f) :=
 B8 (SV he hs) λD σ H ⟨F,B,fs,ok,s⟩=>⟨F,B,fs,ok,B0 s λr af F1 H1 u l q s1=>s1 F1 H1 σ Le.refl q.ok⟩
theorem XJ(he:FE X Z e f):GS X Z (.Return (some e) pos) (retS f) :=
 B8 (Wv he) λD σ H ⟨F,B,fs,ok,s⟩=>⟨F,B,fs,ok,B0 s λr af F1 H1 u l q s1=>s1 F1 H1 σ u Le.refl q⟩
theorem Jba(hc:FT X Z c fc)(ha:GSs X Z a g)(hb:GSs X Z b h):GS X Z (.If c a b pos) (ifS fc g h):=by
 refine B8 (JaE hc ha hb) λD σ H ao => ?_
 obtain⟨F,B,fs,ok,s⟩:= ao;refine⟨F,B,fs,ok,B0 s λr af F1 H1 u l q s1=>?_⟩;obtain⟨az,rfl⟩:=q;cases u with|true =>exact⟨F1,B,af,az,s1⟩|false =>exact⟨F1,B,af,az,s1⟩
meta theorem V9{i}(s:tSt K Z (Av i f) D σ H):V3 (tF K Z f) (Qc i) D σ H:=by
 obtain⟨F,B,fs,ok,s⟩:=s;refine⟨F,B,fs,ok,B0 s λr af F1 H1 u l q s1=>?_⟩;split at s1
 next ay e2=>exact s1 F1 H1 _ Le.refl (Jf q e2)
 .exact s1.elim
theorem XI{X}{x}(i:Nat)(hN:X.N.Nodup)(hx:Loc X.env.scope x)(he:FE X Z e f)(hi:X.N[i]?=some x:=by rfl)(hs:swapsWith e (some (.Name x aR)) pos.line X.env=pure false:=by rfl)(hf:X.fn x=true\/X.env.scope.names.lookup x=some .local:=by first|exact .inl rfl|exact .inr rfl|assumption):
  GS X Z (.Assign [.Name x aR] e pos) (Av i f) :=
 B8 (Wu hN hi hx he hs hf) λ_ _ _ s=>V9 s
def tG(K:Fg)(gt:T->FS->Option FS):TG:=λv σ H Q=>∃F B fs t,Okk K F B H fs σ/\AH K F H t v/\match gt t fs with|some ar=>∀F' H' ax,Le F H F' H'->Okk K F' B H' ar ax->Q ax H'|none=>False
def tGs(K:Fg)(gt:List T->FS->Option FS):TGs:=λvs σ H Q=>∃F B fs ts,Okk K F B H fs σ/\Ah K F H ts vs/\match gt ts fs with|some ar=>∀F' H' ax,Le F H F' H'->Okk K F' B H' ar ax->Q ax H'|none=>False
def GT(X:Cx)(tg:Expr)(gt:T->FS->Option FS):Prop:=PG X tg (tG X.K gt)
def GTs(X:Cx)(tgs:List Expr)(gt:List T->FS->Option FS):Prop:=PGs X tgs (tGs X.K gt)
theorem Mz(h:PG X e t)(i:∀v σ H Q,t' v σ H Q->t v σ H Q):PG X e t':=λaa s σ H v u Q I r q=>h aa s σ H v u Q I r (i _ _ _ _ q)
theorem My{e}(h:PGs X e t)(i:∀v σ H Q,t' v σ H Q->t v σ H Q):PGs X e t':=λaa s σ H v u Q I r q=>h aa s σ H v u Q I r (i _ _ _ _ q)
def tgN(i:Nat):T->FS->Option FS:=λt fs=>Jg i (.t t) fs
def Au:List T->FS->Option FS
 | [],fs=>some fs
 |_,_=>none
def Af(g:T->FS->Option FS)(h:List T->FS->Option FS):List T->FS->Option FS
 |t::ts,fs=>(g t fs).bind λfs=>h ts fs
 |_,_=>none
def Aw(n:Nat)(h:List T->FS->Option FS):T->FS->Option FS
 |.tup ts,fs=>if ts.length=n then h ts fs else none
 |_,_=>none
variable{g:T->FS->Option FS}{h:List T->FS->Option FS}
meta theorem Ug{X}{x}(i:Nat)(hN:X.N.Nodup)(hx:Loc X.env.scope x)(hi:X.N[i]?=some x:=by rfl)(hf:X.fn x=true\/X.env.scope.names.lookup x=some .local:=by first|exact .inl rfl|exact .inr rfl|assumption):GT X (.Name x pos) (tgN i):=by
 refine Mz (S6 hN hi hx hf) λv σ H Q ao=>?_
 obtain⟨F,B,fs,t,ok,r,s⟩:= ao;split at s
 next ar e=>exact s F H _ Le.refl (Jf (RR.of (r:=.t t) ok r) e)
 .exact s.elim
theorem Ue:GTs X [] Au:=by
 refine My S5 λv σ H Q ao=>?_
 obtain⟨F,B,fs,ts,ok,r,s⟩:= ao;cases ts with|nil=>exact⟨r,s F H σ Le.refl ok⟩|cons t ts=>exact s.elim
theorem PX(h1:GT X e g)(h2:GTs X es h)
  (hc:∀{t:TG}{u:TGs},PG X e t->PGs X es u->PGs X (e::es) (XY t u)):GTs X (e::es) (Af g h):=by
 refine My (hc h1 h2) λv σ H Q ao=>?_
 obtain⟨F,B,fs,ts,ok,r,s⟩:= ao;cases ts with
 |nil=>exact s.elim
 |cons t ts =>
  obtain⟨v',w,rfl,r1,r2⟩:=r;refine⟨v',w,rfl,F,B,fs,t,ok,r1,?_⟩;simp only[Af]at s;cases e1:g t fs with
  |none=>rwa[e1]at s
  |some af =>
   rw[e1]at s;exact λF1 H1 gR l k=>⟨F1,B,af,ts,k,r2.le l,by
    simp only[rg]at s;split at s
    .exact λF2 H2 cG l2 k2=>s F2 H2 cG (l.trans l2) k2
    .exact s.elim⟩
meta theorem XG(hc:X.calm=true)(h1:GTs X es h)(hn:(assignEach es X.env).length=n:=by rfl)(cQ:(assignEach es X.env).findIdx? (·.1)=none:=by rfl):GT X (.Tuple es k pos) (Aw n h):=by
 refine Mz (WC hc h1 hn cQ) λv σ H Q ao=>?_
 obtain⟨F,B,fs,t,ok,r,s⟩:= ao;unfold Aw at s;split at s
 .rename_i ar e;split at e
  .rename_i ts;split at e
   next hl=>obtain⟨a,vs,rfl,hs,r⟩:=r;refine⟨a,vs,rfl,hs.sq,by rw[r.len];exact hl,F,B,fs,ts,ok,r,?_⟩;rwa[e]
   .cases e
  .cases e
 .exact s.elim
def D3(f:FS->Out Rv)(g:T->FS->Option FS):FS->SO:=λfs=>SO.of (f fs) λr fs=>match r with
 |.t t=>match g t fs with|some fs=>.nx fs|none=>.bad
 |_=>.bad
variable{tg:Expr}
meta theorem XQ(he:FE X Z e f)(hg:GT X tg g)(hs:swapsWithSole [tg] e pos.line X.env=pure false:=by rfl)(hw:swappedStores [tg] e X.env=pure none:=by rfl)
  (h1:(assignEach [tg] X.env).map (·.2)=[assign tg X.env]:=by rfl):GS X Z (.Assign [tg] e pos) (D3 f g):=by
 refine B8 (Rc he hg hs hw h1) λD σ H ao => ?_
 obtain⟨F,B,fs,ok,s⟩:= ao;refine⟨F,B,fs,ok,B0 s λr af F1 H1 u l q s1=>?_⟩;split at s1
 .rename_i t;obtain⟨L,L',o1,⟨_,q⟩,_⟩:=q;refine⟨F1,B,af,t,⟨L,o1⟩,q,?_⟩;split at s1
  next ay e2=>exact λF2 H2 cG l2 k2=>s1 F2 H2 cG l2 k2
  .exact s1.elim
 .exact s1.elim
def Nw(K:Fg)(F:Wd)(H:Hp)(F':Wd)(H':Hp):Prop:=Le F H F' H'/\∀B fs σ,Okk K F B H fs σ->Okk K F' B H' fs σ
theorem Nw.refl:Nw K F H F H:=⟨Le.refl,λ_ _ _ h=>h⟩
def JOk(K:Fg)(F:Wd)(H:Hp)(J:It)(ts:List T):Prop:=∀(F':Wd)(H':Hp),(∀a,F a->F' a/\H' a=H a)->(∃B fs σ,Okk K F' B H' fs σ)->∀i,(∀t,ts[i]?=some t->J.go i H'/\∀x eS,J.yQ i H' x eS->∃F'',Nw K F' H' F'' eS/\AH K F'' eS t x)/\(ts.length<=i->J.stop i H')
theorem JOk.within{p}(h:JOk K F H J ts):JOk K ⟨F.f,p⟩ H J ts:=λF2 H2 l2=>h F2 H2 l2
theorem Ah.lf(l:∀a,F a->F' a/\H' a=H a)(r:Ah K F H ts vs):Ah K F' H' ts vs :=
 Ah.le (F:=⟨F.f,λ_=>False⟩) ⟨l,λ_ z=>z.elim⟩ (Ah.wp r)
theorem StL.lf{a}(l:∀a,F a->F' a/\H' a=H a)(r:StL K F H a vs):StL K F' H' a vs:=by
 rcases r with⟨f,h⟩|h
 .exact .inl ⟨(l a f).1,FL.Rd.same h (l a f).2⟩
 .exact .inr h
theorem stays{x}(e:H'=H)(r:AH K F H t x):∃F',Nw K F H F' H'/\AH K F' H' t x:=by subst e;exact⟨F,Nw.refl,r⟩
def RJ(K:Fg)(B:Nat->Option V)(σ:St):Wd->Hp->FS->List T->It->Prop:=λF H fs ts J=>Okk K F B H fs σ/\JOk K F H J ts
inductive tI(K:Fg)(Z:Xp)(f:FS->Out (List T))(σ:St)(H:Hp)(R:It->Hp->Prop):Prop
 |mk (F:Wd) (B:Nat->Option V) (fs:FS) (h0:Okk K F B H fs σ) (h1:sat Z B (RJ K B σ) F H (f fs) R)
def FI(X:Cx)(Z:Xp)(tg aC:Expr)(f:FS->Out (List T)):Prop:=PI X tg aC (tI X.K Z f)
theorem HN(h:PI X tg e t)(i:∀σ H Q,t' σ H Q->t σ H Q):PI X tg e t':=λaa s σ H Q I q=>h aa s σ H Q I (i _ _ _ q)
def signs(z:Str):List T:=z.cps.toList.map λc=>T.str ⟨#[c]⟩
def upTo(lo:Int)(n:Nat):List T:=(List.range n).map λi=>T.int (lo+(i:Nat))
def LM(f:FS->Out (List Rv)):FS->Out (List T):=λfs=>(f fs).bind λrs fs=>match rs with| [.t (.int j)]=>if -(2^62)<=j/\j<2^62 then .ok (upTo 0 j.toNat) fs else .bad|_=>.bad
variable{l a b:Expr}
theorem Kj{a:Addr}(hs:∀(F':Wd) H',(∀a,F a->F' a/\H' a=H a)->SqL K H' a vs)(r:Ah K F H ts vs):JOk K F H (Itl K a) ts:=by intro F' H' l _ i;refine⟨λt et=>?_,λhl=>⟨vs,hs F' H' l,by rwa[r.len]⟩⟩;obtain⟨v,ev,rv⟩:=(Ah.lf l r).at et;refine⟨⟨vs,v,hs F' H' l,ev⟩,λx eS hy=>stays hy.1 ?_⟩;have:=hy.2 vs (hs F' H' l);rw[ev]at this;cases this;exact rv
theorem T7{a:Addr}(hs:∀(F':Wd) H',(∀a,F a->F' a/\H' a=H a)->SqT K H' a vs)(r:Ah K F H ts vs):JOk K F H (Itt K a) ts:=by intro F' H' l _ i;refine⟨λt et=>?_,λhl=>⟨vs,hs F' H' l,by rwa[r.len]⟩⟩;obtain⟨v,ev,rv⟩:=(Ah.lf l r).at et;refine⟨⟨vs,v,hs F' H' l,ev⟩,λx eS hy=>stays hy.1 ?_⟩;have:=hy.2 vs (hs F' H' l);rw[ev]at this;cases this;exact rv
theorem MV:JOk K F H (Itr lo n) (upTo lo n):=by
 intro F' H' l _ i;refine⟨λt et=>?_,λhl=>by unfold upTo at hl;simpa[Itr]using hl⟩;unfold upTo at et;rw[qH]at et;have hi:i<n:=by
  by_cases h:i<n
  .exact h
  .rw[rN (by simpa using h)]at et;cases et
 rw[List.getElem?_range hi]at et;cases et;exact⟨hi,λx eS hy=>stays hy.1 hy.2⟩
theorem T8:JOk K F H (Its z) (signs z):=by
 intro F' H' l _ i;refine⟨λt et=>?_,λhl=>by unfold signs at hl;simpa[Its]using hl⟩;unfold signs at et;rw[qH,qw]at et;obtain⟨c,ec,rfl⟩:=et;have hi:=by have:=(ql.mp ec).1;simpa using this
 refine⟨hi,λx eS hy=>stays hy.1 ?_⟩;obtain⟨c',e1,e2⟩:=hy.2;rw[Array.getElem?_toList]at ec;rw[ec]at e1;cases e1;exact e2
meta theorem Nv(hm:X.mg "range"=none)(ha:FA X Z [a] fa)(hg:Gl X "range":=by rfl)(hs:starEach [a] X.env=[(false,eval a X.env)]:=by rfl):FI X Z tg (.Call (.Name "range" p) [a] [] pos) (LM fa):=by
 refine HN (Mx hg hm ha hs) λσ H Q ao => ?_
 obtain⟨F,B,fs,ok,s⟩:= ao;refine⟨F,B,fs,ok,Ar s λrs af F1 H1 us l q s1=>?_⟩;obtain⟨az,q⟩:=q;split at s1
 .rename_i j;split at s1
  next hj=>obtain⟨v,rfl,qq⟩:=A3 q;cases qq;exact⟨j,rfl,hj.1,hj.2,s1 F1 H1 _ Le.refl ⟨az,MV⟩⟩
  .exact s1.elim
 .exact s1.elim
def DJ(gt:T->FS->Option FS)(body:FS->SO):List T->FS->SO
 | [],fs=>.nx fs
 |t::ts,fs=>match gt t fs with|none=>.bad|some fs=>match body fs with|.nx fs=>DJ gt body ts fs|.cnt fs=>DJ gt body ts fs|.brk fs=>.nx fs|o=>o
def BR(src:FS->Out (List T))(gt:T->FS->Option FS)(body:FS->SO):FS->SO:=λfs=>SO.of (src fs) λts fs=>DJ gt body ts fs
variable{aC:Expr}{src:FS->Out (List T)}{gt:T->FS->Option FS}{g:FS->SO}{body:List Stmt}
theorem XM(hp:PassesOwn (model X.prog X.w) X.A X.env X.xe)(hc:X.calm=true)(hi:FI X Z tg aC src)(hg:GT X tg gt)(hb:GSs X Z body g)
  (hs:∀x,foldedSetIterable aC X.env x=pure x:=by intro _;rfl):GS X Z (.For tg aC body [] pos) (BR src gt g):=by
 refine B8 (Ww hp hc hi hg hb hs) λD σ H ao => ?_
 obtain⟨F,B,fs,ok,s⟩:= ao;refine⟨F,B,fs,ok,B0 s λts af F1 H1 J l q s1=>?_⟩;obtain⟨az,jk⟩:=q;refine⟨λi m σ H=>m=ts.length-i/\∃F' ar,Le F1 H1 F' H/\Okk X.K F' B H ar σ/\Gf X.K Z B F' H (DJ gt g (ts.drop i) ar) D,⟨ts.length,rfl,F1,af,Le.refl,az,s1⟩,?_⟩
 rintro i m σ H ⟨rfl,F2,ay,l2,aO,s2⟩
 by_cases hi:i<ts.length
 .refine .inr ?_;rw[(sU hi)]at s2;obtain⟨j1,j2⟩:=(jk F2 H l2.f ⟨_,_,_,aO⟩ i).1 _ (qb hi);refine⟨j1,λax H'=>∃F' ar,Le F1 H1 F' H'/\Okk X.K F' B H' ar ax/\Gf X.K Z B F' H' (DJ gt g (ts.drop (i+1)) ar) D,λax H' h=>⟨ts.length-(i+1),by lia,rfl,h⟩,λx H' hy=>?_⟩;obtain⟨mM,⟨lV,nw⟩,rx⟩:=j2 x H' hy;replace l2:=l2.trans lV;replace s2:=Gf.le s2 lV;replace aO:=nw _ _ _ aO;refine⟨mM,B,ay,ts[i],aO,rx,?_⟩;simp only[DJ]at s2;cases eg:gt ts[i] ay with
  |none=>rwa[eg]at s2
  |some bQ =>
   rw[eg]at s2;intro F3 H3 gS l3 cV;refine⟨F3,B,bQ,cV,?_⟩;have s3:=Gf.le s2 l3;simp only at s3;cases eb:g bQ with
   |nx fO =>rw[eb]at s3;exact λF4 H4 pz l4 gJ=>⟨F4,fO,(l2.trans l3).trans l4,gJ,Gf.le s3 l4⟩
   |cnt fO =>rw[eb]at s3;exact λF4 H4 pz l4 gJ=>⟨F4,fO,(l2.trans l3).trans l4,gJ,Gf.le s3 l4⟩
   |brk fO=>rwa[eb]at s3
   |ret r fO=>rwa[eb]at s3
   |exc c fO=>rwa[eb]at s3
   |bad=>rwa[eb]at s3
 .refine .inl ⟨(jk F2 H l2.f ⟨_,_,_,aO⟩ i).2 (by lia),?_⟩;rw[rZ (by lia)]at s2;exact s2 F2 H σ Le.refl aO
variable{L:List Addr}
theorem Ap.toP:∀{fs:FS}{σ:St}{L:List Addr},Ap K F H fs σ L->∃br:Nat->List Addr,(∀i s,fs[i]?=some s->∃v,σ[i]?=some v/\Od K F H s v (br i))/\(∀i a,a∈br i->a∈L) /\
  (L.Nodup->(∀i,(br i).Nodup)/\∀i j a,i≠j->a∈br i->a∉br j)/\∀i,fs.length<=i->br i=[]
 | [],σ,L,h=>⟨λ_=>[],(λi s e=>by simp at e),(λi a m=>nomatch m),(λ_=>⟨λ_=>qM,(λ_ _ _ _ m=>nomatch m)⟩),λ_ _=>rfl⟩
 |s::r,σ,L,h=>by
  obtain⟨v,ax,L1,L2,rfl,h1,h2,rfl⟩:=h.Ep;obtain⟨br,q1,q2,q3,q4⟩:=Ap.toP h2;refine⟨λi=>match i with|0=>L1|i+1=>br i,λi s' e=>?_,λi a m=>?_,λnd=>?_,λi hi=>?_⟩
  .cases i with|zero =>simp at e;subst e;exact⟨v,rfl,h1⟩|succ i =>obtain⟨w,e1,e2⟩:=q1 i s' (by simpa using e);exact⟨w,by simpa using e1,e2⟩
  .cases i with|zero=>exact qk _ m|succ i=>exact qt _ (q2 i a m)
  .rw[qc]at nd;obtain⟨n1,n2,n3⟩:=nd;obtain⟨m1,m2⟩:=q3 n2;refine⟨λi=>?_,λi j a cJ hi hj=>?_⟩
   .cases i with|zero=>exact n1|succ i=>exact m1 i
   .cases i with
    |zero =>cases j with|zero=>exact cJ rfl|succ j=>exact n3 a hi a (q2 j a hj) rfl
    |succ i =>cases j with|zero=>exact n3 a hj a (q2 i a hi) rfl|succ j=>exact m2 i j a (λe=>cJ (by rw[e])) hi hj
  .cases i with|zero=>simp at hi|succ i=>exact q4 i (by simpa using hi)
theorem Ap.ofP:∀{fs:FS}{σ:St}(br:Nat->List Addr),σ.length=fs.length->(∀i s,fs[i]?=some s->∃v,σ[i]?=some v/\Od K F H s v (br i))->(∀i,(br i).Nodup)->(∀i j a,i≠j->a∈br i->a∉br j) ->
  ∃L,Ap K F H fs σ L/\L.Nodup/\∀a∈L,∃i,i<fs.length/\a∈br i
 | [],σ,br,hl,h,nd,dj=>by have:=rF (by simpa using hl);subst this;exact⟨[],⟨rfl,rfl⟩,qM,λ_ m=>nomatch m⟩
 |s::r,[],br,hl,h,nd,dj=>by simp at hl
 |s::r,v::σ,br,hl,h,nd,dj=>by
  obtain⟨L,h1,h2,h3⟩:=Ap.ofP (σ:=σ) (λi=>br (i+1)) (by simpa using hl) (λi s' e=>by obtain⟨w,e1,e2⟩:=h (i+1) s' (by simpa using e);exact⟨w,by simpa using e1,e2⟩) (λi=>nd (i+1)) (λi j a cJ=>dj (i+1) (j+1) a (by lia));obtain⟨w,e1,e2⟩:=h 0 s rfl;simp at e1;subst e1;refine⟨br 0++L,Ap.cons e2 h1,?_,λa m=>?_⟩
  .rw[qc];refine⟨nd 0,h2,λa ha b hb e=>?_⟩;obtain⟨i,_,hi⟩:=h3 b hb;exact dj 0 (i+1) a (by lia) ha (by rwa[e])
  .rcases qd.mp m with m|m
   .exact⟨0,by simp,m⟩
   .obtain⟨i,hi,q⟩:=h3 a m;exact⟨i+1,by simp;exact hi,q⟩
theorem Ok.take(h:Ok K F B H fs σ L)(n:Nat):∃L',Ok K F B H (fs.take n) (σ.take n) L'/\∀a∈L',a∈L:=by
 obtain⟨br,q1,q2,q3,q4⟩:=h.sl.toP;obtain⟨n1,n2⟩:=q3 h.nd;obtain⟨L',p1,p2,p3⟩:=Ap.ofP (σ:=σ.take n) br (by rw[qY,qY,h.sl.len]) (λi s e=>by
  have hi:i<n:=by
   have:=(ql.mp e).1;rw[qY]at this
   lia
  rw[sX hi]at e ⊢;exact q1 i s e) n1 n2
 have sub:=λa m=>let⟨i,_,q⟩:=p3 a m;q2 i a q
 refine⟨L',⟨p1,p2,λa m=>h.nf a (sub a m),h.fd,λi o e=>?_,h.pd,h.pf,λa m=>h.pl a (sub a m)⟩,sub⟩;have hi:i<n:=by
  have:=(ql.mp e).1;rw[qY]at this
  lia
 rw[sX hi]at e ⊢;exact h.bo i o e
theorem RR.take{r}(h:RR K B σ F H fs r u)(n:Nat)(hr:∀i,r≠.n i):RR K B (σ.take n) F H (fs.take n) r u:=by
 obtain⟨L,L',ok,q,nd,nf⟩:=h;obtain⟨L2,aO,sub⟩:=ok.take n;refine⟨L2,L',aO,?_,?_,nf⟩
 .cases r with|t t=>exact q|nw o=>exact q|n i=>exact(hr i rfl).elim
 .rw[qc]at nd ⊢;exact⟨aO.nd,nd.2.1,λa ha b hb=>nd.2.2 a (sub a ha) b hb⟩
theorem Ok.more(h:Ok K F B H fs σ L)(n:Nat):Ok K F B H (fs++List.replicate n none) (σ++List.replicate n none) L:=by
 have key:∀n:Nat,Ap K F H (List.replicate n none) (List.replicate n none) []:=by
  intro n
  induction n with|zero=>exact⟨rfl,rfl⟩|succ n ih =>rw[List.replicate_succ,List.replicate_succ];exact⟨none,_,rfl,ih⟩
 have app:∀{fs gs:FS}{σ τ:St}{L M:List Addr},Ap K F H fs σ L->Ap K F H gs τ M->Ap K F H (fs++gs) (σ++τ) (L++M):=by
  intro fs
  induction fs with|nil =>intro gs σ τ L M h1 h2;obtain⟨rfl,rfl⟩:=h1;exact h2|cons s r ih =>intro gs σ τ L M h1 h2;obtain⟨v,ax,L1,L2,rfl,q1,q2,rfl⟩:=h1.Ep;have:=Ap.cons q1 (ih q2 h2);simpa using this
 refine⟨by simpa using app h.sl (key n),h.nd,h.nf,h.fd,λi o e=>?_,h.pd,h.pf,h.pl⟩;by_cases hi:i<fs.length
 .rw[sk hi]at e;obtain⟨v,e1,e2⟩:=h.bo i o e;exact⟨v,by rw[sk (by rw[h.sl.len];exact hi)];exact e1,e2⟩
 .rw[rK (by lia)]at e;have:=qV e;simp at this
theorem RR.mv{i}{o}(q:RR K B σ F H fs (.n i) u)(es:fs[i]?=some (some (.own o))):RR K B σ F H (fs.set i none) (.nw o) u:=by
 obtain⟨L,L',o1,⟨_,q⟩,nd,nf⟩:=q;obtain⟨v,L1,L2,L3,e1,rfl,h1,h2⟩:=o1.sl.pick es;obtain⟨w,rfl,q2⟩:=h1;rw[e1]at q;have eu:w=u:=by simpa using q
 subst eu;have h3:=h2 F H none (some w) [] Le.refl (λ_ _=>rfl) rfl;rw[AZ e1]at h3;have bh:=o1.nd;refine⟨L1++([]++L3),L2,⟨h3,BB bh qM (λ_ m=>nomatch m),λa m=>o1.nf a ?_,o1.fd,?_,o1.pd,o1.pf,λa m=>o1.pl a ?_⟩,q2,?_,λa m=>⟨o1.nf a (by simp[m]),o1.pl a (by simp[m])⟩⟩
 .have m':=by simpa using m
  rcases m' with m|m<;>simp[m]
 .have:=Eo.put (i:=i) (s:=none) (v:=some w) o1.bo (λo eo=>by cases eo) o1.sl.len;rwa[AZ e1]at this
 .have m':=by simpa using m
  rcases m' with m|m<;>simp[m]
 .have p:(L1++(L2++L3)).Perm ((L1++([]++L3))++L2):=by rw[sQ,qU];exact List.Perm.append_left _ List.perm_append_comm
  exact p.nodup_iff.mp bh
inductive Ini where
 |no|val (t:T)|slot (j:Nat)|new (o:FO)
def PM(fs:FS):Ini->Option Sl
 |.no=>none
 |.val t=>some (.val t)
 |.new o=>some (.bor o)
 |.slot j=>match fs[j]? with|some (some (.val t))=>some (.val t)|some (some (.own o))=>some (.bor o)|some (some (.bor o))=>some (.bor o)|_=>none
def Bx(fs:FS)(is:List Ini):FS:=is.map (PM fs)
def A4(fs:FS):Ini->Option Nat
 |.slot j=>if(AF fs j).isSome=true then some j else none
 |_=>none
def Dk(fs:FS)(is:List Ini):List Nat:=is.filterMap (A4 fs)
def placeOf(fs:FS)(j:Nat):List Ini->Nat->Option Nat
 | [],_=>none
 |i::r,k=>if A4 fs i=some j then some k else placeOf fs j r (k+1)
def JP(fs:FS)(is:List Ini)(τ:FS)(j:Nat)(s:Option Sl):Option (Option Sl):=match placeOf fs j is 0 with|none=>some s|some k=>match τ[k]?,s with|some (some (.bor o)),some s=>some (some (s.put o))|_,_=>none
def Hi(fs:FS)(is:List Ini)(τ:FS):Nat->FS->Option FS
 |_,[]=>some []
 |j,s::r=>match JP fs is τ j s,Hi fs is τ (j+1) r with|some s',some r'=>some (s'::r')|_,_=>none
def Dl(is:List Ini)(τ fs:FS):Option FS:=Hi fs is τ 0 fs
theorem placeOf_some:∀{is:List Ini}{k k':Nat},placeOf fs j is k=some k'->k<=k'/\∃i,is[k'-k]?=some i/\A4 fs i=some j
 | [],_,_,e=>by simp[placeOf]at e
 |i::r,k,k',e=>by
  simp only[placeOf]at e;split at e
  next h=>cases e;exact⟨qz _,i,by simp,h⟩
  .obtain⟨h1,i',h2,h3⟩:=placeOf_some e;refine⟨by lia,i',?_,h3⟩;rw[show k'-k=(k'-(k+1))+1 by lia];simpa using h2
theorem placeOf_none:∀{is:List Ini}{k:Nat},placeOf fs j is k=none->j∉Dk fs is
 | [],_,_,h=>by simp[Dk]at h
 |i::r,k,e,h=>by
  simp only[placeOf]at e;split at e
  .cases e
  .rename_i hn;unfold Dk at h;rw[sD]at h;cases q:A4 fs i with
   |none =>rw[q]at h;exact placeOf_none e h
   |some j' =>
    rw[q]at h;rcases qA.mp h with h|h
    .exact hn (by rw[q,h])
    .exact placeOf_none e h
theorem Ia:∀{is:List Ini}{k k':Nat}{i i':Ini}{j:Nat},(Dk fs is).Nodup->is[k]?=some i->is[k']?=some i'->A4 fs i=some j->A4 fs i'=some j->k=k'
 | [],_,_,_,_,_,_,e,_,_,_=>by simp at e
 |i0::r,k,k',i,i',j,nd,e,e',h,h'=>by
  have mem:∀{m:Nat}{x:Ini},r[m]?=some x->A4 fs x=some j->j∈Dk fs r:=λhm hx=>sF.mpr ⟨_,qV hm,hx⟩
  unfold Dk at nd;rw[sD]at nd;cases k with
  |zero =>simp at e;subst e;rw[h]at nd;have gF:=nd;cases k' with|zero=>rfl|succ k'=>exact((qR.mp gF).1 (mem (by simpa using e') h')).elim
  |succ k =>cases k' with|zero =>simp at e';subst e';rw[h']at nd;have gF:=nd;exact((qR.mp gF).1 (mem (by simpa using e) h)).elim|succ k' =>exact congrArg (·+1) (Ia (by cases q:A4 fs i0 with|none=>rwa[q]at nd|some j'=>rw[q]at nd;exact(qR.mp nd).2) (by simpa using e) (by simpa using e') h h')
meta theorem KP:∀{r r':FS}{j:Nat},Hi fs is τ j r=some r'->r'.length=r.length/\∀i s,r[i]?=some s->∃s',r'[i]?=some s'/\JP fs is τ (j+i) s=some s'
 | [],_,_,e=>by cases e;exact⟨rfl,λi s q=>by simp at q⟩
 |s::r,_,j,e=>by
  simp only[Hi]at e;split at e
  next s' r' h1 h2=>cases e;obtain⟨q1,q2⟩:=KP h2;refine⟨by simp[q1],λi s0 q=>?_⟩;cases i with|zero =>simp at q;subst q;exact⟨s',rfl,h1⟩|succ i =>obtain⟨s1,e1,e2⟩:=q2 i s0 (by simpa using q);exact⟨s1,by simpa using e1,by rwa[show j+(i+1)=j+1+i by lia]⟩
  .cases e
def Vk(K:Fg)(F:Wd)(H:Hp)(σ:St)(i:Ini)(v:Option V)(M:List Addr):Prop:=match i with|.no=>True|.val t=>∃u,v=some u/\AH K F H t u|.slot j=>σ[j]?=some v|.new o=>∃u,v=some u/\AN K F H o u M
structure Mu(F:Wd)(H:Hp)(L:List Addr)(μ:Nat->List Addr):Prop where
 out:∀k a,a∈μ k->¬F a/\¬F.p a/\a∉L/\H a≠none
 nd:∀k,(μ k).Nodup
 dj:∀k k' a,k≠k'->a∈μ k->a∉μ k'
theorem Mu.no:Mu F H L (λ_=>[]):=⟨(λ_ _ m=>nomatch m),λ_=>qM,(λ_ _ _ _ m=>nomatch m)⟩
meta theorem lend(ok:Ok K F B H fs σ L)(hl:σi.length=is.length)(hi:∀(k:Nat)(i:Ini)(v:Option V),is[k]?=some i->σi[k]?=some v->Vk K F H σ i v (μ k))(nd:(Dk fs is).Nodup)(cR:Mu F H L μ):
  ∃P:Addr->Prop,(∀a,F.p a->P a)/\Okk K ⟨F.f,P⟩ (λk=>(σi[k]?).join) H (Bx fs is) σi/\(∀a,P a->H a≠none) /\
   ∀(F2:Wd)(H2:Hp)(τ:FS)(cG:St)(Li:List Addr)(ar:FS),Le ⟨F.f,P⟩ H F2 H2->Ok K F2 (λk=>(σi[k]?).join) H2 τ cG Li->Dl is τ fs=some ar ->
    Le F H ⟨F2.f,F.p⟩ H2/\∃L,Ok K ⟨F2.f,F.p⟩ B H2 ar σ L/\∀a∈L,a∈Li\/P a:=by
 obtain⟨br,q1,q2,q3,q4⟩:=ok.sl.toP;obtain⟨n1,n2⟩:=q3 ok.nd;have iP:∀j,(AF fs j).isSome=true->∃o s,AF fs j=some o/\fs[j]?=some (some s)/\(s=.own o\/s=.bor o):=by
  intro j hj;unfold AF at hj ⊢;split at hj
  next o es=>exact⟨o,_,rfl,es,.inl rfl⟩
  next o es=>exact⟨o,_,rfl,es,.inr rfl⟩
  .cases hj
 refine⟨λa=>F.p a\/∃j,a∈br j/\j∉Dk fs is,λa p=>.inl p,?_,λa p=>?_,?_⟩
 .
  obtain⟨L',p1,p2,p3⟩:=Ap.ofP (fs:=Bx fs is) (σ:=σi) (λk=>match is[k]? with|some i=>(match A4 fs i with|some j=>br j|none=>(match i with|.new _=>μ k|_=>[]))|none=>[]) (by unfold Bx;rwa[qe])
   (λk s e=>by
    unfold Bx at e;rw[qH,qw]at e;obtain⟨i,ei,rfl⟩:=e;have hk:k<σi.length:=by rw[hl];exact(ql.mp ei).1
    refine⟨σi[k],qb hk,?_⟩;have io:=hi k i _ ei (qb hk);simp only[ei];have lw:∀(t:T)(u:V),AH K F H t u->AH K ⟨F.f,λa=>F.p a\/∃j,a∈br j/\j∉Dk fs is⟩ H t u:=λt u r=>AH.wp r
    cases i with
    |no=>rfl
    |val t =>obtain⟨u,eu,r⟩:=io;exact⟨u,eu,lw t u r,rfl⟩
    |new o =>obtain⟨u,eu,r⟩:=io;exact⟨u,eu,AN.wp r⟩
    |slot j =>
     have ej:σ[j]?=some σi[k]:=io;simp only[PM,A4];cases es:fs[j]? with
     |none =>
      have:AF fs j=none:=by unfold AF;rw[es]
      rw[this];rfl
     |some s =>
      obtain⟨v,e1,e2⟩:=q1 j s es;rw[ej]at e1;cases e1;cases s with
      |none =>
       have:AF fs j=none:=by unfold AF;rw[es]
       rw[this];rfl
      |some s =>
       cases s with
       |val t =>
        have:AF fs j=none:=by unfold AF;rw[es]
        rw[this];obtain⟨u,eu,r,_⟩:=e2;exact⟨u,eu,lw t u r,rfl⟩
       |own o =>
        have:AF fs j=some o:=by unfold AF;rw[es]
        rw[this];obtain⟨u,eu,r⟩:=e2;exact⟨u,eu,AN.wp r⟩
       |bor o =>
        have:AF fs j=some o:=by unfold AF;rw[es]
        rw[this];obtain⟨u,eu,r⟩:=e2;exact⟨u,eu,AN.wp r⟩)
   (λk=>by
    try dsimp only
    split
    .split
     .exact n1 _
     .split
      .exact cR.nd _
      .exact qM
    .exact qM)
   (λk k' a hk ha hb=>by
    try dsimp only at ha hb
    split at ha
    .rename_i i ei;split at ha
     .rename_i j ej;split at hb
      .rename_i i' gm;split at hb
       .rename_i j' kO;by_cases e:j=j'
        .subst e;exact hk (Ia nd ei gm ej kO)
        .exact n2 j j' a e ha hb
       .split at hb
        .exact(cR.out _ a hb).2.2.1 (q2 j a ha)
        .cases hb
      .cases hb
     .split at ha
      .split at hb
       .split at hb
        next j' kO=>exact(cR.out _ a ha).2.2.1 (q2 j' a hb)
        .split at hb
         .exact cR.dj k k' a hk ha hb
         .cases hb
       .cases hb
      .cases ha
    .cases ha)
  have mem:∀a∈L',(∃j,j∈Dk fs is/\a∈br j)\/∃k,a∈μ k:=λa m=>by
   obtain⟨k,_,q⟩:=p3 a m
   try dsimp only at q
   split at q
   .rename_i i ei;split at q
    next j ej=>exact .inl ⟨j,sF.mpr ⟨i,qV ei,ej⟩,q⟩
    .split at q
     .exact .inr ⟨k,q⟩
     .cases q
   .cases q
  refine⟨L',p1,p2,λa m=>?_,ok.fd,λk o e=>?_,λa p=>?_,λa f p=>?_,λa m p=>?_⟩
  .rcases mem a m with⟨j,_,q⟩|⟨k,q⟩
   .exact ok.nf a (q2 j a q)
   .exact(cR.out k a q).1
  .unfold Bx at e;rw[qH,qw]at e;obtain⟨i,ei,e⟩:=e;have hk:k<σi.length:=by rw[hl];exact(ql.mp ei).1
   cases i with
   |no=>cases e
   |val t=>cases e
   |new o' =>obtain⟨u,eu,_⟩:=hi k _ _ ei (qb hk);exact⟨u,by rw[qb hk,eu],by show(σi[k]?).join=some u;rw[qb hk,eu];rfl⟩
   |slot j =>
    simp only[PM]at e;have:∃o s,fs[j]?=some (some s)/\(s=.own o\/s=.bor o):=by
     split at e
     .cases e
     next o' es=>exact⟨o',_,es,.inl rfl⟩
     next o' es=>exact⟨o',_,es,.inr rfl⟩
     .cases e
    obtain⟨o',s,es,hs⟩:=this;obtain⟨v,e1,e2⟩:=q1 j _ es;rw[(hi k _ _ ei (qb hk))]at e1;cases e1;obtain⟨u,eu⟩:∃u,σi[k]=some u:=by
     rcases hs with rfl|rfl
     .exact⟨_,e2.choose_spec.1⟩
     .exact⟨_,e2.choose_spec.1⟩
    exact⟨u,by rw[qb hk,eu],by show(σi[k]?).join=some u;rw[qb hk,eu];rfl⟩
  .rcases p with p|⟨j,p,_⟩
   .exact ok.pd a p
   .exact ok.sl.def a (q2 j a p)
  .rcases p with p|⟨j,p,_⟩
   .exact ok.pf a f p
   .exact ok.nf a (q2 j a p) f
  .rcases mem a m with⟨j,hj,q⟩|⟨k,q⟩
   .rcases p with p|⟨j',p,hj'⟩
    .exact ok.pl a (q2 j a q) p
    .by_cases e:j=j'
     .subst e;exact hj' hj
     .exact n2 j j' a e q p
   .rcases p with p|⟨j',p,hj'⟩
    .exact(cR.out k a q).2.1 p
    .exact(cR.out k a q).2.2.1 (q2 j' a p)
 .rcases p with p|⟨j,p,_⟩
  .exact ok.pd a p
  .exact ok.sl.def a (q2 j a p)
 .
  intro F2 H2 τ cG Li ar l aO eb;have le:Le F H ⟨F2.f,F.p⟩ H2:=⟨λa f=>l.f a f,λa f=>⟨f,(l.p a (.inl f)).2⟩⟩
  obtain⟨iZ,r1,r2,r3,r4⟩:=aO.sl.toP;obtain⟨m1,m2⟩:=r3 aO.nd;obtain⟨b1,b2⟩:=KP eb;have dz:∀j a,a∈br j->j∉Dk fs is->F2.p a/\H2 a=H a:=λj a q hj=>l.p a (.inr ⟨j,q,hj⟩)
  refine⟨le,?_⟩;obtain⟨L',p1,p2,p3⟩:=Ap.ofP (σ:=σ) (λj=>match placeOf fs j is 0 with|some k=>iZ k|none=>br j) (by rw[b1];exact ok.sl.len)
   (λj s' e=>by
    have hj:j<fs.length:=by rw[<- b1];exact(ql.mp e).1
    obtain⟨s1,e1,e2⟩:=b2 j fs[j] (qb hj);rw[e]at e1;cases e1;rw[Nat.zero_add]at e2;obtain⟨v,e3,e4⟩:=q1 j fs[j] (qb hj);refine⟨v,e3,?_⟩;unfold JP at e2;cases ep:placeOf fs j is 0 with
    |none =>rw[ep]at e2;cases e2;exact Od.le le (λa m=>(dz j a m (placeOf_none ep)).2) e4
    |some k =>
     rw[ep]at e2;obtain⟨_,i,ei,bM⟩:=placeOf_some ep;dsimp only at e2 ⊢;split at e2
     .rename_i o s et es;cases e2;obtain⟨w,e5,e6⟩:=r1 k _ et;obtain⟨u,e7,e8⟩:=aO.bo k o et;rw[e5]at e7;cases e7;have ij:i=.slot j:=by
       cases i with
       |no=>cases bM
       |val t=>cases bM
       |new o=>cases bM
       |slot j' =>
        simp only[A4]at bM;split at bM
        .cases bM;rfl
        .cases bM
      subst ij;have hk:k<σi.length:=by rw[hl];exact(ql.mp ei).1
      have io:σ[j]?=some σi[k]:=hi k _ _ ei (qb hk);rw[e3]at io;cases io;have e9:(σi[k]?).join=some u:=e8;rw[qb hk]at e9;have mW:σi[k]=some u:=by simpa using e9
      rw[mW];obtain⟨u',eu,ro⟩:=e6;cases eu;have ob:∃o0,s=.own o0\/s=.bor o0:=by
       simp only[A4]at bM;split at bM
       next oj=>obtain⟨o0,s0,_,kQ,ot⟩:=iP j oj;rw[qb hj,es]at kQ;cases kQ;exact⟨o0,ot⟩
       .cases bM
      obtain⟨o0,ob⟩:=ob;have jw:AN K ⟨F2.f,F.p⟩ H2 o u (iZ k):=AN.wp ro;rcases ob with rfl|rfl
      .exact⟨u,rfl,jw⟩
      .exact⟨u,rfl,jw⟩
     .cases e2)
   (λj=>by
    try dsimp only
    split
    .exact m1 _
    .exact n1 _)
   (λj j' a hj ha hb=>by
    try dsimp only at ha hb
    split at ha
    .rename_i k ek;split at hb
     .rename_i k' i7;by_cases e:k=k'
      .subst e;obtain⟨_,i,ei,h1⟩:=placeOf_some ek;obtain⟨_,i',gm,h2⟩:=placeOf_some i7;rw[ei]at gm;cases gm;rw[h1]at h2;cases h2;exact hj rfl
      .exact m2 k k' a e ha hb
     next i7=>exact aO.pl a (r2 k a ha) (dz j' a hb (placeOf_none i7)).1
    .rename_i ek;split at hb
     next k' i7=>exact aO.pl a (r2 k' a hb) (dz j a ha (placeOf_none ek)).1
     .exact n2 j j' a hj ha hb)
  have src:∀a∈L',(a∈Li/\¬F2.p a)\/∃j,a∈br j/\j∉Dk fs is:=λa m=>by
   obtain⟨j,_,q⟩:=p3 a m
   try dsimp only at q
   split at q
   next k ek=>exact .inl ⟨r2 k a q,aO.pl a (r2 k a q)⟩
   next ek=>exact .inr ⟨j,q,placeOf_none ek⟩
  refine⟨L',⟨p1,p2,λa m f=>?_,λa f=>aO.fd a f,λj o e=>?_,λa p=>?_,λa f p=>?_,λa m p=>?_⟩,λa m=>?_⟩
  .rcases src a m with⟨q,_⟩|⟨j,q,hj⟩
   .exact aO.nf a q f
   .exact aO.pf a f (dz j a q hj).1
  .have hj:j<fs.length:=by rw[<- b1];exact(ql.mp e).1
   obtain⟨s1,e1,e2⟩:=b2 j fs[j] (qb hj);rw[e]at e1;cases e1;have:∃o',fs[j]?=some (some (.bor o')):=by
    unfold JP at e2;split at e2
    .exact⟨o,by rwa[qb hj]⟩
    .split at e2
     next o1 s et es=>cases s with|val t=>cases e2|own o2=>cases e2|bor o2=>exact⟨o2,by rw[qb hj,es]⟩
     .cases e2
   obtain⟨o',eo⟩:=this;exact ok.bo j o' eo
  .rw[(l.p a (.inl p)).2];exact ok.pd a p
  .exact aO.pf a f (l.p a (.inl p)).1
  .rcases src a m with⟨_,q⟩|⟨j,q,hj⟩
   .exact q (l.p a (.inl p)).1
   .exact ok.pl a (q2 j a q) p
  .rcases src a m with⟨q,_⟩|⟨j,q,hj⟩
   .exact .inl q
   .exact .inr (.inr ⟨j,q,hj⟩)
def Bof(σ:St):Nat->Option V:=λk=>(σ[k]?).join
def spF(K:Fg)(p:Nat)(Fn:FS->Out Rv):Sp:=λvs H Q _=>vs.length=p/\∃F cw,Okk K F (Bof (vs.map some)) H cw (vs.map some)/\match Fn cw with|.ok r τ=>∀F' H' u ax,Le F H F' H'->RR K (Bof (vs.map some)) ax F' H' τ r u->Q u H'|_=>False
def Be(n:Nat)(g:FS->SO):FS->Out Rv:=λargs=>match g (args++List.replicate n none)with
 |.nx τ=>.ok (.t .l) (τ.take args.length)
 |.ret (.t t) τ=>.ok (.t t) (τ.take args.length)
 |.ret (.nw o) τ=>.ok (.nw o) (τ.take args.length)
 |.ret (.n i) τ=>match τ[i]? with|some (some (.own o))=>.ok (.nw o) ((τ.set i none).take args.length)|_=>.bad
 |.exc c τ=>.exc c (τ.take args.length)
 |_=>.bad
variable{P:Program}{w:World}{mg:Str->Option Value}{base:Heap}
def AK:Rv->Ini
 |.t t=>.val t
 |.n i=>.slot i
 |.nw o=>.new o
def QM(Fn:FS->Out Rv)(rs:List Rv)(fs:FS):Out Rv :=
 if(Dk fs (rs.map AK)).Nodup then(match Fn (Bx fs (rs.map AK))with|.ok (.t t) τ=>(match Dl (rs.map AK) τ fs with|some ar=>.ok (.t t) ar|none=>.bad)|.ok (.nw o) τ=>(match Dl (rs.map AK) τ fs with|some ar=>.ok (.nw o) ar|none=>.bad)|_=>.bad)else .bad
theorem Ho.len:∀{rs:List Rv}{vs:List V},Ho K F H σ rs vs->vs.length=rs.length
 | [],_,h=>by cases h;rfl
 |r::rs,_,h=>by obtain⟨v,w,rfl,h1,h2⟩:=h;simp[Ho.len h2]
def En(K:Fg)(F:Wd)(H:Hp)(σ:St):List Rv->List V->List Addr->Prop
 | [],vs,L=>vs=[]/\L=[]
 |r::rs,vs,L=>∃v w L1 L2,vs=v::w/\Oe K F H σ r v L1/\En K F H σ rs w L2/\L=L1++L2
inductive RAn(K:Fg)(B:Nat->Option V)(σ:St)(F:Wd)(H:Hp)(fs:FS)(rs:List Rv)(vs:List V):Prop
 |mk (L M:List Addr) (h0:Ok K F B H fs σ L) (h1:En K F H σ rs vs M) (h2:(L++M).Nodup) (h3:∀a∈M,¬F a/\¬F.p a)
inductive tAn(K:Fg)(Z:Xp)(f:FS->Out (List Rv))(σ:St)(H:Hp)(Q:List V->Hp->Prop):Prop
 |mk (F:Wd) (B:Nat->Option V) (fs:FS) (h0:Okk K F B H fs σ) (h1:sat Z B (RAn K B σ) F H (f fs) Q)
def FAn(X:Cx)(Z:Xp)(es:List Expr)(f:FS->Out (List Rv)):Prop:=PA X es (tAn X.K Z f)
def Ad(f:FS->Out Rv)(g:FS->Out (List Rv)):FS->Out (List Rv):=λfs=>(f fs).bind λr fs=>(g fs).bind λrs fs=>.ok (r::rs) fs
variable{rs:List Rv}{Q:VK}{Fn:FS->Out Rv}{E:XK}
theorem En.len:∀{rs:List Rv}{vs:List V}{M:List Addr},En K F H σ rs vs M->vs.length=rs.length
 | [],_,_,h=>by obtain⟨rfl,_⟩:=h;rfl
 |r::rs,_,_,h=>by obtain⟨v,w,L1,L2,rfl,_,h,_⟩:=h;simp[En.len h]
theorem Oe.def{r}(h:Oe K F H σ r v L):∀a∈L,H a≠none:=by
 cases r with
 |t t=>obtain⟨rfl,_⟩:=h;exact λa m=>nomatch m
 |nw o=>exact AN.def h
 |n i=>obtain⟨rfl,_⟩:=h;exact λa m=>nomatch m
theorem Oe.lf{r}(l:∀a,F a->F' a/\H' a=H a)(k:∀a∈L,H' a=H a)(h:Oe K F H σ r v L):Oe K F' H' σ r v L:=by cases r with|t t=>exact⟨h.1,AH.le (F:=⟨F.f,λ_=>False⟩) ⟨l,λ_ z=>z.elim⟩ (AH.wp h.2)⟩|nw o=>exact AN.le (F:=⟨F.f,λ_=>False⟩) ⟨l,λ_ z=>z.elim⟩ k (AN.wp h)|n i=>exact h
theorem En.lf(l:∀a,F a->F' a/\H' a=H a):∀{rs:List Rv}{vs:List V}{M:List Addr},(∀a∈M,H' a=H a)->En K F H σ rs vs M->En K F' H' σ rs vs M
 | [],_,_,_,h=>h
 |r::rs,_,_,k,h=>by obtain⟨v,w,L1,L2,e,h1,h2,rfl⟩:=h;exact⟨v,w,L1,L2,e,h1.lf l λa m=>k a (qk _ m),En.lf l (λa m=>k a (qt _ m)) h2,rfl⟩
theorem En.toP:∀{rs:List Rv}{vs:List V}{M:List Addr},En K F H σ rs vs M->∃μ:Nat->List Addr,(∀k r,rs[k]?=some r->∃v,vs[k]?=some v/\Oe K F H σ r v (μ k))/\(∀k a,a∈μ k->a∈M/\H a≠none) /\
  (M.Nodup->(∀k,(μ k).Nodup)/\∀i j a,i≠j->a∈μ i->a∉μ j)
 | [],_,_,h=>⟨λ_=>[],(λk r e=>by simp at e),(λ_ _ m=>nomatch m),λ_=>⟨λ_=>qM,(λ_ _ _ _ m=>nomatch m)⟩⟩
 |r::rs,_,_,h=>by
  obtain⟨v,w,L1,L2,rfl,h1,h2,rfl⟩:=h;obtain⟨μ,q1,q2,q3⟩:=En.toP h2;refine⟨λi=>match i with|0=>L1|i+1=>μ i,λk r' e=>?_,λk a m=>?_,λnd=>?_⟩
  .cases k with|zero =>simp at e;subst e;exact⟨v,rfl,h1⟩|succ k =>obtain⟨u,e1,e2⟩:=q1 k r' (by simpa using e);exact⟨u,by simpa using e1,e2⟩
  .cases k with|zero=>exact⟨qk _ m,h1.def a m⟩|succ k=>exact⟨qt _ (q2 k a m).1,(q2 k a m).2⟩
  .rw[qc]at nd;obtain⟨n1,n2,n3⟩:=nd;obtain⟨m1,m2⟩:=q3 n2;refine⟨λi=>?_,λi j a cJ hi hj=>?_⟩
   .cases i with|zero=>exact n1|succ i=>exact m1 i
   .cases i with
    |zero =>cases j with|zero=>exact cJ rfl|succ j=>exact n3 a hi a (q2 j a hj).1 rfl
    |succ i =>cases j with|zero=>exact n3 a hj a (q2 i a hi).1 rfl|succ j=>exact m2 i j a (λe=>cJ (by rw[e])) hi hj
theorem Kn(q:RAn K B σ F H fs rs vs):∃L μ,Ok K F B H fs σ L/\Mu F H L μ/\(vs.map some).length=(rs.map AK).length/\∀(k:Nat)(i:Ini)(v:Option V),(rs.map AK)[k]?=some i->(vs.map some)[k]?=some v->Vk K F H σ i v (μ k):=by obtain⟨L,M,ok,q,nd,nf⟩:=q;obtain⟨μ,q1,q2,q3⟩:=q.toP;rw[qc]at nd;obtain⟨m1,m2⟩:=q3 nd.2.1;refine⟨L,μ,ok,⟨λk a m=>⟨(nf a (q2 k a m).1).1,(nf a (q2 k a m).1).2,λz=>nd.2.2 a z a (q2 k a m).1 rfl,(q2 k a m).2⟩,m1,m2⟩,by simp[q.len],λk i v e1 e2=>?_⟩;rw[qH,qw]at e1 e2;obtain⟨r,er,rfl⟩:=e1;obtain⟨u,eu,rfl⟩:=e2;obtain⟨u',e3,rr⟩:=q1 k r er;rw[eu]at e3;cases e3;cases r with|t t=>exact⟨u,rfl,rr.2⟩|nw o=>exact⟨u,rfl,rr⟩|n i=>exact rr.2
theorem RAn.len(q:RAn K B σ F H fs rs vs):vs.length=rs.length:=by obtain⟨L,M,ok,q,_⟩:=q;exact q.len
meta theorem QL(q:RAn K B σ F H fs rs vs)(s:sat Z B (RR K B σ) F H (QM Fn rs fs) Q):spF K rs.length Fn vs H Q E:=by
 unfold QM at s;split at s
 .rename_i nd;obtain⟨L9,μ,ok,cR,hl,hi⟩:=Kn q;obtain⟨Pp,p1,p2,p3,p4⟩:=lend ok hl hi nd cR;refine⟨q.len,⟨F.f,Pp⟩,Bx fs (rs.map AK),p2,?_⟩;split at s
  .rename_i t τ e;rw[e];split at s
   next ar eb=>intro F' H' u ax l k;obtain⟨Li,L',o1,⟨_,r⟩,_⟩:=k;obtain⟨le,L,o2,_⟩:=p4 F' H' τ ax Li ar l o1 eb;exact s ⟨F'.f,F.p⟩ H' u le (RR.of ⟨L,o2⟩ (AH.wp r))
   .exact s.elim
  .rename_i o τ e;rw[e];split at s
   .rename_i ar eb;intro F' H' u ax l k;obtain⟨Li,L',o1,r,nd,nf⟩:=k;obtain⟨le,L,o2,sub⟩:=p4 F' H' τ ax Li ar l o1 eb;refine s ⟨F'.f,F.p⟩ H' u le ⟨L,L',o2,AN.wp r,?_,λa m=>⟨(nf a m).1,λp=>(nf a m).2 (l.p a (p1 a p)).1⟩⟩;rw[qc]at nd ⊢;refine⟨o2.nd,nd.2.1,λa ha b hb e=>?_⟩;rcases sub a ha with z|z
    .exact nd.2.2 a z b hb e
    .exact(nf b hb).2 (l.p b (e▸z)).1
   .exact s.elim
  .exact s.elim
 .exact s.elim
variable{g:FS->Out (List Rv)}
theorem UO:FAn X Z [] Ag:=Kb Gm λσ H Q ⟨F,B,fs,⟨L,ok⟩,s⟩=>s F H [] Le.refl ⟨L,[],ok,⟨rfl,rfl⟩,by simpa using ok.nd,(λ_ m=>nomatch m)⟩
theorem PQ{Q}{r}{R2:Wd->Hp->FS->γ->δ->Prop}(q:RR K B σ F1 H1 af r u)(s1:sat Z B R2 F1 H1 ((g af).bind k) Q)
  (hk:∀rs ay F2 H2 us,Le F1 H1 F2 H2->RAn K B σ F2 H2 ay (r::rs) (u::us)->sat Z B R2 F2 H2 (k rs ay) Q->Q' us H2):tAn K Z g σ H1 Q':=by
 obtain⟨L,L1,o1,r1,nd,nf⟩:=q;have iM:=qc.mp nd;have lW:Le F1 H1 ⟨F1.f,λa=>F1.p a\/a∈L1⟩ H1:=⟨λa f=>⟨f,rfl⟩,λa f=>⟨.inl f,rfl⟩⟩
 refine⟨⟨F1.f,λa=>F1.p a\/a∈L1⟩,B,af,⟨L,o1.sl.le lW λ_ _=>rfl,o1.nd,o1.nf,o1.fd,o1.bo,λa p=>?_,λa f p=>?_,λa m p=>?_⟩,?_⟩
 .rcases p with p|p
  .exact o1.pd a p
  .exact r1.def a p
 .rcases p with p|p
  .exact o1.pf a f p
  .exact(nf a p).1 f
 .rcases p with p|p
  .exact o1.pl a m p
  .exact iM.2.2 a m a p rfl
 .cases eg:g af with
  |bad=>rwa[eg]at s1
  |exc c t=>rw[eg]at s1;exact Z.mono s1 lW
  |ok rs ay =>
   rw[eg]at s1;intro F2 H2 us l2 q2;obtain⟨L2,M2,o2,r2,gG,km⟩:=q2;have dR:Le F1 H1 ⟨F2.f,F1.p⟩ H2:=⟨λa f=>l2.f a f,λa f=>⟨f,(l2.p a (.inl f)).2⟩⟩
   have hp:∀a∈L1,F2.p a/\H2 a=H1 a:=λa m=>l2.p a (.inr m)
   have iK:=qc.mp gG;refine hk rs ay ⟨F2.f,F1.p⟩ H2 us dR ⟨L2,L1++M2,⟨Ap.wp o2.sl,o2.nd,o2.nf,o2.fd,o2.bo,λa f=>by rw[(dR.p a f).2];exact o1.pd a f,λa f p=>o2.pf a f (l2.p a (.inl p)).1,λa m p=>o2.pl a m (l2.p a (.inl p)).1⟩,⟨u,us,L1,M2,rfl,Oe.lf (F:=F1) (F':=⟨F2.f,F1.p⟩) (H:=H1) (H':=H2) (λa f=>l2.f a f) (λa m=>(hp a m).2) r1,En.lf (F:=F2) (F':=⟨F2.f,F1.p⟩) (λa f=>⟨f,rfl⟩) (λ_ _=>rfl) r2,rfl⟩,?_,λa m=>?_⟩ (sat.le s1 dR)
   .rw[qc];refine⟨o2.nd,?_,λa ha b hb e=>?_⟩
    .rw[qc];exact⟨iM.2.1,iK.2.1,λa ha b hb e=>(km b hb).2 (e▸(hp a ha).1)⟩
    .rcases qd.mp hb with hb|hb
     .exact o2.pl a ha (e▸(hp b hb).1)
     .exact iK.2.2 a ha b hb e
   .rcases qd.mp m with m|m
    .exact⟨λf=>o2.pf a f (hp a m).1,(nf a m).2⟩
    .exact⟨(km a m).1,λp=>(km a m).2 (l2.p a (.inl p)).1⟩
theorem Qq(ha:FE X Z e f)(hr:FAn X Z es g)(hs:starEach (e::es) X.env=(false,eval e X.env)::starEach es X.env:=by rfl):FAn X Z (e::es) (Ad f g) :=
 Kb (Cy ha hr hs) λσ H Q ⟨F,B,fs,ok,s⟩=>⟨F,B,fs,ok,Ar s λr af F1 H1 u l q s1=>PQ q s1 λrs ay F2 H2 us _ ra s2=>s2 F2 H2 (u::us) Le.refl ra⟩
variable{x m:Str}{k p:Nat}{ps:List Str}{pp:Pos}
def N4(p:Nat)(Fn:FS->Out Rv):List Rv->FS->Out Rv:=λrs fs=>if rs.length=p then QM Fn rs fs else .bad
def GW(C:Addr)(m:Str)(fs:FS):Rv->Bool
 |.t (.ins C' gs _)=>decide (C'=C)&&!gs.any (·==m)
 |.n i=>match AF fs i with|some (.ins C' gs _)=>decide (C'=C)&&!gs.any (·==m)|_=>false
 |_=>false
theorem H0{ag:List (Str×V)}(h:((ag.map (·.1)).any (·==m))=false):ag.lookup m=none:=by
 induction ag with
 |nil=>rfl
 |cons p r ih =>
  rw[qi,sI,Bool.or_eq_false_iff]at h;obtain⟨k,v⟩:=p;rw[qX];have:(m==k)=false:=by have h1:=h.1;rw[beq_eq_false_iff_ne]at h1 ⊢;exact λe=>h1 e.symm
  rw[this];exact ih h.2
meta theorem Km{r}(ok:Okk K F B H fs σ)(q:Cr K F H σ r u)(h:GW C m fs r=true):∃a dx ag,u=.ref a/\H a=some (.ins C dx ag)/\ag.lookup m=none:=by
 unfold GW at h;split at h
 next C' gs ts=>rw[qE]at h;have hC:=qG h.1;subst hC;obtain⟨a,dx,ag,rfl,f,hd,rfl,r⟩:=q;exact⟨a,dx,ag,rfl,hd,H0 (by simpa using h.2)⟩
 .rename_i i;split at h
  .rename_i C' gs os eo;rw[qE]at h;have hC:=qG h.1;subst hC;obtain⟨v,L2,e1,q2,_⟩:=ok.own eo;have e2:σ[i]?=some (some u):=q;rw[e1]at e2;have e3:v=u:=by simpa using e2
   subst e3;obtain⟨a,dx,ag,L',rfl,hd,rfl,_⟩:=q2;exact⟨a,dx,ag,rfl,hd,H0 (by simpa using h.2)⟩
  .cases h
 .cases h
def Ln(C:Addr)(m:Str)(p:Nat)(Fn:FS->Out Rv)(fo:FS->Out Rv)(fa:FS->Out (List Rv)):FS->Out Rv:=λfs=>(fo fs).bnd λx fs=>if GW C m fs x=true then(fa fs).bind λrs fs=>N4 p Fn (x::rs) fs else .bad
def GU(C:Addr)(p:Nat)(Fn:FS->Out Rv)(rs:List Rv)(fs:FS):Out Rv :=
 if(Dk fs (rs.map AK)).Nodup/\rs.length+1=p then(match Fn (some (.bor (.ins C [] []))::Bx fs (rs.map AK))with|.ok (.t .l) (some (.bor o)::τ)=>(match Dl (rs.map AK) τ fs with|some ar=>.ok (.nw o) ar|none=>.bad)|_=>.bad)else .bad
meta theorem Pz(q:RAn K B σ F H fs rs vs)(s:sat Z B (RR K B σ) F H (GU C p Fn rs fs) Q)
  {x dx:Addr} (hx:H x=none) (lb:H dx=none) (aI:dx≠x):spF K p Fn (.ref x::vs) (upd (upd H dx (.own x)) x (.ins C dx [])) (λv H2=>v=.l/\Q (.ref x) H2) E:=by
 unfold GU at s;split at s
 .rename_i hh;obtain⟨nd,hp⟩:=hh;obtain⟨L9,μ,ok,cR,hl,hi⟩:=Kn q;obtain⟨Pp,p1,⟨L0,p2⟩,p3,p4⟩:=lend ok hl hi nd cR;have l0:∀a,H a≠none->(upd (upd H dx (.own x)) x (.ins C dx [])) a=H a:=λa h=>by rw[Aj (λe=>h (by rw[e];exact hx)),Aj (λe=>h (by rwa[e]))]
  have gN:Le ⟨F.f,Pp⟩ H ⟨F.f,Pp⟩ (upd (upd H dx (.own x)) x (.ins C dx [])):=⟨λa f=>⟨f,l0 a (p2.fd a f)⟩,λa f=>⟨f,l0 a (p3 a f)⟩⟩
  refine⟨by rw[qL,q.len];exact hp,⟨F.f,Pp⟩,some (.bor (.ins C [] []))::Bx fs (rs.map AK),?_,?_⟩
  .refine⟨[x]++L0,Ap.cons ⟨.ref x,rfl,?_⟩ (p2.sl.le gN λa m=>l0 a (p2.sl.def a m)),?_,λa m=>?_,λa f=>?_,λi o e=>?_,λa f=>?_,p2.pf,λa m=>?_⟩
   .simp only[AN];exact⟨x,dx,[],[],rfl,Am,rfl,⟨rfl,rfl⟩,rfl⟩
   .rw[qc];exact⟨by simp,p2.nd,λa ha b hb e=>p2.sl.def b hb (by rwa[<- e,qj.mp ha])⟩
   .rcases qd.mp m with m|m
    .rw[qj.mp m];exact λf=>p2.fd x f hx
    .exact p2.nf a m
   .rw[l0 a (p2.fd a f)];exact p2.fd a f
   .cases i with|zero=>exact⟨.ref x,rfl,rfl⟩|succ i=>exact p2.bo i o (by simpa using e)
   .rw[l0 a (p3 a f)];exact p3 a f
   .rcases qd.mp m with m|m
    .rw[qj.mp m];exact λf=>p3 x f hx
    .exact p2.pl a m
  .split at s
   .rename_i o τ e;rw[e];split at s
    .rename_i ar eb;intro F' H' u ax l k;obtain⟨gY,L',o1,⟨_,r⟩,_⟩:=k;refine⟨r,?_⟩;obtain⟨v,cG,L1,L2,rfl,h1,h2,rfl⟩:=o1.sl.Ep;obtain⟨w,rfl,ro⟩:=h1;obtain⟨w',e3,e4⟩:=o1.bo 0 o rfl;have ew:w=.ref x:=by have z1:some (some w)=some (some w'):=e3;have z2:some (V.ref x)=some w':=e4;cases z1;cases z2;rfl
     subst ew;have bh:=qc.mp o1.nd;have l':Le ⟨F.f,Pp⟩ H F' H':=gN.trans l;obtain⟨le,L,o3,sub⟩:=p4 F' H' τ cG L2 ar l' (⟨h2,bh.2.1,λa m=>o1.nf a (qt _ m),o1.fd,λi ob eo=>by obtain⟨v,z1,z2⟩:=o1.bo (i+1) ob (by simpa using eo);exact⟨v,by simpa using z1,by have z3:(((V.ref x::vs).map some)[i+1]?).join=some v:=z2;simpa using z3⟩,o1.pd,o1.pf,λa m=>o1.pl a (qt _ m)⟩) eb;refine s ⟨F'.f,F.p⟩ H' (.ref x) le ⟨L,L1,o3,AN.wp ro,?_,λa m=>⟨o1.nf a (qk _ m),λp=>o1.pl a (qk _ m) (l'.p a (p1 a p)).1⟩⟩;rw[qc];refine⟨o3.nd,bh.1,λa ha b hb e=>?_⟩;rcases sub a ha with z|z
     .exact bh.2.2 b hb a z e.symm
     .exact o1.pl b (qk _ hb) (l'.p b (e▸z)).1
    .exact s.elim
   .exact s.elim
 .exact s.elim
def Bn(gt:T->FS->Option FS)(ft:FS->Out Bool)(fe:FS->Out Rv):List T->FS->List T->Option (List T×FS)
 | [],τ,av=>some (av,τ)
 |t::ts,τ,av=>match gt t τ with|none=>none|some τ=>match ft τ with|.ok true τ=>(match fe τ with|.ok (.t v) τ=>if av.length<big then Bn gt ft fe ts τ (av++[v])else none|_=>none)|.ok false τ=>Bn gt ft fe ts τ av|_=>none
def D5:FS->Out Bool:=λfs=>.ok true fs
def Bo(new:Bool)(src:List (Option Nat))(fi:FS->Out (List T))(gt:T->FS->Option FS)(ft:FS->Out Bool)(fe:FS->Out Rv):FS->Out Rv:=λfs=>(fi fs).bind λts fs =>if(Dk fs (src.map λo=>o.elim Ini.no Ini.slot)).Nodup/\(src.all λo=>o.elim true λj=>decide (j<fs.length))=true then(match Bn gt ft fe ts (Bx fs (src.map λo=>o.elim Ini.no Ini.slot)) []with|some (vs,τ)=>(match Dl (src.map λo=>o.elim Ini.no Ini.slot) τ fs with|some ar=>if new=true then .ok (.nw (.lst vs)) ar else .ok (.t (.lst vs)) ar|none=>.bad)|none=>.bad)else .bad
def FIf(X:Cx)(bA:List Expr)(ft:FS->Out Bool):Prop:=R7 X bA (tT X.K Xp.no ft)
theorem O9{e}(h:R7 X e t)(i:∀σ H Q,t' σ H Q->t σ H Q):R7 X e t':=λaa s σ H Q I q=>h aa s σ H Q I (i _ _ _ q)
theorem UB:FIf X [] D5:=O9 O8 λσ H Q ⟨F,B,fs,ok,s⟩=>s F H true Le.refl ⟨ok,rfl⟩
theorem UA(h:FT X Xp.no c ft):FIf X [c] ft:=O7 h
theorem Okk.hide{o}(h:Okk K F B H fs σ)(hp:H p=none):Okk K ⟨F.f,λa=>F.p a\/a=p⟩ B (upd H p o) fs σ:=by
 obtain⟨L,h⟩:=h;have l:Le F H ⟨F.f,λa=>F.p a\/a=p⟩ (upd H p o):=⟨λa f=>⟨f,Aj λe=>h.fd a f (e▸hp)⟩,λa f=>⟨.inl f,Aj λe=>h.pd a f (e▸hp)⟩⟩
 refine⟨L,h.sl.le l (h.T5 hp),h.nd,h.nf,λa q=>CU (h.fd a q),h.bo,λa q=>?_,λa f q=>?_,λa m q=>?_⟩
 .rcases q with q|q
  .exact CU (h.pd a q)
  .rw[q,Am];simp
 .rcases q with q|q
  .exact h.pf a f q
  .exact h.fd a f (q▸hp)
 .rcases q with q|q
  .exact h.pl a m q
  .exact h.sl.def a m (q▸hp)
theorem Okk.upP{o}(h:Okk K F B H fs σ)(hp:F.p p):Okk K F B (upd H p o) fs σ:=by
 obtain⟨L,h⟩:=h;have hf:∀a,F a->(upd H p o) a=H a:=λa f=>Aj λe=>h.pf a f (e▸hp)
 have l:Le ⟨F.f,λ_=>False⟩ H ⟨F.f,F.p⟩ (upd H p o):=⟨λa f=>⟨f,hf a f⟩,λa f=>f.elim⟩
 refine⟨L,(Ap.wp h.sl).le l λa m=>Aj λe=>h.pl a m (e▸hp),h.nd,h.nf,λa q=>CU (h.fd a q),h.bo,λa q=>CU (h.pd a q),h.pf,h.pl⟩
theorem Ah.upP{o}(h:Okk K F B H fs σ)(hp:F.p p)(r:Ah K F H ts vs):Ah K F (upd H p o) ts vs:=by
 obtain⟨L,h⟩:=h;have l:Le ⟨F.f,λ_=>False⟩ H ⟨F.f,F.p⟩ (upd H p o):=⟨λa f=>⟨f,Aj λe=>h.pf a f (e▸hp)⟩,λa f=>f.elim⟩
 exact Ah.le l (Ah.wp r)
variable{N:List Str}{sc:Scope}{bL:Expr}{bA:List Expr}{fi:FS->Out (List T)}{ft:FS->Out Bool}{fe:FS->Out Rv}
inductive CI(K:Fg)(W:Wd)(H1:Hp)(D:Addr)(Bc:Nat->Option V)(gt:T->FS->Option FS)(ft:FS->Out Bool)(fe:FS->Out Rv)(r:List T×FS)(l:List T)(bz:St)(H2:Hp):Prop
 |mk (F2:Wd) (τ:FS) (av:List T) (ys:List V) (l2:Le W H1 F2 H2) (pD:F2.p D) (aO:Okk K F2 Bc H2 τ bz) (dX:H2 D=some (.lst ys)) (bU:Ah K F2 H2 av ys) (ec:Bn gt ft fe l τ av=some r):CI K W H1 D Bc gt ft fe r l bz H2
theorem CI.put{l}{r}{y}(nP:¬W.p D)(iH:Le W H1 F6 H6)(p6:F6.p D)(o6:Ok K F6 Bc H6 gU bz L6)(iQ:Ah K F6 H6 av ys)(rv:AH K F6 H6 v y)
  (aU:Bn gt ft fe l gU (av++[v])=some r):CI K W H1 D Bc gt ft fe r l bz (upd H6 D (.lst (ys++[y]))) :=
 .mk F6 gU (av++[v]) (ys++[y]) ⟨λa f=>⟨(iH.f a f).1,by rw[Aj λe=>o6.pf a (iH.f a f).1 (by rw[e];exact p6)];exact(iH.f a f).2⟩,λa f=>⟨(iH.p a f).1,by rw[Aj λe=>nP (by rw[<- e];exact f)];exact(iH.p a f).2⟩⟩
  p6 (Okk.upP ⟨L6,o6⟩ p6) Am (Ah.upP ⟨L6,o6⟩ p6 (iQ.app (Ah.one rv))) aU
theorem CI.one{l}{r}(nP:¬W.p D)(jo:Le W H1 F5 H5)(p5:F5.p D)(jv:Okk K F5 Bc H5 cj bz)(nt:H5 D=some (.lst ys))(gg:Ah K F5 H5 av ys)
  (aU:(match fe cj with|.ok (.t v) τ=>if av.length<big then Bn gt ft fe l τ (av++[v])else none|_=>none)=some r) :
  tF K Xp.no fe bz H5 λy H6=>∃ys,H6 D=some (.lst ys)/\ys.length<sizeLine/\CI K W H1 D Bc gt ft fe r l bz (upd H6 D (.lst (ys++[y]))):=by
 refine⟨F5,Bc,cj,jv,?_⟩;cases ee:fe cj with
 |exc c gU=>rw[ee]at aU;cases aU
 |bad=>rw[ee]at aU;cases aU
 |ok w gU =>
  rw[ee]at aU;cases w with
  |nw o=>cases aU
  |n o=>cases aU
  |t v =>
   dsimp only at aU;by_cases hlen:av.length<big
   .rw[if_pos hlen]at aU;intro F6 H6 y l6 q6;obtain⟨L6,pE,o6,⟨_,rv⟩,_⟩:=q6;have p6:=l6.p D p5;exact⟨ys,p6.2.trans nt,by rw[gg.len];exact se hlen Fz,CI.put nP (jo.trans l6) p6.1 o6 (gg.le l6) rv aU⟩
   .rw[if_neg hlen]at aU;cases aU
theorem CI.turn{l}{r}{x}(nP:¬W.p D)(l2:Le W H1 F3 H3)(pD:F3.p D)(aO:Okk K F3 Bc H3 τ bz)(dX:H3 D=some (.lst ys))(bU:Ah K F3 H3 av ys)
  (aU:Bn gt ft fe (t::l) τ av=some r) (rx:AH K F3 H3 t x) :
  tG K gt x bz H3 λcj H4=>tT K Xp.no ft cj H4 λb H5=>if b=true then tF K Xp.no fe cj H5 λy H6=>∃ys,H6 D=some (.lst ys)/\ys.length<sizeLine/\CI K W H1 D Bc gt ft fe r l cj (upd H6 D (.lst (ys++[y])))else CI K W H1 D Bc gt ft fe r l cj H5:=by
 simp only[Bn]at aU;refine⟨F3,Bc,τ,t,aO,rx,?_⟩;cases eg:gt t τ with|none=>rw[eg]at aU;cases aU|some iY =>rw[eg]at aU;intro F4 H4 mK l4 gJ;refine⟨F4,Bc,iY,gJ,?_⟩;dsimp only at aU;cases et:ft iY with|exc c cj=>rw[et]at aU;cases aU|bad=>rw[et]at aU;cases aU|ok b cj =>rw[et]at aU;intro F5 H5 b' l5 q5;obtain⟨jv,rfl⟩:=q5;have p4:=l4.p D pD;have p5:=l5.p D p4.1;have h5:=(p5.2.trans p4.2).trans dX;have jo:=(l2.trans l4).trans l5;have r5:=(bU.le l4).le l5;cases b' with|false =>exact .mk F5 cj av ys jo p5.1 jv h5 r5 aU|true =>exact CI.one nP jo p5.1 jv h5 r5 aU
theorem Vd{src}(ok:Okk K F B H fs σ)(cH:(src.all λo=>o.elim true λj=>decide (j<fs.length))=true)(k:Nat)(i:Ini)(v:Option V)(e1:(src.map λo=>o.elim Ini.no Ini.slot)[k]?=some i)(e2:(EE σ src)[k]?=some v):Vk K F H σ i v []:=by unfold EE at e2;rw[qH,qw]at e1 e2;obtain⟨o,eo,rfl⟩:=e1;obtain⟨o',kP,rfl⟩:=e2;rw[eo]at kP;cases kP;cases o with|none=>exact trivial|some j =>show σ[j]?=some ((σ[j]?).join);rw[qb (by obtain⟨L1,o1⟩:=ok;rw[o1.sl.len];exact qG (qZ.mp cH _ (qV eo)))];rfl
theorem QB{F1 F2:Wd}(o3:Ok K ⟨F2.f,F1.p⟩ B H2 ar σ L)(dX:H2 D=some (.lst ys))(bU:Ah K F2 H2 av ys)(nL:D∉L)(nF:¬F2 D)(np:¬F1.p D):RR K B σ ⟨F2.f,F1.p⟩ H2 ar (.nw (.lst av)) (.ref D):=by
 refine⟨L,[D],o3,Cw dX (Ah.wp bU),?_,λa m=>?_⟩
 .rw[qc];exact⟨o3.nd,by simp,λa ha b hb e=>nL (by rwa[<- qj.mp hb,<- e])⟩
 .rw[qj.mp m];exact⟨nF,np⟩
theorem QA{F1 F2:Wd}(o3:Ok K ⟨F2.f,F1.p⟩ B H2 ar σ L)(dX:H2 D=some (.lst ys))(bU:Ah K F2 H2 av ys)(nL:D∉L)(np:¬F1.p D):RR K B σ (Hm ⟨F2.f,F1.p⟩ [D]) H2 ar (.t (.lst av)) (.ref D):=by
 have l3:Le ⟨F2.f,F1.p⟩ H2 (Hm ⟨F2.f,F1.p⟩ [D]) H2:=orF;refine RR.of ⟨L,?_⟩ ?_
 .refine⟨o3.sl.le l3 λ_ _=>rfl,o3.nd,λa m z=>?_,λa z=>?_,o3.bo,o3.pd,λa z=>?_,o3.pl⟩
  .rcases z with z|z
   .exact o3.nf a m z
   .exact nL (by rwa[<- qj.mp z])
  .rcases z with z|z
   .exact o3.fd a z
   .rw[qj.mp z,dX];simp
  .rcases z with z|z
   .exact o3.pf a z
   .rwa[qj.mp z]
 .simp only[Cr,AH];exact⟨D,ys,rfl,.inr (by simp),dX,Ah.le l3 (Ah.wp bU)⟩
meta theorem RV{src}(h:tF K Z (Bo new src fi gt ft fe) σ H Q):Sv src (tI K Z fi) (tG K gt) (tT K Xp.no ft) (tF K Xp.no fe) σ H Q:=by
 obtain⟨F,B,fs,ok,s⟩:=h;refine⟨F,B,fs,ok,Ar s λts af F1 H1 J l q s1=>?_⟩;obtain⟨az,jk⟩:=q;split at s1
 .rename_i lB;obtain⟨L9,oU⟩:=id az;obtain⟨Pp,p1,p2,p3,p4⟩:=lend (μ:=λ_=>[]) oU (by unfold EE;simp) (Vd az lB.2) lB.1 Mu.no;have jI:JOk K ⟨F1.f,Pp⟩ H1 J ts:=jk.within;split at s1
  .rename_i vs kI ec;split at s1
   .rename_i ar eb;intro D hD;have nP:=λz=>p3 D z hD
    refine⟨λi m bz H2=>m=ts.length-i/\CI K ⟨F1.f,Pp⟩ H1 D (Bof (EE σ src)) gt ft fe (vs,kI) (ts.drop i) bz H2,
     ⟨ts.length,rfl,.mk ⟨F1.f,λa=>Pp a\/a=D⟩ _ [] [] ⟨λa f=>⟨f,Aj λe=>p2.fd a f (e▸hD)⟩,λa f=>⟨.inl f,Aj λe=>nP (e▸f)⟩⟩ (.inr rfl) (p2.hide hD) Am rfl ec⟩,λi m bz H2 hc=>?_⟩
    obtain⟨rfl,F2,τ,av,ys,l2,pD,aO,dX,bU,aU⟩:=hc;by_cases aL:i<ts.length
    .have ei:=qb aL;rw[sU aL]at aU;obtain⟨j1,j2⟩:=(jI F2 H2 l2.f ⟨_,_,_,aO⟩ i).1 _ ei;refine .inr ⟨j1,CI K ⟨F1.f,Pp⟩ H1 D (Bof (EE σ src)) gt ft fe (vs,kI) (ts.drop (i+1)),λmJ H' h=>⟨ts.length-(i+1),by lia,rfl,h⟩,λx H3 hy=>?_⟩;obtain⟨F3,⟨jq,nw⟩,rx⟩:=j2 x H3 hy;exact CI.turn nP (l2.trans jq) (jq.p D pD).1 (nw _ _ _ aO) ((jq.p D pD).2.trans dX) (bU.le jq) aU rx
    .refine .inl ⟨(jI F2 H2 l2.f ⟨_,_,_,aO⟩ i).2 (by lia),?_⟩;rw[rZ (by lia)]at aU;cases (aU);obtain⟨Li,o2⟩:=aO;obtain⟨le,L,o3,sub⟩:=p4 F2 H2 kI bz Li ar l2 o2 eb;have nL:D∉L:=λm=>(sub D m).elim (λz=>o2.pl D z pD) nP
     have np:=λz=>nP (p1 D z)
     cases new with|true =>exact s1 ⟨F2.f,F1.p⟩ H2 (.ref D) le (QB o3 dX bU nL (λf=>o2.pf D f pD) np)|false =>exact s1 (Hm ⟨F2.f,F1.p⟩ [D]) H2 (.ref D) (le.trans orF) (QA o3 dX bU nL np)
   .exact s1.elim
  .exact s1.elim
 .exact s1.elim
theorem UM(new:Bool)(N:List Str)(src:List (Option Nat))(aN:X.calm=true)(hi:FI X Z tg aC fi)(hg:∀cl C s H fp,GT (Bg X N sc cl C s H fp) tg gt)(ht:∀cl C s H fp,FIf (Bg X N sc cl C s H fp) bA ft)
  (he:∀cl C s H fp,FE (Bg X N sc cl C s H fp) Xp.no bL fe) (hS:Ew X.env.scope sc=true:=by rfl) (aV:DG X.N sc N src=true:=by rfl)
  (hs:∀x,foldedSetIterable aC X.env x=pure x:=by intro _;rfl):FE X Z (.ListComp bL [⟨tg,aC,bA,0⟩] sc pos) (Bo new src fi gt ft fe) :=
 AE (Tb (g:=tG X.K gt) (tt:=tT X.K Xp.no ft) (te:=tF X.K Xp.no fe) N src aN hi hg ht he hS aV hs) λ_ _ _ h=>RV h
theorem Lx{X}{y}(new:Bool)(i:Nat)(N:List Str)(src:List (Option Nat))(aN:X.calm=true)(hN:X.N.Nodup)(hy:Loc X.env.scope y)(hi:FI X Z tg aC fi)(hg:∀cl C s H fp,GT (Bg X N sc cl C s H fp) tg gt)(ht:∀cl C s H fp,FIf (Bg X N sc cl C s H fp) bA ft)
  (he:∀cl C s H fp,FE (Bg X N sc cl C s H fp) Xp.no bL fe) (ia:X.N[i]?=some y:=by rfl) (hS:Ew X.env.scope sc=true:=by rfl) (aV:DG X.N sc N src=true:=by rfl)
  (hs:∀x,foldedSetIterable aC X.env x=pure x:=by intro _;rfl) (iy:swapsWith (.ListComp bL [⟨tg,aC,bA,0⟩] sc pos) (some (.Name y aR)) de.line X.env=pure true:=by rfl)
  (hf:X.fn y=true\/X.env.scope.names.lookup y=some .local:=by first|exact .inl rfl|exact .inr rfl|assumption) :
  GS X Z (.Assign [.Name y aR] (.ListComp bL [⟨tg,aC,bA,0⟩] sc pos) de) (Av i (Bo new src fi gt ft fe)) :=
 B8 (Lf (g:=tG X.K gt) (tt:=tT X.K Xp.no ft) (te:=tF X.K Xp.no fe) N src aN hN ia hy hi hg ht he hS aV hs iy hf) λ_ _ _ s=>RV (V9 s)
def orG(g g':Rv->Rv->FS->Out Rv):Rv->Rv->FS->Out Rv:=λx y fs=>match g x y fs with|.bad=>g' x y fs|o=>o
theorem OpF.or{g}{r}(h:OpF K Z r g)(h':OpF K Z r' g'):OpF K Z (orR r r') (orG g g'):=by intro F B H σ fs x y u w Q ok rx ry s;unfold orG at s;cases e:g x y fs with|ok a t=>rw[e]at s;exact .inl (h F B H σ fs x y u w Q ok rx ry (by rw[e];exact s))|exc c t=>rw[e]at s;exact .inl (h F B H σ fs x y u w Q ok rx ry (by rw[e];exact s))|bad=>rw[e]at s;exact .inr (h' F B H σ fs x y u w Q ok rx ry s)
def orC(g g':List Rv->FS->Out Rv):List Rv->FS->Out Rv:=λx fs=>match g x fs with|.bad=>g' x fs|o=>o
theorem Cs.or{g}{r'}{r}{g'}(h:Cs K Z r g)(h':Cs K Z r' g'):Cs K Z (Rj r r') (orC g g'):=by intro F B H σ fs x u Q ok rx s;unfold orC at s;cases e:g x fs with|ok a t=>rw[e]at s;exact .inl (h F B H σ fs x u Q ok rx (by rw[e];exact s))|exc c t=>rw[e]at s;exact .inl (h F B H σ fs x u Q ok rx (by rw[e];exact s))|bad=>rw[e]at s;exact .inr (h' F B H σ fs x u Q ok rx s)
def exL(fs:FS):Rv->Option (List T)
 |.t (.lst ts)=>some ts
 |.n i=>match AF fs i with|some (.lst ts)=>some ts|_=>none
 |_=>none
meta theorem RI{x}(h:Okk K F B H fs σ)(r:Cr K F H σ x u)(e:exL fs x=some ts):∃a vs,u=.ref a/\H a=some (.lst vs)/\Ah K F H ts vs:=by
 unfold exL at e;split at e
 .cases e;obtain⟨a,vs,e,f,s,q⟩:=r;exact⟨a,vs,e,s,q⟩
 .rename_i i;split at e
  .rename_i fL eo;cases e;obtain⟨v,L2,e1,q,_⟩:=h.own eo;have e2:σ[i]?=some (some u):=r;rw[e1]at e2;have e3:v=u:=by simpa using e2
   subst e3;obtain⟨a,vs,e,s,q,_⟩:=q;exact⟨a,vs,e,s,q⟩
  .cases e
 .cases e
def Lz:Rv->Rv->FS->Out Rv:=λx y fs=>match exL fs x,exL fs y with|some ts,some us=>if ts.length+us.length<=big then .ok (.nw (.lst (ts++us))) fs else .bad|_,_=>.bad
def Nk:Rv->Rv->FS->Out Rv
 |.t (.tup ts),.t (.tup us),fs=>if ts≠[]/\ts.length+us.length<=big then okT (.tup (ts++us)) fs else .bad
 |_,_,_=>.bad
meta theorem TJ:OpF K Z Jb1 Lz:=by
 intro F B H σ fs x y u w Q ok rx ry s;unfold Lz at s;split at s
 .rename_i ts us e1 e2;split at s
  next hl=>obtain⟨a,vs,rfl,hs,r⟩:=RI ok rx e1;obtain⟨b,ws,rfl,ba,r2⟩:=RI ok ry e2;exact⟨a,b,vs,ws,rfl,rfl,hs,ba,by rw[r.len,r2.len];exact qF hl CO,λp hp=>s F _ (.ref p) (AJ ok hp) (RR.alloc ok hp (Cw Am ((r.app r2).le (AJ ok hp))))⟩
  .exact s.elim
 .exact s.elim
meta theorem TH:OpF K Z (Wi K) Nk:=by
 intro F B H σ fs x y u w Q ok rx ry s;unfold Nk at s;split at s
 .rename_i ts us;split at s
  .rename_i hl;obtain⟨a,vs,rfl,hs,r⟩:=BP rx rfl;obtain⟨b,ws,rfl,ba,r2⟩:=BP ry rfl;refine⟨a,b,vs,ws,rfl,rfl,hs,ba,λz=>hl.1 ?_,by rw[r.len,r2.len];exact qF hl.2 CO,λz=>?_,λ_ p hp=>s _ _ (.ref p) (AA ok hp) (Df ok hp (r.app r2))⟩
   .have:=r.len;rw[z]at this;exact rF this.symm
   .have e:=by have:=r2.len;rw[z]at this;exact rF this.symm
    subst e;rw[qS]at s;exact s F H _ Le.refl (RR.of ok rx)
  .exact s.elim
 .exact s.elim
def Nj:Rv->Rv->FS->Out Rv
 |.t (.tup []),.t (.tup us),fs=>okT (.tup us) fs
 |_,_,_=>.bad
meta theorem Pk:OpF K Z (Q6 K) Nj:=by
 intro F B H σ fs x y u w Q ok rx ry s;unfold Nj at s;split at s
 next us=>obtain⟨a,vs,rfl,hs,r⟩:=BP rx rfl;obtain⟨b,ws,rfl,ba,r2⟩:=BP ry rfl;subst(by simpa using r);exact⟨a,b,ws,rfl,rfl,hs,ba,s F H _ Le.refl (RR.of ok ry)⟩
 .exact s.elim
meta theorem TC:OpF K Z Wh JG:=by
 intro F B H σ fs x y u w Q ok rx ry s;unfold JG at s;split at s
 .split at s
  .rename_i t e;obtain⟨a,o',rfl,hd,h⟩:=NN ok rx ry e;rcases h with⟨h1,_⟩|⟨t',v,h1,h2,h3⟩
   .cases h1
   .cases h1;subst h2;exact⟨a,v,rfl,hd,s F H v Le.refl (RR.of ok h3)⟩
  .exact s.elim
 .exact s.elim
meta theorem MH(neg:Bool):OpF K Z (Jav neg) (Ut neg):=by
 intro F B H σ fs y x w u Q ok ry rx s;unfold Ut at s;split at s
 .split at s
  .rename_i t e;obtain⟨a,o',rfl,hd,h⟩:=NN ok rx ry e;refine⟨a,o',rfl,hd,?_⟩;have:o'.isSome=t.isSome:=by
    rcases h with⟨h1,h2⟩|⟨t',v,h1,h2,h3⟩
    .rw[h1,h2];rfl
    .rw[h1,h2];rfl
   rw[this];exact s F H _ Le.refl (RR.of ok rfl)
  .exact s.elim
 .exact s.elim
def Ao:=orG Jbj (orG Qf (orG Lz (orG Nk Nj)))
def Bi:=orG XU Up
def Az:=orG gIx JG
def CS(neg:Bool):=orG (Ut neg) (orG (Io neg) (gIn neg))
def Qd:List Rv->FS->Out Rv
 | [.t (.o ks _)],fs=>okT (.int ks.length) fs
 | [.n i],fs=>match AF fs i with|some (.o ks _)=>okT (.int ks.length) fs|_=>.bad
 |_,_=>.bad
def Ax:=orC Jbf (orC Nh Qd)
def Bf:=orC Uq Ng
meta theorem U9:Cs K Z (λxs H Q=>∃a ag,xs=[V.ref a]/\Rd H a (.o ag)/\Q (.int ag.length) H) Qd:=by
 intro F B H σ fs rs vs Q ok q s;unfold Qd at s;split at s
 .obtain⟨v,rfl,qq⟩:=A3 q;have q:=qq;obtain⟨a,ag,rfl,f,hd,rfl,r⟩:=q;rw[qe]at s;exact⟨a,ag,rfl,hd,s F H _ Le.refl (RR.of ok rfl)⟩
 .rename_i i;obtain⟨v,rfl,qq⟩:=A3 q;split at s
  .rename_i eo;obtain⟨v',L2,e1,q2,_⟩:=ok.own eo;have e2:σ[i]?=some (some v):=qq;rw[e1]at e2;have e3:=by simpa using e2
   subst e3;obtain⟨a,ag,rfl,hd,rfl,_⟩:=q2;rw[qe]at s;exact⟨a,ag,rfl,.inl hd,s F H _ Le.refl (RR.of ok rfl)⟩
  .exact s.elim
 .exact s.elim
variable{fa:FS->Out Rv}
theorem YE(ha:FE X Z a fa)(hb:FE X Z b fb):FE X Z (.BinOp a .Add b pos) (Ae Ao fa fb) :=
 Ir (OpF.or Xf (OpF.or TK (OpF.or TJ (OpF.or TH Pk)))) (OpR.orR W6 (OpR.orR Ll (OpR.orR W5 (OpR.orR To Pj)))) ha hb
theorem Yc(ha:FE X Z a fa)(hb:FE X Z b fb):FE X Z (.BinOp a .Sub b pos) (Ae Ik fa fb):=Ir W9 WX ha hb
theorem Yj(ha:FE X Z a fa)(hb:FE X Z b fb):FE X Z (.BinOp a .Mult b pos) (Ae Bi fa fb):=Ir (OpF.or Xb Tv) (OpR.orR Th ME) ha hb
theorem Yl(ha:FE X Z a fa)(hb:FE X Z b fb):FE X Z (.BinOp a .Mod b pos) (Ae BD fa fb):=Ir Xc WZ ha hb
theorem Yy(ha:FE X Z a fa)(hb:FE X Z b fb):FE X Z (.BinOp a .FloorDiv b pos) (Ae C0 fa fb):=Ir Xe Tj ha hb
theorem Jbs(hu:X.A.units+1<cLine)(ha:FE X Z a fa)(hb:FE X Z b fb)(hs:JV b):FE X Z (.Subscript a b pos) (Ae Az fa fb):=Jby (OpF.or JaS TC) (IxR.orR XA (Ua hu)) ha hb hs
theorem JbD(ha:FE X Z a fa)(hb:FE X Z b fb):FE X Z (.Compare a [.Eq] [b] pos) (Ae (gEq false) fa fb):=Iu of_eq W4 ha hb (CY _)
theorem Jbq(ha:FE X Z a fa)(hb:FE X Z b fb):FT X Z (.Compare a [.Eq] [b] pos) (asB (Ae (gEq false) fa fb)):=Dq of_eq W4 ha hb (CY _)
theorem Jbl(ha:FE X Z a fa)(hb:FE X Z b fb):FT X Z (.Compare a [.NotEq] [b] pos) (asB (Ae (gEq true) fa fb)):=Dq JaR JaP ha hb (CY _)
theorem Jbm(ha:FE X Z a fa)(hb:FE X Z b fb):FT X Z (.Compare a [.Lt] [b] pos) (asB (Ae gLt fa fb)):=Dq of_lt W0 ha hb (CY _)
theorem Jbn(ha:FE X Z a fa)(hb:FE X Z b fb):FT X Z (.Compare a [.LtE] [b] pos) (asB (Ae gLe fa fb)):=Dq of_le Ti ha hb (CY _)
theorem Jbp(ha:FE X Z a fa)(hb:FE X Z b fb):FT X Z (.Compare a [.Gt] [b] pos) (asB (Ae gGt fa fb)):=Dq Xd W3 ha hb (CY _)
theorem Jbw(ha:FE X Z a fa)(hb:FE X Z b fb):FE X Z (.Compare a [.Lt] [b] pos) (Ae gLt fa fb):=Iu of_lt W0 ha hb (CY _)
theorem JbA(ha:FE X Z a fa)(hb:FE X Z b fb):FE X Z (.Compare a [.Gt] [b] pos) (Ae gGt fa fb):=Iu Xd W3 ha hb (CY _)
theorem Jbz(hu:X.A.units+1<cLine)(ha:FE X Z a fa)(hb:FE X Z b fb)(hm:behindInMarks .In b=false:=by rfl):FE X Z (.Compare a [.In] [b] pos) (Ae (CS false) fa fb) :=
 Iu (OpF.or (MH false) (OpF.or Ke (Tw false))) (OpR.orR (Rl hu) (OpR.orR HV HW)) ha hb hm
theorem Jbo(hu:X.A.units+1<cLine)(ha:FE X Z a fa)(hb:FE X Z b fb)(hm:behindInMarks .In b=false:=by rfl):FT X Z (.Compare a [.In] [b] pos) (asB (Ae (CS false) fa fb)) :=
 Dq (OpF.or (MH false) (OpF.or Ke (Tw false))) (OpR.orR (Rl hu) (OpR.orR HV HW)) ha hb hm
theorem Qh(hu:X.A.units+1<cLine)(ha:FE X Z a fa)(hb:FE X Z b fb)(hm:behindInMarks .NotIn b=false:=by rfl):FT X Z (.Compare a [.NotIn] [b] pos) (asB (Ae (CS true) fa fb)) :=
 Dq (OpF.or (MH true) (OpF.or Jm (Tw true))) (OpR.orR (MF hu) (OpR.orR HR HS)) ha hb hm
def itU(f:FS->Out Rv):FS->Out (List T):=λfs=>(f fs).bnd λr fs=>match r with|.t (.lst ts)=>.ok ts fs|.t (.z0 ts)=>.ok ts fs|.t (.tup ts)=>.ok ts fs|.t (.str z)=>.ok (signs z) fs|_=>.bad
theorem X9(hl:FE X Z l f):FI X Z tg l (itU f):=by
 refine HN (WB hl) λσ H Q ao => ?_
 obtain⟨F,B,fs,ok,s⟩:= ao;refine⟨F,B,fs,ok,Aq s λr af F1 H1 u l az rx s1=>?_⟩;split at s1
 next ts=>obtain⟨a,vs,rfl,ff,hs,r⟩:=rx;exact .inl ⟨a,rfl,⟨vs,SqL.of hs⟩,s1 F1 H1 _ Le.refl ⟨az,Kj (λF' H' l=>SqL.of ((l a ff).2.trans hs)) r⟩⟩
 next ts=>obtain⟨a,vs,rfl,hs,r⟩:=rx;exact .inl ⟨a,rfl,⟨vs,hs.sq⟩,s1 F1 H1 _ Le.refl ⟨az,Kj (λF' H' l=>(StL.lf l hs).sq) r⟩⟩
 next ts=>obtain⟨a,vs,rfl,hs,r⟩:=rx;exact .inr (.inl ⟨a,rfl,⟨vs,hs.sq⟩,s1 F1 H1 _ Le.refl ⟨az,T7 (λF' H' l=>SqT.of ((l a hs.2.1).2.trans hs.2.2)) r⟩⟩)
 next z=>exact .inr (.inr ⟨z,rx,s1 F1 H1 _ Le.refl ⟨az,T8⟩⟩)
 .exact s1.elim
def Qa:Rv->Rv->Rv->FS->SO
 |.n i,.t (.int k),.t t,fs=>match AF fs i with
  |some (.lst ts)=>match ixN ts.length k with|some j=>.nx (putAt fs i (.lst (ts.set j t)))|none=>.bad
  |_=>.bad
 |_,_,_,_=>.bad
def Nc:Rv->Rv->Rv->FS->SO
 |.n i,.t y,.t t,fs=>match AF fs i with
  |some (.o ks ts)=>match FN y with|some k=>if ks.length<big then .nx (putAt fs i (.o (D8 ks ts k t).1 (D8 ks ts k t).2))else .bad|none=>.bad
  |some (.dT ks ts)=>match y with
   |.tup ys=>match FU ys with|some k=>if ks.length<big then .nx (putAt fs i (.dT (D8 ks ts k t).1 (D8 ks ts k t).2))else .bad|none=>.bad
   |_=>.bad
  |_=>.bad
 |_,_,_,_=>.bad
def Uo:Rv->Rv->Rv->FS->SO:=λo i v fs=>match Qa o i v fs with|.bad=>Nc o i v fs|s=>s
def Cm(fv fo fi:FS->Out Rv):FS->SO:=λfs=>SO.of ((fv fs).bnd λv fs=>(fo fs).bnd λo fs=>(fi fs).bnd λi fs=>.ok (v,o,i) fs) λ(v,o,i) fs=>Uo o i v fs
variable{D:Ends}
meta theorem P9{i}{o}(ok:Okk K F B H fs σ)(ro:Cr K F H σ o uo)(ri:Cr K F H σ i ui)(rv:Cr K F H σ v uv)(s:Gf K Z B F H (Qa o i v fs) D):SJ uo ui uv H (λH3=>D.nx σ H3):=by
 unfold Qa at s;split at s
 .rename_i i k t;split at s
  .rename_i ts e;split at s
   next j ej=>obtain⟨a,us,rfl,hs,r,kk⟩:=ok.list ro e;obtain⟨cU,l⟩:=kk (ts.set j t) (us.set j uv) (Ah.set rv j r);exact⟨a,us,k,j,rfl,ri,hs,by rw[r.len];exact ej,s F _ σ l cU⟩
   .exact s.elim
  .exact s.elim
 .exact s.elim
meta theorem Qb{i}{o}(ok:Okk K F B H fs σ)(ro:Cr K F H σ o uo)(ri:Cr K F H σ i ui)(rv:Cr K F H σ v uv)(s:Gf K Z B F H (Nc o i v fs) D):SK uo ui uv H (λH3=>D.nx σ H3):=by
 unfold Nc at s;split at s
 .rename_i i y t;split at s
  .rename_i ks ts e;split at s
   .rename_i k ek;split at s
    .rename_i hl;obtain⟨v,L2,e1,q,nf,_,kk⟩:=ok.own e;have e2:σ[i]?=some (some uo):=ro;rw[e1]at e2;have e3:=by simpa using e2
     subst e3;obtain⟨a,ag,rfl,hs,rfl,q,rfl⟩:=q;have:=Ct ek ri;subst this;refine⟨a,_,rfl,LO.k hs (by rw[qe]at hl;exact se hl Fz),?_⟩;obtain⟨h1,h2⟩:=EI rv q;have l:Le F H F (upd H a (.o (putK ag k uv))):=⟨λb f=>⟨f,Aj λz=>(nf a (by simp)).1 (z▸f)⟩,λb f=>⟨f,Aj λz=>(nf a (by simp)).2 (z▸f)⟩⟩
     obtain⟨cU,l'⟩:=kk (.o (D8 (ag.map (·.1)) ts k t).1 (D8 (ag.map (·.1)) ts k t).2) (upd H a (.o (putK ag k uv))) (λb hb _=>Aj (by simpa using hb)) (by exact⟨a,_,rfl,Am,h1,h2.le l,rfl⟩);exact s F _ σ l' cU
    .exact s.elim
   .exact s.elim
  .rename_i ks ts e;split at s
   .rename_i ys;split at s
    .rename_i k ek;split at s
     .rename_i hl;obtain⟨v,L2,e1,q,nf,_,kk⟩:=ok.own e;have e2:σ[i]?=some (some uo):=ro;rw[e1]at e2;have e3:v=uo:=by simpa using e2
      subst e3;obtain⟨a,ag,rfl,hs,rfl,q,rfl⟩:=q;obtain⟨b,vs,rfl,hb,rb⟩:=ri;have:=DN ek rb;subst this;refine⟨a,_,rfl,LO.t hs hb.2.2 (by rw[qe]at hl;exact se hl Fz),?_⟩;obtain⟨h1,h2⟩:=EI rv q;have l:Le F H F (upd H a (.dT (putK ag k uv))):=⟨λb f=>⟨f,Aj λz=>(nf a (by simp)).1 (z▸f)⟩,λb f=>⟨f,Aj λz=>(nf a (by simp)).2 (z▸f)⟩⟩
      obtain⟨cU,l'⟩:=kk (.dT (D8 (ag.map (·.1)) ts k t).1 (D8 (ag.map (·.1)) ts k t).2) (upd H a (.dT (putK ag k uv))) (λb hb _=>Aj (by simpa using hb)) (by exact⟨a,_,rfl,Am,h1,h2.le l,rfl⟩);exact s F _ σ l' cU
     .exact s.elim
    .exact s.elim
   .exact s.elim
  .exact s.elim
 .exact s.elim
theorem PZ{fi}(hu:X.A.units+1<cLine)(he:FE X Z e fv)(ho:FE X Z o fo)(hi:FE X Z i fi)
  (h:∀{te to ti:TE}{t:Zb},PE X e te->PE X o to->PE X i ti->QT X t->PS X (.Assign [.Subscript o i bV] e pos) (V3 te (Jb7 to ti t))):GS X Z (.Assign [.Subscript o i bV] e pos) (Cm fv fo fi):=by
 refine B8 (h he ho hi (QT.orR set_list (set_dict hu))) λD σ H ao=>?_
 obtain⟨F,B,fs,ok,s⟩:= ao;exact⟨F,B,fs,ok,(by
  have s1:=B0 (R:=λF' H' ar (a:Rv×Rv×Rv) (b:V×V×V)=>Okk X.K F' B H' ar σ/\Cr X.K F' H' σ a.1 b.1/\Cr X.K F' H' σ a.2.1 b.2.1/\Cr X.K F' H' σ a.2.2 b.2.2) (Q:=λb H3=>WW SJ SK b.2.1 b.2.2 b.1 H3 λH4=>D.nx σ H4) s (λa ar F' H' b l q s2=>by
   obtain⟨q1,q2,q3,q4⟩:=q;dsimp only at s2 q2 q3 q4 ⊢;unfold Uo at s2;split at s2
   .exact .inr (Qb q1 q3 q4 q2 s2)
   .exact .inl (P9 q1 q3 q4 q2 s2))
  refine Aq s1 λv af F1 H1 uv l1 az rv s2=>?_
  refine⟨F1,B,af,az,Aq s2 λo ay F2 H2 uo l2 aO ro s3=>⟨F2,B,ay,aO,Aq s3 λi bQ F3 H3 ui l3 cV ri s4=>?_⟩⟩;exact s4 F3 H3 (uv,uo,ui) Le.refl ⟨cV,(rv.le l2).le l3,ro.le l3,ri⟩)⟩
theorem P1:GS X Z st (λ_=>.bad):=B8 O2 λD σ H ⟨F,B,fs,ok,s⟩=>s.elim
variable{i:Nat}{r:Rv}
meta theorem RR.put(h:RR K B σ F H fs r u)(e:AF fs i=some ob):∃v L2 L',σ[i]?=some (some v)/\AN K F H ob v L2/\Oe K F H σ r u L'/\(L2++L').Nodup/\(∀a∈L2++L',¬F a/\¬F.p a) /\
  ∀bG H' M,(∀a,a∉L2->H a≠none->H' a=H a)->AN K F H' bG v M->M.Nodup->(∀b∈M,b∈L2\/b∈L')->Okk K F B H' (putAt fs i bG) σ/\Le F H F H':=by
 obtain⟨L,L',h,qr,oP,mn⟩:=h;have key:∀s:Sl,fs[i]?=some (some s)->(s=.own ob\/s=.bor ob)->∃v L2 L',σ[i]?=some (some v)/\AN K F H ob v L2/\Oe K F H σ r u L'/\(L2++L').Nodup/\(∀a∈L2++L',¬F a/\¬F.p a) /\
  ∀bG H' M,(∀a,a∉L2->H a≠none->H' a=H a)->AN K F H' bG v M->M.Nodup->(∀b∈M,b∈L2\/b∈L')->Okk K F B H' (fs.set i (some (s.put bG))) σ/\Le F H F H':=by
  intro s es ho;obtain⟨v,L1,L2,L3,e1,rfl,h1,h2⟩:=h.sl.pick es;obtain⟨u',rfl,q⟩:∃u,v=some u/\AN K F H ob u L2:=by
   rcases ho with rfl|rfl
   .exact h1
   .exact h1
  have nd:=h.nd;have dW:∀a∈L1++L3,a∉L2:=λa ha hb=>by
   rw[qc]at nd;rcases qd.mp ha with ha|ha
   .exact nd.2.2 a ha a (qk _ hb) rfl
   .have:=(qc.mp nd.2.1).2.2;exact this a hb a ha rfl
  have gH:=qc.mp oP;refine⟨u',L2,L',e1,q,qr,?_,λa m=>?_,λbG H' M k q' hm eN=>?_⟩
  .rw[qc];refine⟨?_,gH.2.1,λa ha b hb=>gH.2.2 a (by simp[ha]) b hb⟩;rw[qc]at nd;exact(qc.mp nd.2.1).1
  .rcases qd.mp m with m|m
   .exact⟨h.nf a (by simp[m]),h.pl a (by simp[m])⟩
   .exact mn a m
  .have l:Le F H F H':=⟨λa f=>⟨f,k a (λm=>h.nf a (by simp[m]) f) (h.fd a f)⟩,λa f=>⟨f,k a (λm=>h.pl a (by simp[m]) f) (h.pd a f)⟩⟩
   have mi:∀a∈L1++(M++L3),¬F a/\¬F.p a:=λa m=>by
    rcases qd.mp m with m|m
    .exact⟨h.nf a (by simp[m]),h.pl a (by simp[m])⟩
    .rcases qd.mp m with m|m
     .rcases eN a m with z|z
      .exact⟨h.nf a (by simp[z]),h.pl a (by simp[z])⟩
      .exact mn a z
     .exact⟨h.nf a (by simp[m]),h.pl a (by simp[m])⟩
   refine⟨⟨L1++(M++L3),?_,BB nd hm (λa m m2=>?_),λa m=>(mi a m).1,λa f=>by rw[(l.f a f).2];exact h.fd a f,?_,λa f=>by rw[(l.p a f).2];exact h.pd a f,h.pf,λa m=>(mi a m).2⟩,l⟩
   .have hL:∀a∈L1++L3,H' a=H a:=λa m=>k a (dW a m) (h.sl.def a (by
      rcases qd.mp m with m|m
      .simp[m]
      .simp[m]))
    have h3:=h2 F H' (some (s.put bG)) (some u') M l hL (by
     rcases ho with rfl|rfl
     .exact⟨u',rfl,q'⟩
     .exact⟨u',rfl,q'⟩)
    rwa[AZ e1]at h3
   .rcases eN a m with z|z
    .exact dW a m2 z
    .exact(λa ha hb=>gH.2.2 a (by
   rcases qd.mp ha with ha|ha
   .simp[ha]
   .simp[ha]) a hb rfl) a m2 z
   .have:=Eo.put (s:=some (s.put bG)) h.bo (λo eo=>by
     rcases ho with rfl|rfl
     .cases eo
     .obtain⟨w,e3,e4⟩:=h.bo i ob es;rw[e1]at e3;have e5:u'=w:=by simpa using e3
      exact⟨u',rfl,by rwa[e5]⟩) h.sl.len
    rwa[AZ e1]at this
 unfold AF at e;split at e
 next o es=>cases e;obtain⟨v,L2,L',a1,a2,a3,a4,a5,a6⟩:=key _ es (.inl rfl);refine⟨v,L2,L',a1,a2,a3,a4,a5,λbG H' M k q m1 m2=>?_⟩;have:=a6 bG H' M k q m1 m2;unfold putAt;rwa[es]
 next o es=>cases e;obtain⟨v,L2,L',a1,a2,a3,a4,a5,a6⟩:=key _ es (.inr rfl);refine⟨v,L2,L',a1,a2,a3,a4,a5,λbG H' M k q m1 m2=>?_⟩;have:=a6 bG H' M k q m1 m2;unfold putAt;rwa[es]
 .cases e
def JbQ:Rv->Option FO
 |.t t=>some (.val t)
 |.nw o=>some o
 |.n _=>none
def HJ:List Str->List FO->Str->FO->Option (List Str×List FO)
 | [],[],f,o=>some ([f],[o])
 |g::gs,x::os,f,o=>if g=f then(match x with|.val _=>some (g::gs,o::os)|_=>none)else(HJ gs os f o).map λp=>(g::p.1,x::p.2)
 |_,_,_,_=>none
theorem HH{f}{o}{y}(ro:AN K F H o y L'):∀{ag:List (Str×V)}{os dy:List FO}{i8:List Str}{L:List Addr},Ay K F H os (ag.map (·.2)) L->HJ (ag.map (·.1)) os f o=some (i8,dy) ->
  ∃M,(EJ f y ag).map (·.1)=i8/\Ay K F H dy ((EJ f y ag).map (·.2)) M/\(∀a∈M,a∈L\/a∈L')/\((L++L').Nodup->M.Nodup)
 | [],os,dy,i8,L,r,e=>by cases os with|cons x os=>simp[HJ]at e|nil =>obtain⟨rfl,rfl⟩:=e;refine⟨L',rfl,?_,λa m=>.inr m,λnd=>(qc.mp nd).2.1⟩;exact⟨y,[],L',[],rfl,ro,⟨rfl,rfl⟩,by simp⟩
 |(g,x)::ag,os,dy,i8,L,r,e=>by
  cases os with
  |nil=>simp[HJ]at e
  |cons o1 os =>
   obtain⟨v,w,L1,L2,ee,r1,r2,rfl⟩:=r;cases ee;simp only[qi,HJ]at e;by_cases hg:g=f
   .rw[if_pos hg]at e;cases o1 with
    |val t =>
     obtain⟨rfl,rfl⟩:=e;obtain⟨rfl,_⟩:=r1;refine⟨L'++L2,?_,?_,λa m=>?_,λnd=>?_⟩
     .simp only[EJ];rw[if_pos hg];rfl
     .simp only[EJ];rw[if_pos hg];exact⟨y,_,L',L2,rfl,ro,r2,rfl⟩
     .rcases qd.mp m with m|m
      .exact .inr m
      .exact .inl (by simpa using m)
     .rw[sQ]at nd;exact(List.perm_append_comm).nodup_iff.mp nd
    |lst _=>cases e
    |o _ _=>cases e
    |dT _ _=>cases e
    |ins _ _ _=>cases e
    |yZ _=>cases e
    |yY _=>cases e
    |dO _ _=>cases e
    |la _ _=>cases e
   .rw[if_neg hg,qw]at e;obtain⟨p,ep,e⟩:=e;obtain⟨rfl,rfl⟩:=e;obtain⟨M,m1,m2,m3,m4⟩:=HH ro r2 (by rw[ep]);refine⟨L1++M,?_,?_,λa m=>?_,λnd=>?_⟩
    .simp only[EJ];rw[if_neg hg,qi,m1]
    .simp only[EJ];rw[if_neg hg];exact⟨x,_,L1,M,rfl,r1,m2,rfl⟩
    .rcases qd.mp m with m|m
     .exact .inl (qk _ m)
     .rcases m3 a m with z|z
      .exact .inl (qt _ z)
      .exact .inr z
    .rw[qU,qc]at nd;rw[qc];refine⟨nd.1,m4 nd.2.1,λa ha b hb e=>?_⟩;rcases m3 b hb with z|z
     .exact nd.2.2 a ha b (qk _ z) e
     .exact nd.2.2 a ha b (qt _ z) e
def Iq(C:Addr)(f:Str)(i:Nat)(fv:FS->Out Rv):FS->SO:=λfs=>SO.of (fv fs) λr fs=>match JbQ r,AF fs i with|some o,some (.ins C' gs os)=>if C'=C/\gs.length<900 then(match HJ gs os f o with|some p=>.nx (putAt fs i (.ins C p.1 p.2))|none=>.bad)else .bad|_,_=>.bad
meta theorem XO{f}(c:Cls X.K C)(n:A8 X.K C f)(i:Nat)(he:FE X Z e fv)
  (h:∀{tv:TE},PE X e tv->PS X (.Assign [.Attribute (.Name x p1) f p2] e pos) (JbX X.K (Oh i) tv f)):GS X Z (.Assign [.Attribute (.Name x p1) f p2] e pos) (Iq C f i fv):=by
 refine B8 (h he) λD σ H ao => ?_
 obtain⟨F,B,fs,ok,s⟩:= ao;refine⟨F,B,fs,ok,B0 s λr af F1 H1 u l q s1=>?_⟩;split at s1
 .rename_i o C' gs os e1 e2;split at s1
  .rename_i hC;obtain⟨rfl,hl⟩:=hC;split at s1
   .rename_i p ep;obtain⟨v,L2,L',a1,a2,a3,a4,a5,a6⟩:=RR.put q e2;obtain⟨a,dx,ag,L3,rfl,hd,rfl,ro,rfl⟩:=a2;have o5:AN X.K F1 H1 o u L':=by cases r with|t t =>cases e1;exact a3|nw o'=>cases e1;exact a3|n j=>cases e1
    obtain⟨M,m1,m2,m3,m4⟩:=HH o5 ro (by rw[ep]);have md:a∉M:=λz=>((qR.mp a4).1) (by
     rcases m3 a z with z|z
     .exact qk _ z
     .exact qt _ z)
    have l1:Le F1 H1 F1 (upd H1 a (.ins C' dx (EJ f u ag))):=⟨λb f=>⟨f,Aj λz=>(a5 a (by simp)).1 (z▸f)⟩,λb f=>⟨f,Aj λz=>(a5 a (by simp)).2 (z▸f)⟩⟩
    obtain⟨cU,l'⟩:=a6 (.ins C' p.1 p.2) (upd H1 a (.ins C' dx (EJ f u ag))) (a::M) (λb hb _=>Aj λz=>hb (by rw[z];simp)) (by
     exact⟨a,dx,_,M,rfl,Am,m1,Ay.le l1 (λb hb=>Aj λz=>md (z▸hb)) m2,rfl⟩) (qR.mpr ⟨md,m4 ((qR.mp a4).2)⟩) (λb hb=>by
     rcases qA.mp hb with z|z
     .exact .inl (by rw[z];simp)
     .rcases m3 b z with z|z
      .exact .inl (qf _ z)
      .exact .inr z)
    exact⟨_,a1,a,C',dx,ag,rfl,hd,c,n,by rw[qe]at hl;lia,s1 F1 _ σ l' cU⟩
   .exact s1.elim
  .exact s1.elim
 .exact s1.elim
def BZ:List Str->List FO->Str->FO->List FO
 |g::gs,x::os,f,o=>if f==g then o::os else x::BZ gs os f o
 |_,os,_,_=>os
theorem HC{f}:∀{ag:List (Str×V)}{os:List FO}{L:List Addr},Ay K F H os (ag.map (·.2)) L->L.Nodup->Bw (ag.map (·.1)) os f=some (.o ks ts) ->
  ∃b aH,ag.lookup f=some (.ref b)/\b∈L/\H b=some (.o aH)/\aH.map (·.1)=ks/\Ah K F H ts (aH.map (·.2)) /\
   ∀H' o',(∀a∈L,a≠b->H' a=H a)->Le F H F H'->AN K F H' o' (.ref b) [b]->Ay K F H' (BZ (ag.map (·.1)) os f o') (ag.map (·.2)) L
 | [],os,L,r,nd,e=>by cases os<;>simp[Bw]at e
 |(g,x)::ag,os,L,r,nd,e=>by cases os with|nil=>simp[Bw]at e|cons o1 os =>obtain⟨v,w,L1,L2,ee,r1,r2,rfl⟩:=r;cases ee;simp only[qi,Bw]at e;rw[qX];have gF:=qc.mp nd;cases hb:f==g with|true =>rw[hb]at e;cases e;obtain⟨b,aH,rfl,hd,rfl,rt,rfl⟩:=r1;refine⟨b,aH,rfl,by simp,hd,rfl,rt,λH' o' k l ro=>?_⟩;simp only[qi,BZ,hb,Ay];refine⟨.ref b,_,[b],L2,rfl,ro,Ay.le l (λa m=>k a (by simp[m]) λz=>gF.2.2 b (by simp) a m z.symm) r2,rfl⟩|false =>rw[hb]at e;obtain⟨b,aH,h1,h2,h3,h4,h5,h6⟩:=HC r2 gF.2.1 (by simpa using e);refine⟨b,aH,h1,qt _ h2,h3,h4,h5,λH' o' k l ro=>?_⟩;have:=h6 H' o' (λa m=>k a (qt _ m)) l ro;simp only[qi,BZ,hb];exact⟨x,_,L1,L2,rfl,r1.le l λa m=>k a (qk _ m) λz=>gF.2.2 a m b h2 z,this,rfl⟩
def C6(C:Addr)(f:Str)(i j:Nat)(fv:FS->Out Rv):FS->SO:=λfs=>SO.of (fv fs) λr fs=>match r,AF fs i,fs[j]? with|.t t,some (.ins C' gs os),some (some (.val y))=>if C'=C then(match Bw gs os f,FN y with|some (.o ks ts),some k=>if ks.length<big then .nx (putAt fs i (.ins C gs (BZ gs os f (.o (D8 ks ts k t).1 (D8 ks ts k t).2))))else .bad|_,_=>.bad)else .bad|_,_,_=>.bad
meta theorem P4{f}{y}(c:Cls X.K C)(n:A8 X.K C f)(i j:Nat)(he:FE X Z e fv)
  (h:∀{tv:TE},PE X e tv->PS X (.Assign [.Subscript (.Attribute (.Name x p1) f p2) (.Name y p3) p4] e pos) (Wb (JbV X.K (Oh i) f) (Oh j) tv)) :
  GS X Z (.Assign [.Subscript (.Attribute (.Name x p1) f p2) (.Name y p3) p4] e pos) (C6 C f i j fv):=by
 refine B8 (h he) λD σ H ao => ?_
 obtain⟨F,B,fs,ok,s⟩:= ao;refine⟨F,B,fs,ok,B0 s λr af F1 H1 u l q s1=>?_⟩;split at s1
 .rename_i t C' gs os y' e2 e3;split at s1
  .rename_i hC;subst hC;split at s1
   .rename_i ks ts k e4 e5;split at s1
    .rename_i hl;have az:=q.ok;obtain⟨v,L2,a1,a2,a3,a4,a5⟩:=az.own e2;obtain⟨a,dx,ag,L3,rfl,hd,rfl,ro,rfl⟩:=a2;have mh:=qR.mp a4;obtain⟨b,aH,b1,b2,b3,rfl,b5,b6⟩:=HC ro mh.2 e4;obtain⟨L9,o9⟩:=id az;obtain⟨w,M1,M2,M3,e6,_,h1,_⟩:=o9.sl.pick e3;obtain⟨uy,rfl,ry,_⟩:=h1;have:=Ct e5 ry;subst this;have fm:a≠b:=λz=>mh.1 (z▸b2)
     obtain⟨h1,h2⟩:=EI (by obtain⟨_,_,_,⟨_,q⟩,_⟩:=q;exact q) b5;have nb:=a3 b (qf _ b2);have l1:Le F1 H1 F1 (upd H1 b (.o (putK aH k u))):=⟨λz f=>⟨f,Aj λq=>nb.1 (q▸f)⟩,λz f=>⟨f,Aj λq=>nb.2 (q▸f)⟩⟩
     obtain⟨cU,l'⟩:=a5 (.ins C' (ag.map (·.1)) (BZ (ag.map (·.1)) os f (.o (D8 (aH.map (·.1)) ts k t).1 (D8 (aH.map (·.1)) ts k t).2))) (upd H1 b (.o (putK aH k u))) (λz hz _=>Aj λq=>hz (by rw[q];exact qf _ b2)) (by refine⟨a,dx,ag,L3,rfl,by rw[Aj fm];exact hd,rfl,b6 _ _ (λz _ hz=>Aj hz) l1 ?_,rfl⟩;exact⟨b,_,rfl,Am,h1,h2.le l1,rfl⟩);exact⟨_,a1,a,C',dx,ag,.ref b,rfl,hd,c,n,b1,kV k,e6,b,_,rfl,LO.k b3 (by rw[qe]at hl;exact se hl Fz),s1 F1 _ σ l' cU⟩
    .exact s1.elim
   .exact s1.elim
  .exact s1.elim
 .exact s1.elim
variable{fa:FS->Out (List Rv)}{p:Pos}
theorem Yp(hm:X.mg "len"=none)(ha:FA X Z (e::es) fa)(hg:Gl X "len":=by rfl)(he:starEach (e::es) X.env=(false,eval e X.env)::starEach es X.env:=by rfl)(aG:(backTo pos (starEach es X.env)).any (·.1)=false:=by rfl):
  FE X Z (.Call (.Name "len" p) (e::es) [] pos) (Ac Ax fa):=EN (Cs.or YZ (Cs.or U8 U9)) (B6.orR IJ (B6.orR II LD)) hm PySem.boot_len ha hg (by decide) (by decide) he aG
theorem Yb(hm:X.mg "sum"=none)(ha:FA X Z (e::es) fa)(hc:X.calm=true:=by rfl)(hg:Gl X "sum":=by rfl)(he:starEach (e::es) X.env=(false,eval e X.env)::starEach es X.env:=by rfl)(aG:(backTo pos (starEach es X.env)).any (·.1)=false:=by rfl):
  FE X Z (.Call (.Name "sum" p) (e::es) [] pos) (Ac Zi fa):=EN YY (QH hc) hm boot_sum ha hg (by decide) (by decide) he aG
theorem YD(hm:X.mg "all"=none)(ha:FA X Z (e::es) fa)(hc:X.calm=true:=by rfl)(hg:Gl X "all":=by rfl)(he:starEach (e::es) X.env=(false,eval e X.env)::starEach es X.env:=by rfl)(aG:(backTo pos (starEach es X.env)).any (·.1)=false:=by rfl):
  FE X Z (.Call (.Name "all" p) (e::es) [] pos) (Ac XZ fa):=EN Y2 (QK hc) hm boot_all ha hg (by decide) (by decide) he aG
theorem UJ(hm:X.mg "list"=none)(ha:FA X Z (e::es) fa)(hc:X.calm=true:=by rfl)(hg:Gl X "list":=by rfl)(he:starEach (e::es) X.env=(false,eval e X.env)::starEach es X.env:=by rfl)(aG:(backTo pos (starEach es X.env)).any (·.1)=false:=by rfl):
  FE X Z (.Call (.Name "list" p) (e::es) [] pos) (Ac Bf fa):=DU (Cs.or U7 QF) (B6.orR IH (Fx hc)) hm boot_list ha hg (by decide) (by decide) he aG
theorem Ql(hm:X.mg "tuple"=none)(ha:FA X Z (e::es) fa)(hg:Gl X "tuple":=by rfl)(he:starEach (e::es) X.env=(false,eval e X.env)::starEach es X.env:=by rfl)(aG:(backTo pos (starEach es X.env)).any (·.1)=false:=by rfl):
  FE X Z (.Call (.Name "tuple" p) (e::es) [] pos) (Ac AW fa):=DU QE Hf hm boot_tuple ha hg (by decide) (by decide) he aG
theorem UK(hm:X.mg "int"=none)(ha:FA X Z (e::es) fa)(hg:Gl X "int":=by rfl)(he:starEach (e::es) X.env=(false,eval e X.env)::starEach es X.env:=by rfl)(aG:(backTo pos (starEach es X.env)).any (·.1)=false:=by rfl):
  FE X Z (.Call (.Name "int" p) (e::es) [] pos) (Ac Fj fa):=DU Va NX hm boot_int ha hg (by decide) (by decide) he aG
def Rw(f:FS->Out Rv):FS->Out Rv:=λfs=>(f fs).bnd λr fs=>match r with|.t (.int i)=>okT (.int (-i)) fs|_=>.bad
theorem Yi(ha:FE X Z a f):FE X Z (.UnaryOp .USub a pos) (Rw f):=by
 refine AE (JaF VT ha) λσ H Q ao => ?_
 obtain⟨F,B,fs,ok,s⟩:= ao;refine⟨F,B,fs,ok,Aq s λr af F1 H1 u l az rx s1=>?_⟩;split at s1
 .exact⟨_,rx,s1 F1 H1 _ Le.refl (RR.of az rfl)⟩
 .exact s1.elim
def JC:=gI λi j fs=>if 0<=j/\j<=1000000/\i.natAbs<2^64 then okT (.int (i^j.toNat)) fs else .bad
theorem Xa:OpF K Z (rI Jcg λi j=>.int (i^j.toNat)) JC:=MD (t:=λi j=>.int (i^j.toNat)) (λ_ _ _ _ _=>rfl) λi j fs=>by
 by_cases h:0<=j/\j<=1000000/\i.natAbs<2^64
 .exact .inr ⟨h,if_pos h⟩
 .exact .inl (if_neg h)
theorem Yf{fa:FS->Out Rv}(ha:FE X Z a fa)(hb:FE X Z b fb):FE X Z (.BinOp a .Pow b pos) (Ae JC fa fb):=Ir Xa WY ha hb
def RP(K:Fg)(B:Nat->Option V)(σ:St):Wd->Hp->FS->Option Int->Option Int->Prop:=λF H fs a b=>Okk K F B H fs σ/\b=a
inductive tP(K:Fg)(Z:Xp)(f:FS->Out (Option Int))(σ:St)(H:Hp)(Q:Option Int->Hp->Prop):Prop
 |mk (F:Wd) (B:Nat->Option V) (fs:FS) (h0:Okk K F B H fs σ) (h1:sat Z B (RP K B σ) F H (f fs) Q)
def FP(X:Cx)(Z:Xp)(e:Option Expr)(f:FS->Out (Option Int)):Prop:=PO X e (tP X.K Z f)
theorem Rf{e:Option Expr}(h:PO X e t)(i:∀σ H Q,t' σ H Q->t σ H Q):PO X e t':=λaa s σ H Q I q=>h aa s σ H Q I (i _ _ _ q)
def noP:FS->Out (Option Int):=λfs=>.ok none fs
def AB(f:FS->Out Rv):FS->Out (Option Int):=λfs=>(f fs).bnd λr fs=>match r with|.t (.int i)=>.ok (some i) fs|_=>.bad
def BO(ts:List T)(lo hi:Option Int):List T:=(ts.drop (HT.sIx ts.length 0 lo)).take (HT.sIx ts.length ts.length hi-HT.sIx ts.length 0 lo)
theorem Kz(r:Ah K F H ts vs):Ah K F H (BO ts lo hi) (U4 vs lo hi):=by unfold BO U4;rw[r.len];exact(r.drop _).take _
def Gs:Rv->Option Int->Option Int->FS->Out Rv:=λx lo hi fs=>match Du fs x with|some ts=>okT (.lst (BO ts lo hi)) fs|none=>match x with|.t (.tup ts)=>okT (.tup (BO ts lo hi)) fs|_=>.bad
def slF(f:FS->Out Rv)(l h:FS->Out (Option Int)):FS->Out Rv:=λfs=>(f fs).bnd λx fs=>(l fs).bind λlo fs=>(h fs).bind λhi fs=>Gs x lo hi fs
variable{lo hi:Option Expr}{l h:FS->Out (Option Int)}{p2:Pos}
theorem Uz:FP X Z none noP:=Rf S0 λσ H Q ⟨F,B,fs,ok,s⟩=>s F H none Le.refl ⟨ok,rfl⟩
theorem Uy(he:FE X Z e f):FP X Z (some e) (AB f):=by
 refine Rf (SY he) λσ H Q ao => ?_
 obtain⟨F,B,fs,ok,s⟩:= ao;refine⟨F,B,fs,ok,Aq s λr af F1 H1 u l az rx s1=>?_⟩;split at s1
 .exact⟨_,rx,s1 F1 H1 _ Le.refl ⟨az,rfl⟩⟩
 .exact s1.elim
meta theorem Jbt(he:FE X Z e f)(hl:FP X Z lo l)(hu:FP X Z hi h):FE X Z (.Subscript e (.Slice lo hi none p2) pos) (slF f l h):=by
 refine AE (J7 (SlR.or SA (SlR.or V5 V8)) he hl hu) λσ H Q ao => ?_
 obtain⟨F,B,fs,ok,s⟩:= ao;refine⟨F,B,fs,ok,Aq s λx af F1 H1 u l1 az rx s1=>⟨F1,B,af,az,Ar s1 λlo ay F2 H2 jr l2 q2 s2=>?_⟩⟩;obtain⟨aO,rfl⟩:=q2;refine⟨F2,B,ay,aO,Ar s2 λhi bQ F3 H3 dE l3 q3 s3=>?_⟩;obtain⟨cV,rfl⟩:=q3;have jx:=(rx.le l2).le l3;unfold Gs at s3;split at s3
 next ts e=>obtain⟨a,vs,rfl,hs,r⟩:=Br cV jx e;exact .inl ⟨a,vs,rfl,hs,λp hp=>s3 _ _ (.ref p) (AA cV hp) (Lc cV hp (Kz r))⟩
 .split at s3
  .rename_i ts _;obtain⟨a,vs,rfl,hs,r⟩:=BP jx rfl;by_cases hw:HT.sIx ts.length 0 jr=0/\HT.sIx ts.length ts.length dE=ts.length
   .refine .inr (.inr ⟨a,vs,rfl,hs,by rw[r.len];exact hw,s3 F3 H3 _ Le.refl (RR.of cV ?_)⟩);have e:BO ts jr dE=ts:=by unfold BO;rw[hw.1,hw.2];simp
    rwa[e]
   .exact .inr (.inl ⟨a,vs,rfl,hs,by rw[r.len];exact hw,λp hp=>s3 _ _ (.ref p) (AA cV hp) (Df cV hp (Kz r))⟩)
  .exact s3.elim
def IZ:T->Option (List T)
 |.lst ts=>some ts
 |.z0 ts=>some ts
 |.tup ts=>some ts
 |_=>none
def pairs:List T->List T->List T
 |x::xs,y::ys=>.tup [x,y]::pairs xs ys
 |_,_=>[]
theorem pairs_at:∀{xs ys:List T}{i:Nat}{t:T},(pairs xs ys)[i]?=some t->∃x y,xs[i]?=some x/\ys[i]?=some y/\t=.tup [x,y]
 | [],_,i,t,h=>by simp[pairs]at h
 |_::_,[],i,t,h=>by simp[pairs]at h
 |x::xs,y::ys,0,t,h=>by simp only[pairs,sH,Option.some.injEq]at h;exact⟨x,y,rfl,rfl,h.symm⟩
 |x::xs,y::ys,i+1,t,h=>by simp only[pairs]at h;simpa using pairs_at h
theorem pairs_len:∀{xs ys:List T}{i:Nat},(pairs xs ys).length<=i->xs.length<=i\/ys.length<=i
 | [],_,i,h=>.inl (by simp)
 |_::_,[],i,h=>.inr (by simp)
 |x::xs,y::ys,0,h=>by simp[pairs]at h
 |x::xs,y::ys,i+1,h=>by simp only[pairs,qL,Nat.add_le_add_iff_right]at h;simpa using pairs_len h
theorem E2(r:AH K F H t u)(e:IZ t=some ts):∃b a vs,u=.ref a/\Ah K F H ts vs/\∀(F':Wd)(H':Hp),(∀a,F a->F' a/\H' a=H a)->SqB b K H' a vs:=by
 unfold IZ at e;split at e
 .cases e;obtain⟨a,vs,rfl,f,hs,r⟩:=r;exact⟨false,a,vs,rfl,r,λF' H' l=>SqL.of ((l a f).2.trans hs)⟩
 .cases e;obtain⟨a,vs,rfl,hs,r⟩:=r;exact⟨false,a,vs,rfl,r,λF' H' l=>(StL.lf l hs).sq⟩
 .cases e;obtain⟨a,vs,rfl,hs,r⟩:=r;exact⟨true,a,vs,rfl,r,λF' H' l=>SqT.of ((l a hs.2.1).2.trans hs.2.2)⟩
 .cases e
def itZ(f g:FS->Out Rv):FS->Out (List T):=λfs=>(f fs).bnd λr fs=>(g fs).bnd λr' fs=>match r,r' with
 |.t x,.t y=>match IZ x,IZ y with|some xs,some ys=>.ok (pairs xs ys) fs|_,_=>.bad
 |_,_=>.bad
theorem T6(h1:∀(F':Wd)(H':Hp),(∀a,F a->F' a/\H' a=H a)->SqB b1 K H' a1 vs)(h2:∀(F':Wd)(H':Hp),(∀a,F a->F' a/\H' a=H a)->SqB b2 K H' a2 ws)
  (r1:Ah K F H xs vs) (r2:Ah K F H ys ws):JOk K F H (Itz K b1 a1 b2 a2) (pairs xs ys):=by
 intro F' H' l ⟨B,fs,σ,ok⟩ i;refine⟨λt et=>?_,λhl=>⟨vs,ws,h1 F' H' l,h2 F' H' l,by rw[r1.len,r2.len];exact pairs_len hl⟩⟩;obtain⟨x,y,ex,ey,rfl⟩:=pairs_at et;obtain⟨v,ev,rv⟩:=(Ah.lf l r1).at ex;obtain⟨w,ew,cZ⟩:=(Ah.lf l r2).at ey;refine⟨⟨vs,ws,v,w,h1 F' H' l,h2 F' H' l,ev,ew⟩,λz eS hy=>?_⟩;obtain⟨T,vx,vy,hn,rfl,rfl,g1,g2⟩:=hy;have e1:=g1 vs (h1 F' H' l);have e2:=g2 ws (h2 F' H' l);rw[ev]at e1;rw[ew]at e2;cases e1;cases e2;refine⟨LN F' T,⟨AA ok hn,λB fs σ k=>k.alloc hn⟩,?_⟩;exact⟨T,[v,w],rfl,⟨rfl,.inr rfl,Am⟩,by exact⟨v,[w],rfl,rv.le (AA ok hn),w,[],rfl,cZ.le (AA ok hn),rfl⟩⟩
meta theorem X8{fa}(hm:X.mg "zip"=none)(ha:FE X Z a fa)(hb:FE X Z b fb)(hg:Gl X "zip":=by rfl)
  (hs:starEach [a,b] X.env=[(false,eval a X.env),(false,eval b X.env)]:=by rfl) (ba:starEach [b] X.env=[(false,eval b X.env)]:=by rfl):FI X Z (.Tuple bP k0 bV) (.Call (.Name "zip" p) [a,b] [] pos) (itZ fa fb):=by
 refine HN (WA hg hm (Cy ha (Cy hb Gm ba) (by rw[hs,ba])) hs ba) λσ H Q ao=>?_
 obtain⟨F,B,fs,ok,s⟩:= ao;refine⟨F,B,fs,ok,Aq s λr af F1 H1 u l1 az rx s1=>⟨F1,B,af,az,Aq s1 λr' ay F2 H2 u' l2 aO ry s2=>?_⟩⟩;split at s2
 .rename_i x y;split at s2
  next xs ys e1 e2=>obtain⟨b1,a1,vs,rfl,q1,h1⟩:=E2 (AH.le l2 rx) e1;obtain⟨b2,a2,ws,rfl,q2,h2⟩:=E2 ry e2;exact⟨b1,a1,b2,a2,rfl,⟨vs,h1 F2 H2 λ_ f=>⟨f,rfl⟩⟩,⟨ws,h2 F2 H2 λ_ f=>⟨f,rfl⟩⟩,s2 F2 H2 _ Le.refl ⟨aO,T6 h1 h2 q1 q2⟩⟩
  .exact s2.elim
 .exact s2.elim
def Zf(f:FS->Out Rv):FS->Out Rv:=λfs=>(f fs).bnd λr fs=>match r with|.t (.tup ts)=>okT (.tup ts.reverse) fs|_=>.bad
meta theorem Ny{p1 cX aX:Pos}(hc:X.calm=true)(fD:X.mg "tuple"=none)(cL:X.mg "reversed"=none)(ha:FE X Z a f)(gw:Gl X "tuple":=by rfl)(eD:Gl X "reversed":=by rfl)
  (he:starEach [(.Call (.Name "reversed" p2) [a] [] aX:Expr)] X.env=[(false,eval (.Call (.Name "reversed" p2) [a] [] aX) X.env)]:=by rfl) (jf:starEach [a] X.env=[(false,eval a X.env)]:=by rfl) :
  FE X Z (.Call (.Name "tuple" p1) [.Call (.Name "reversed" p2) [a] [] aX] [] cX) (Zf f):=by
 refine AE (MA hc fD cL ha gw eD he jf) λσ H Q ao => ?_
 obtain⟨F,B,fs,ok,s⟩:= ao;refine⟨F,B,fs,ok,Aq s λr af F1 H1 u l az rx s1=>?_⟩;split at s1
 next ts=>obtain⟨a,vs,rfl,hs,q⟩:=BP (ts:=ts) rx rfl;exact⟨a,vs,rfl,hs,λd hd=>s1 _ _ (.ref d) (AA az hd) (Df az hd q.rev)⟩
 .exact s1.elim
def EB:T->Option (List T)
 |.tup ts=>some ts
 |_=>none
theorem OI(e:EB t=some ts):t=.tup ts:=by cases t<;>first|(cases e;rfl)|cases e
def Oo(f:T->T->Option Bool):List T->List T->Option Bool
 |x::xs,y::ys=>(f x y).bind λb=>(Oo f xs ys).map (b&&·)
 |_,_=>some true
def eqT:Nat->T->T->Option Bool
 |0,x,y=>(plV x).bind λu=>(plV y).map (eqV u)
 |n+1,x,y=>match EB x with
  |some xs=>match EB y with|some ys=>(Oo (eqT n) xs ys).map (·&&xs.length==ys.length)|none=>(plV y).map λ_=>false
  |none=>match EB y with
   |some _=>(plV x).map λ_=>false
   |none=>(plV x).bind λu=>(plV y).map (eqV u)
def eAt(f:T->T->Option Bool)(xs ys:List T)(j:Nat):Bool:=(f (xs.getD j .l) (ys.getD j .l)).getD false
theorem G8{f}:∀{xs ys:List T}{b:Bool},Oo f xs ys=some b->b=(List.range (min xs.length ys.length)).all (eAt f xs ys)
 | [],_,_,e=>by cases e;simp
 |_::_,[],_,e=>by cases e;simp
 |x::xs,y::ys,b,e=>by
  simp only[Oo,qQ,qw]at e;obtain⟨c,e1,d,e2,rfl⟩:=e;rw[qL,qL,Nat.succ_min_succ,List.range_succ_eq_map,sZ,List.all_map,(G8 e2)];have h0:eAt f (x::xs) (y::ys) 0=c:=by simp[eAt,e1]
  rw[h0];congr 1
theorem JJ{f}:∀{xs ys:List T}{b:Bool},Oo f xs ys=some b->∀(j:Nat)(x y:T),xs[j]?=some x->ys[j]?=some y->f x y=some (eAt f xs ys j)
 | [],_,_,e=>by intro j x y h;simp at h
 |_::_,[],_,e=>by intro j x y _ h;simp at h
 |x::xs,y::ys,b,e=>by simp only[Oo,qQ,qw]at e;obtain⟨c,e1,d,e2,rfl⟩:=e;intro j x' y' h1 h2;cases j with|zero =>simp only[sH,Option.some.injEq]at h1 h2;subst h1 h2;simp[eAt,e1]|succ j =>have:=JJ e2 _ _ _ h1 h2;rw[this];simp[eAt]
theorem Qt(h:Eh v=true):eqV v v=true:=by cases v<;>first|rfl|(simp[eqV];done)|(simp[Eh]at h)
theorem Rh{b}{x}(rx:AH K F H x v)(ry:AH K F H y v)(e:((plV x).bind λu=>(plV y).map (eqV u))=some b):b=true:=by simp only[qQ,qw]at e;obtain⟨u,e1,w,e2,rfl⟩:=e;have h1:=Bz e1 rx;have h2:=Bz e2 ry;subst h1 h2;exact Qt (B9 e1)
theorem HL{a}{x}(e:plV x=some u)(r:AH K F H x v):v≠.ref a:=by have h1:=Bz e r;subst h1;have:=B9 e;intro h;subst h;cases this
theorem Ck(e:EB t=some ts)(r:AH K F H t v):∃a vs,v=.ref a/\StT K F H a vs/\Ah K F H ts vs:=by cases OI e;simpa only[AH]using r
theorem Ku:∀{n:Nat}{x y:T}{v:V}{b:Bool},eqT n x y=some b->AH K F H x v->AH K F H y v->b=true
 |0,x,y,v,b,e,rx,ry=>Rh rx ry e
 |n+1,x,y,v,b,e,rx,ry=>by
  unfold eqT at e;cases e1:EB x with
  |none =>rw[e1]at e;cases e2:EB y with|none=>rw[e2]at e;exact Rh rx ry e|some ys =>rw[e2]at e;obtain⟨a,vs,rfl,_⟩:=Ck e2 ry;obtain⟨u,e3,_⟩:=qw.mp e;exact absurd rfl (HL e3 rx)
  |some xs =>
   rw[e1]at e;obtain⟨a,vs,rfl,sx,iS⟩:=Ck e1 rx;cases e2:EB y with
   |none =>rw[e2]at e;obtain⟨u,e3,_⟩:=qw.mp e;exact absurd rfl (HL e3 ry)
   |some ys =>
    rw[e2]at e;obtain⟨a',gj,ea,sy,iT⟩:=Ck e2 ry;cases ea;have hv:vs=gj:=by have:=sx.2.2.symm.trans sy.2.2;injection this with this;injection this
    subst hv;obtain⟨c,e3,rfl⟩:=qw.mp e;have hl:xs.length=ys.length:=by rw[<- iS.len,<- iT.len]
    rw[qE];refine⟨?_,by simp[hl]⟩;rw[G8 e3,qZ];intro j hj;rw[rX]at hj;have h1:j<xs.length:=by lia
    have h2:j<ys.length:=by lia
    have g1:=qb h1;have g2:=qb h2;obtain⟨v1,q1,r1⟩:=iS.at g1;obtain⟨v2,q2,r2⟩:=iT.at g2;have:=by rw[q1]at q2;injection q2
    subst this;exact Ku (JJ e3 _ _ _ g1 g2) r1 r2
variable{aa:List (Addr×Obj)}{s:Shared}
theorem Ks{l}{u}{y}(hl:s.heap.IsTuple l items)(hu:A.units<cLine)(ry:RelV y u)(fy:Eh y=true):
  SeqAt.EqAt A s (.ref l) u false/\SeqAt.EqAt A s u (.ref l) false/\SeqAt.RcAt A s (.ref l) u false/\SeqAt.RcAt A s u (.ref l) false:=by
 cases y with|l=>cases ry;exact⟨.tuple_none hl hu,.none_tuple hl hu,.tuple_none hl hu,.none_tuple hl hu⟩|v b=>cases ry;exact⟨.tuple_bool _ hl hu,.bool_tuple _ hl hu,.tuple_bool _ hl hu,.bool_tuple _ hl hu⟩|int b=>obtain⟨t,rfl⟩:=ry;exact⟨.tuple_int _ _ hl hu,.int_tuple _ _ hl hu,.tuple_int _ _ hl hu,.int_tuple _ _ hl hu⟩|str b=>obtain⟨t,rfl⟩:=ry;exact⟨.tuple_str _ _ hl hu,.str_tuple _ _ hl hu,.tuple_str _ _ hl hu,.str_tuple _ _ hl hu⟩|_=>cases fy
theorem J6{b}{u}{w}{x}(rx:AH X.K F H x v)(ry:AH X.K F H y w)(qx:RelV v u)(qy:RelV w u')(e:((plV x).bind λu=>(plV y).map (eqV u))=some b):SeqAt.EqAt A s u u' b:=by simp only[qQ,qw]at e;obtain⟨p,e1,q,e2,rfl⟩:=e;have h1:=Bz e1 rx;have h2:=Bz e2 ry;subst h1 h2;exact RQ qx qy (B9 e1) (B9 e2)
theorem items_eqAt{b}{f}(e:Oo f xs ys=some b)(rx:Ah X.K F H xs vs)(ry:Ah X.K F H ys ws)(qx:Vals vs us)(qy:Vals ws us')
  (ih:∀{x y:T}{v w:V}{u u':Value}{b:Bool},f x y=some b->AH X.K F H x v->AH X.K F H y w->RelV v u->RelV w u'->SeqAt.EqAt A s u u' b) :
  ∀j (h1:j<us.toArray.size) (h2:j<us'.toArray.size),SeqAt.EqAt A s us.toArray[j] us'.toArray[j] (eAt f xs ys j):=by
 intro j h1 h2;have l1:=rx.len;have l2:=ry.len;have l3:=qx.length;have l4:=qy.length;rw[qD]at h1 h2;have g1:xs[j]?=some (xs[j]'(by lia)):=qb (by lia);have g2:ys[j]?=some (ys[j]'(by lia)):=qb (by lia);obtain⟨v,q1,r1⟩:=rx.at g1;obtain⟨w,q2,r2⟩:=ry.at g2;obtain⟨u,p1,o1⟩:=qx.get q1;obtain⟨u',p2,o2⟩:=qy.get q2;rw[qb h1]at p1;rw[qb h2]at p2;injection p1 with p1;injection p2 with p2;rw[show us.toArray[j]=us[j] by simp,show us'.toArray[j]=us'[j] by simp,p1,p2];exact ih (JJ e _ _ _ g1 g2) r1 r2 o1 o2
theorem RL(I:Inv X aa σ H s):∀{n:Nat}{A:Around}{x y:T}{v w:V}{u u':Value}{b:Bool},A.units+n<cLine->eqT n x y=some b->AH X.K F H x v->AH X.K F H y w->RelV v u->RelV w u'->SeqAt.EqAt A s u u' b
 |0,A,x,y,v,w,u,u',b,hu,e,rx,ry,qx,qy=>J6 rx ry qx qy e
 |n+1,A,x,y,v,w,u,u',b,hu,e,rx,ry,qx,qy=>by
  have e0:=e;unfold eqT at e;cases e1:EB x with
  |none =>rw[e1]at e;cases e2:EB y with|none=>rw[e2]at e;exact J6 rx ry qx qy e|some ys =>rw[e2]at e;obtain⟨a,vs,rfl,st,_⟩:=Ck e2 ry;obtain⟨p,e3,rfl⟩:=qw.mp e;have h1:=Bz e3 rx;subst h1;cases qy;obtain⟨aq,_,ht,_⟩:=I.tuple st.sq;exact(Ks ht (by lia) qx (B9 e3)).2.1
  |some xs =>
   rw[e1]at e;obtain⟨a,vs,rfl,sx,iS⟩:=Ck e1 rx;cases qx;obtain⟨aq,vx,ht,_⟩:=I.tuple sx.sq;cases e2:EB y with
   |none =>rw[e2]at e;obtain⟨p,e3,rfl⟩:=qw.mp e;have h1:=Bz e3 ry;subst h1;exact(Ks ht (by lia) qy (B9 e3)).1
   |some ys =>
    rw[e2]at e;obtain⟨a',gj,rfl,sy,iT⟩:=Ck e2 ry;cases qy;obtain⟨bF,mI,oz,_⟩:=I.tuple sy.sq;by_cases fm:a=a'
    .subst fm;rw[Ku e0 rx ry];exact SeqAt.EqAt.same _
    .obtain⟨c,e3,rfl⟩:=qw.mp e;have l1:aq.length=xs.length:=by rw[<- vx.length,iS.len]
     have l2:bF.length=ys.length:=by rw[<- mI.length,iT.len]
     have:=SeqAt.RcAt.tuples ht oz (by lia) (items_eqAt e3 iS iT vx mI (λh r1 r2 o1 o2=>RL I (A:=A.in1) (by show A.units+1+n<_;lia) h r1 r2 o1 o2));rw[qD,qD,l1,l2,<- G8 e3]at this;exact SeqAt.EqAt.of_refs fm this
variable{fa:FS->Out Rv}
def MX(fs:FS):Rv->Option Bool
 |.t t=>some (match t with|.l=>true|_=>false)
 |.n i=>match AF fs i with|some (.o _ _)=>some false|some (.lst _)=>some false|_=>none
 |.nw _=>none
def RD(neg:Bool):Rv->Rv->FS->Out Rv:=λx y fs=>match y with
 |.t .l=>match MX fs x with|some b=>okT (.v (if neg then !b else b)) fs|none=>.bad
 |_=>.bad
theorem PK{b}{x}(ok:Okk K F B H fs σ)(rx:Cr K F H σ x u)(e:MX fs x=some b):decide (u=V.l)=b:=by
 cases x with
 |t t =>have rx:AH K F H t u:=rx;cases t with|l=>cases e;cases rx;rfl|v=>cases e;cases rx;rfl|int=>cases e;cases rx;rfl|str=>cases e;cases rx;rfl|ins=>cases e;simp only[AH]at rx;obtain⟨a,dx,vs,rfl,_⟩:=rx;rfl|_=>cases e;simp only[AH]at rx;obtain⟨a,vs,rfl,_⟩:=rx;rfl
 |nw o=>cases e
 |n i =>
  have e2:σ[i]?=some (some u):=rx;simp only[MX]at e;split at e
  .rename_i eo;cases e;obtain⟨v,L2,e1,q,_⟩:=ok.own eo;rw[e1]at e2;have e3:v=u:=by simpa using e2
   subst e3;obtain⟨a,ag,rfl,_⟩:=q;rfl
  .rename_i eo;cases e;obtain⟨v,L2,e1,q,_⟩:=ok.own eo;rw[e1]at e2;have e3:v=u:=by simpa using e2
   subst e3;obtain⟨a,ag,rfl,_⟩:=q;rfl
  .cases e
meta theorem Rn:OpF K Z (λx y H Q=>y=.l/\Q (.v (decide (x=.l))) H) (RD false):=by
 intro F B H σ fs x y u w Q ok rx ry s;unfold RD at s;split at s
 .split at s
  next b e=>refine⟨ry,?_⟩;rw[(PK ok rx e)];exact s F H _ Le.refl (RR.of ok rfl)
  .exact s.elim
 .exact s.elim
theorem Ys(ha:FE X Z a fa)(hb:FE X Z b fb):FE X Z (.Compare a [.Is] [b] pos) (Ae (RD false) fa fb):=Iu Rn Rk ha hb (CY _)
theorem X4(ha:FE X Z a fa)(hb:FE X Z b fb):FT X Z (.Compare a [.Is] [b] pos) (asB (Ae (RD false) fa fb)):=Dq Rn Rk ha hb (CY _)
def itD(f:FS->Out Rv):FS->Out (List T):=λfs=>(f fs).bnd λr fs=>match r with
 |.n i=>match fs[i]? with|some (some (.own (.o ks ts)))=>.ok (ks.map Oi) (fs.set i (some (.val (.o ks ts))))|_=>.bad
 |.t (.dF ks ts)=>.ok (ks.map Oi) fs
 |_=>.bad
theorem Okk.frzD(h:Okk K F B H fs σ)(e:σ[i]?=some (some u))(es:fs[i]?=some (some (.own (.o ks ts)))):
  ∃a ag,u=.ref a/\H a=some (.o ag)/\ag.map (·.1)=ks/\∀o,Le F H (Hm F [a]) (upd H a (.frz o (.o ag)))/\Okk K (Hm F [a]) B (upd H a (.frz o (.o ag))) (fs.set i (some (.val (.o ks ts)))) σ:=by
 obtain⟨L,o1⟩:=h;obtain⟨v,L1,L2,L3,e1,rfl,h1,h2⟩:=o1.sl.pick es;obtain⟨w,rfl,q2⟩:=h1;rw[e1]at e;have eu:w=u:=by simpa using e
 subst eu;have q3:=q2;simp only[AN]at q3;obtain⟨a,ag,rfl,hd,rfl,q,rfl⟩:=q3;refine⟨a,ag,rfl,hd,rfl,λob=>?_⟩;have bh:=o1.nd;have na:∀b∈L1++L3,b≠a:=λb hb z=>by
  subst z;rw[qc]at bh;rcases qd.mp hb with m|m
  .exact bh.2.2 b m b (by simp) rfl
  .exact(qc.mp bh.2.1).2.2 b (by simp) b m rfl
 have l2:Le F H (Hm F [a]) (upd H a (.frz ob (.o ag))):=⟨λb f=>⟨.inl f,Aj λz=>o1.nf b (by subst z;simp) f⟩,λb f=>⟨f,Aj λz=>o1.pl b (by subst z;simp) f⟩⟩
 have r2:AH K (Hm F [a]) (upd H a (.frz ob (.o ag))) (.o (ag.map (·.1)) ts) (.ref a):=by simp only[AH];exact⟨a,ag,rfl,.inr (by simp),.inr ⟨ob,Am⟩,rfl,q.le l2⟩
 refine⟨l2,L1++([]++L3),?_⟩;have h3:=h2 (Hm F [a]) (upd H a (.frz ob (.o ag))) (some (.val (.o (ag.map (·.1)) ts))) (some (.ref a)) [] l2 (λb hb=>Aj (na b hb)) ⟨.ref a,rfl,r2,rfl⟩;rw[AZ e1]at h3;refine⟨h3,BB bh qM (λ_ m=>nomatch m),λb m z=>?_,λb z=>?_,?_,λb z=>?_,λb z=>?_,λb m=>o1.pl b ?_⟩
 .have m':=by simpa using m
  rcases z with z|z
  .exact o1.nf b (by rcases m' with m|m<;>simp[m]) z
  .exact na b (by rcases m' with m|m<;>simp[m]) (by simpa using z)
 .rcases z with z|z
  .rw[Aj λy=>o1.nf b (by subst y;simp) z];exact o1.fd b z
  .have:b=a:=by simpa using z
   subst this;rw[Am];exact λy=>nomatch y
 .have:=Eo.put (i:=i) (s:=some (.val (.o (ag.map (·.1)) ts))) (v:=some (.ref a)) o1.bo (λo eo=>by cases eo) o1.sl.len;rwa[AZ e1]at this
 .rw[Aj λy=>o1.pl b (by subst y;simp) z];exact o1.pd b z
 .rcases z with z|z
  .exact o1.pf b z
  .have:b=a:=by simpa using z
   subst this;exact o1.pl b (by simp)
 .have m':=by simpa using m
  rcases m' with m|m<;>simp[m]
theorem Kk{a}{o}(f:F a)(e:H a=some (.frz o (.o ag))):JOk K F H (Itd a o ag) ((ag.map (·.1)).map Oi):=by
 intro F' H' l _ i;have e':=(l a f).2.trans e;refine⟨λt et=>?_,λhl=>⟨e',by simpa using hl⟩⟩;have hi:=by have:=(ql.mp et).1;simpa using this
 refine⟨⟨e',hi⟩,λx eS hy=>stays hy.1 ?_⟩;obtain⟨k,ek,rfl⟩:=hy.2;rw[qH,ek]at et;cases et;cases k<;>rfl
meta theorem UD{l}(hl:FE X Z l f):FI X Z tg l (itD f):=by
 refine HN (Pb hl) λσ H Q ao => ?_
 obtain⟨F,B,fs,ok,s⟩:= ao;refine⟨F,B,fs,ok,Aq s λr af F1 H1 u l az rx s1=>?_⟩;split at s1
 .rename_i i;split at s1
  next ks ts es=>obtain⟨a,ag,rfl,hd,rfl,k⟩:=az.frzD rx es;refine⟨a,ag,rfl,.inl ⟨hd,λo=>?_⟩⟩;obtain⟨l2,aO⟩:=k o;exact s1 _ _ (Itd a o ag) l2 ⟨aO,Kk (.inr (by simp)) Am⟩
  .exact s1.elim
 .simp only[Cr,AH]at rx;obtain⟨a,ag,rfl,f,⟨o,hd⟩,rfl,r⟩:=rx;exact⟨a,ag,rfl,.inr ⟨o,hd,s1 _ _ (Itd a o ag) Le.refl ⟨az,Kk f hd⟩⟩⟩
 .exact s1.elim
def U1(fs:FS):Rv->Option (List Key×List T)
 |.t (.o ks ts)=>some (ks,ts)
 |.t (.dF ks ts)=>some (ks,ts)
 |.n i=>match AF fs i with|some (.o ks ts)=>some (ks,ts)|_=>none
 |_=>none
meta theorem Qw{x:Rv}{ks:List Key}(h:Okk K F B H fs σ)(rx:Cr K F H σ x u)(e:U1 fs x=some (ks,ts)):
  ∃a ag,u=.ref a/\Rd H a (.o ag)/\ag.map (·.1)=ks/\Ah K F H ts (ag.map (·.2)):=by
 unfold U1 at e;split at e
 .cases e;simp only[Cr,AH]at rx;obtain⟨a,ag,rfl,f,hd,rfl,r⟩:=rx;exact⟨a,ag,rfl,hd,rfl,r⟩
 .cases e;simp only[Cr,AH]at rx;obtain⟨a,ag,rfl,f,⟨ob,hd⟩,rfl,r⟩:=rx;exact⟨a,ag,rfl,.inr ⟨ob,hd⟩,rfl,r⟩
 .rename_i i;have e2:σ[i]?=some (some u):=rx;split at e
  .rename_i eo;cases e;obtain⟨v,L2,e1,q,_⟩:=h.own eo;rw[e1]at e2;have e3:v=u:=by simpa using e2
   subst e3;simp only[AN]at q;obtain⟨a,ag,rfl,hd,rfl,r,_⟩:=q;exact⟨a,ag,rfl,.inl hd,rfl,r⟩
  .cases e
 .cases e
theorem Jb6(hr:CL k A):A.units+61<cLine:=by have:=hr.units;lia
def Ip:List Rv->FS->Out Rv
 | [x],fs=>match U1 fs x with|some p=>.ok (.nw (.o p.1 p.2)) fs|none=>.bad
 |_,_=>.bad
meta theorem QG:Cs K Z (λxs H Q=>∃a ag,xs=[.ref a]/\Rd H a (.o ag)/\∀l,H l=none->Q (.ref l) (upd H l (.o ag))) Ip:=by
 intro F B H σ fs rs vs Q ok q s;unfold Ip at s;split at s
 .obtain⟨v,rfl,qq⟩:=A3 q;split at s
  next p e=>obtain⟨a,ag,rfl,hd,ek,r⟩:=Qw (ks:=p.1) (ts:=p.2) ok qq e;refine⟨a,ag,rfl,hd,λl hl=>s F _ (.ref l) (AJ ok hl) (RR.alloc ok hl ?_)⟩;simp only[AN];exact⟨l,ag,rfl,Am,ek,r.le (AJ ok hl),rfl⟩
  .exact s.elim
 .exact s.elim
variable{fa:FS->Out (List Rv)}{p1 cX aX:Pos}
theorem Qp(hm:X.mg "dict"=none)(ha:FA X Z [a] fa)(hg:Gl X "dict":=by rfl)(he:starEach [a] X.env=[(false,eval a X.env)]:=by rfl):FE X Z (.Call (.Name "dict" p) [a] [] pos) (Ac Ip fa) :=
 DU QG LF hm boot_dict ha (hg:=hg) (he:=he)
def fzD(f:FS->Out Rv):FS->Out Rv:=λfs=>(f fs).bnd λr fs=>match r with
 |.n i=>match fs[i]? with|some (some (.own (.o ks ts)))=>.ok (.t (.dF ks ts)) (fs.set i (some (.val (.dF ks ts))))|_=>.bad
 |_=>.bad
theorem Okk.frzF(h:Okk K F B H fs σ)(e:σ[i]?=some (some u))(es:fs[i]?=some (some (.own (.o ks ts)))):
  ∃a ag,u=.ref a/\H a=some (.o ag)/\ag.map (·.1)=ks/\∀o,Le F H (Hm F [a]) (upd H a (.frz o (.o ag)))/\Okk K (Hm F [a]) B (upd H a (.frz o (.o ag))) (fs.set i (some (.val (.dF ks ts)))) σ/\AH K (Hm F [a]) (upd H a (.frz o (.o ag))) (.dF ks ts) (.ref a):=by
 obtain⟨L,o1⟩:=h;obtain⟨v,L1,L2,L3,e1,rfl,h1,h2⟩:=o1.sl.pick es;obtain⟨w,rfl,q2⟩:=h1;rw[e1]at e;have eu:w=u:=by simpa using e
 subst eu;have q3:=q2;obtain⟨a,ag,rfl,hd,rfl,q,rfl⟩:=q3;refine⟨a,ag,rfl,hd,rfl,λob=>?_⟩;have bh:=o1.nd;have na:∀b∈L1++L3,b≠a:=λb hb z=>by
  subst z;rw[qc]at bh;rcases qd.mp hb with m|m
  .exact bh.2.2 b m b (by simp) rfl
  .exact(qc.mp bh.2.1).2.2 b (by simp) b m rfl
 have l2:Le F H (Hm F [a]) (upd H a (.frz ob (.o ag))):=⟨λb f=>⟨.inl f,Aj λz=>o1.nf b (by subst z;simp) f⟩,λb f=>⟨f,Aj λz=>o1.pl b (by subst z;simp) f⟩⟩
 have r2:AH K (Hm F [a]) (upd H a (.frz ob (.o ag))) (.dF (ag.map (·.1)) ts) (.ref a):=by exact⟨a,ag,rfl,.inr (by simp),⟨ob,Am⟩,rfl,q.le l2⟩
 refine⟨l2,⟨L1++([]++L3),?_⟩,r2⟩;have h3:=h2 (Hm F [a]) (upd H a (.frz ob (.o ag))) (some (.val (.dF (ag.map (·.1)) ts))) (some (.ref a)) [] l2 (λb hb=>Aj (na b hb)) ⟨.ref a,rfl,r2,rfl⟩;rw[AZ e1]at h3;refine⟨h3,BB bh qM (λ_ m=>nomatch m),λb m z=>?_,λb z=>?_,?_,λb z=>?_,λb z=>?_,λb m=>o1.pl b ?_⟩
 .have m':b∈L1\/b∈L3:=by simpa using m
  rcases z with z|z
  .exact o1.nf b (by rcases m' with m|m<;>simp[m]) z
  .exact na b (by rcases m' with m|m<;>simp[m]) (by simpa using z)
 .rcases z with z|z
  .rw[Aj λy=>o1.nf b (by subst y;simp) z];exact o1.fd b z
  .have:b=a:=by simpa using z
   subst this;rw[Am];exact λy=>nomatch y
 .have:=Eo.put (i:=i) (s:=some (.val (.dF (ag.map (·.1)) ts))) (v:=some (.ref a)) o1.bo (λo eo=>by cases eo) o1.sl.len;rwa[AZ e1]at this
 .rw[Aj λy=>o1.pl b (by subst y;simp) z];exact o1.pd b z
 .rcases z with z|z
  .exact o1.pf b z
  .have:b=a:=by simpa using z
   subst this;exact o1.pl b (by simp)
 .have m':b∈L1\/b∈L3:=by simpa using m
  rcases m' with m|m<;>simp[m]
meta theorem Yv(h:FE X Z e f):FE X Z e (fzD f):=by
 refine AE (WQ h) λσ H Q ao => ?_
 obtain⟨F,B,fs,ok,s⟩:= ao;refine⟨F,B,fs,ok,Aq s λr af F1 H1 u l az rx s1=>?_⟩;split at s1
 .rename_i i;split at s1
  next ks ts es=>obtain⟨a,ag,rfl,hd,rfl,k⟩:=az.frzF rx es;refine⟨a,ag,rfl,hd,λo=>?_⟩;obtain⟨l2,aO,r2⟩:=k o;exact s1 _ _ (.ref a) l2 (RR.of aO r2)
  .exact s1.elim
 .exact s1.elim
inductive EZ(K:Fg)(Z:Xp)(cv:Value)(σ:St)(H:Hp):Prop
 |mk (F:Wd) (B:Nat->Option V) (fs:FS) (c:Str) (C:Addr) (h0:Cq K c=some C) (h1:cv=.ref C) (h2:Okk K F B H fs σ) (h3:Z.p F B H c fs)
def Lks(X:Cx)(Z:Xp):Prop:=Lk X (EZ X.K Z)
theorem Lks.no:Lks X Xp.no:=λ_ _ _ _ _ _ _ ⟨_,_,_,_,_,_,_,_,_,_,_,⟨_,_,_,_,_,_,_,_,z⟩⟩=>z.elim
structure LkD(X:Cx)(Z:Xp):Prop where
 d:Og X
 k:∀e s,XW X (EZ X.K Z) e s->X.xe e s
 own:PassesOwn (model X.prog X.w) X.A X.env X.xe
theorem LkD.lk(l:LkD X Z):Lks X Z:=Lk.of l.d.ex l.k
def Zd(K:Fg)(E:XK):Xp:=⟨λF B H c fs=>∀C,Cq K c=some C->∀F' H' ax,Le F H F' H'->Okk K F' B H' fs ax->E (.ref C) none H',λh l C hC F' H' ax l' k=>h C hC F' H' ax (l.trans l') k⟩
def spX(K:Fg)(p:Nat)(Fn:FS->Out Rv):Sp:=λvs H Q E=>vs.length=p/\∃F cw,Okk K F (Bof (vs.map some)) H cw (vs.map some)/\match Fn cw with|.ok r τ=>∀F' H' u ax,Le F H F' H'->RR K (Bof (vs.map some)) ax F' H' τ r u->Q u H'|.exc c τ=>∀C,Cq K c=some C->∀F' H' ax,Le F H F' H'->Okk K F' (Bof (vs.map some)) H' τ ax->E (.ref C) none H'|.bad=>False
def GS0(X:Cx)(Z:Xp)(st:Stmt)(g:FS->SO):Prop:=PS0 X st (tSt X.K Z g)
def Zs(X:Cx)(Z:Xp)(kG:List Stmt)(g:FS->SO):Prop:=QS X kG (tSt X.K Z g)
variable{g h:FS->SO}
theorem GS.zero(q:GS X Z st g):GS0 X Z st g:=PS.zero q
theorem GSs.zero(q:GSs X Z rest g):Zs X Z rest g:=PSs.zero q
theorem Bh(h1:GS0 X Z st g)(h2:Zs X Z rest h):Zs X Z (st::rest) (Ak g h):=by
 intro s0 σ H D I q;refine Ms h1 h2 s0 σ H D I ?_;obtain⟨F,B,fs,ok,s⟩:=q;refine⟨F,B,fs,ok,?_⟩;unfold Ak at s;cases e:g fs with
 |nx af =>rw[e]at s;exact λF1 H1 gR l k=>⟨F1,B,af,k,Gf.le s l⟩
 |ret r af=>rwa[e]at s
 |brk af=>rwa[e]at s
 |cnt af=>rwa[e]at s
 |exc c af=>rwa[e]at s
 |bad=>rwa[e]at s
meta theorem RG{f}(Fu:Fun K x qual st f fd)(S:Hr N ps (Bd st))(p n:Nat)(hp:ps.length=p)(hn:N.length=p+n)
  (hb:∀cdv (A:Around) outer (s:Shared) H E E' (Z:Xp),CL k (A.deeper (envOfC qual (Bd st) s.heap.objs.size f cdv))->LkD ((LB (CX1 P w) P w K mg base N qual (Bd st) f cdv A outer s H E).EX E') Z ->
   Zs ((LB (CX1 P w) P w K mg base N qual (Bd st) f cdv A outer s H E).EX E') Z (DC st) g):D4 P w K mg base (CX1 P w) (k+1) f fd ps (spX K p (Be n g)):=by
 refine Fu.ok0 S (λvs H Q E h=>by rw[h.1,hp]) (λcdv A outer s H vs Q E hr h=>⟨_,hb cdv A outer s H E _ (Zd K E) hr ⟨⟨rfl,rfl,rfl,rfl⟩,λe s q=>?_,XW.own YU⟩,?_⟩)
 .refine XW.imp (XW.EX q) λc σ H z=>?_
  obtain⟨F,B,fs,c,C,hC,rfl,ok,z⟩:=z;exact z C hC F H σ Le.refl ok
 obtain⟨hl,F,cw,⟨L,ok⟩,h⟩:=h;have es:L2.start N vs=vs.map some++List.replicate n none:=by unfold L2.start;rw[hl,hn,Nat.add_sub_cancel_left]
 rw[es];refine⟨F,Bof (vs.map some),cw++List.replicate n none,⟨L,ok.more n⟩,?_⟩;unfold Be at h;cases e:g (cw++List.replicate n none)with
 |nx τ =>rw[e]at h;intro F' H' ax l k;exact h F' H' .l (ax.take cw.length) l (RR.take (RR.of (r:=.t .l) k rfl) _ (λi z=>nomatch z))
 |ret r τ =>
  rw[e]at h;intro F' H' ax u l k;cases r with
  |t t=>exact h F' H' u (ax.take cw.length) l (RR.take k _ (λi z=>nomatch z))
  |nw o=>exact h F' H' u (ax.take cw.length) l (RR.take k _ (λi z=>nomatch z))
  |n i =>
   dsimp only at h;split at h
   .rename_i r' jC e2;split at e2
    next o eo=>cases e2;exact h F' H' u (ax.take cw.length) l (RR.take (RR.mv k eo) _ (λi z=>nomatch z))
    .cases e2
   .rename_i c jC e2;split at e2
    .cases e2
    .cases e2
   .exact h.elim
 |brk τ=>rw[e]at h;exact h.elim
 |cnt τ=>rw[e]at h;exact h.elim
 |exc c τ =>rw[e]at h;intro C hC F' H' ax l k;exact h C hC F' H' (ax.take cw.length) l (RR.take (RR.of (r:=.t .l) k rfl) _ (λi z=>nomatch z)).ok
 |bad=>rwa[e]at h
def Gx(Fn:FS->Out Rv)(rs:List Rv)(fs:FS):Out Rv :=
 if(Dk fs (rs.map AK)).Nodup then(match Fn (Bx fs (rs.map AK))with|.ok (.t t) τ=>(match Dl (rs.map AK) τ fs with|some ar=>.ok (.t t) ar|none=>.bad)|.ok (.nw o) τ=>(match Dl (rs.map AK) τ fs with|some ar=>.ok (.nw o) ar|none=>.bad)|.exc c τ=>(match Dl (rs.map AK) τ fs with|some ar=>.exc c ar|none=>.bad)|_=>.bad)else .bad
def Ai(p:Nat)(Fn:FS->Out Rv):List Rv->FS->Out Rv:=λrs fs=>if rs.length=p then Gx Fn rs fs else .bad
meta theorem IK(q:RAn K B σ F H fs rs vs)(s:sat Z B (RR K B σ) F H (Gx Fn rs fs) Q):spX K rs.length Fn vs H Q λc _ H'=>EZ K Z c σ H':=by
 unfold Gx at s;split at s
 .rename_i nd;obtain⟨L9,μ,ok,cR,hl,hi⟩:=Kn q;obtain⟨Pp,p1,p2,p3,p4⟩:=lend ok hl hi nd cR;refine⟨q.len,⟨F.f,Pp⟩,Bx fs (rs.map AK),p2,?_⟩;split at s
  .rename_i t τ e;rw[e];split at s
   next ar eb=>intro F' H' u ax l k;obtain⟨Li,L',o1,⟨_,r⟩,_⟩:=k;obtain⟨le,L,o2,_⟩:=p4 F' H' τ ax Li ar l o1 eb;exact s ⟨F'.f,F.p⟩ H' u le (RR.of ⟨L,o2⟩ (AH.wp r))
   .exact s.elim
  .rename_i o τ e;rw[e];split at s
   .rename_i ar eb;intro F' H' u ax l k;obtain⟨Li,L',o1,r,nd,nf⟩:=k;obtain⟨le,L,o2,sub⟩:=p4 F' H' τ ax Li ar l o1 eb;refine s ⟨F'.f,F.p⟩ H' u le ⟨L,L',o2,AN.wp r,?_,λa m=>⟨(nf a m).1,λp=>(nf a m).2 (l.p a (p1 a p)).1⟩⟩;rw[qc]at nd ⊢;refine⟨o2.nd,nd.2.1,λa ha b hb e=>?_⟩;rcases sub a ha with z|z
    .exact nd.2.2 a z b hb e
    .exact(nf b hb).2 (l.p b (e▸z)).1
   .exact s.elim
  .rename_i c τ e;rw[e];split at s
   next ar eb=>intro C hC F' H' ax l k;obtain⟨Li,o1⟩:=k;obtain⟨le,L,o2,_⟩:=p4 F' H' τ ax Li ar l o1 eb;exact⟨⟨F'.f,F.p⟩,B,ar,c,C,hC,rfl,⟨L,o2⟩,Z.mono s le⟩
   .exact s.elim
  .exact s.elim
 .exact s.elim
variable{p:Nat}{np:Pos}
theorem Yw(G:FnAt X.prog X.w X.K X.mg X.base (CX1 X.prog X.w) x k ps (spX X.K p Fn))(hr:CL k X.A)(lk:Lks X Z)(ha:FAn X Z (e::es) fa)(hg:Gl X x:=by rfl)(aS:(x==("__debug__":Str))=false:=by decide)
  (he:starEach (e::es) X.env=(false,eval e X.env)::starEach es X.env:=by rfl) (aG:(backTo pos (starEach es X.env)).any (·.1)=false:=by rfl):FE X Z (.Call (.Name x pp) (e::es) [] pos) (Ac (Ai p Fn) fa):=by
 refine AE (WR G hr lk ha hg aS he aG) λσ H Q ao => ?_
 obtain⟨F,B,fs,ok,s⟩:= ao;refine⟨F,B,fs,ok,Ar s λrs af F1 H1 us l q s1=>?_⟩;unfold Ai at s1;split at s1
 next hp=>rw[<- hp];exact IK q s1
 .exact s1.elim
structure Jcf(K:Fg)(mg:Str->Option Value)(x:Str):Prop where
 ex:∃C,mg x=some (.ref C)/\Cq K x=some C/\excIn K C Vr "ValueError.__new__"=true
def A0(c:Str)(fa:FS->Out (List Rv)):FS->SO:=λfs=>SO.of (fa fs) λrs fs=>if rs.length<=1000 then .exc c fs else .bad
theorem P0(c:Jcf X.K X.mg x)(l:LkD X Z)(hc:X.calm=true)(ha:FA X Z (e::es) fa)(hg:Gl X x:=by rfl)(aS:(x==("__debug__":Str))=false:=by decide)
  (he:starEach (e::es) X.env=(false,eval e X.env)::starEach es X.env:=by rfl) (aG:(backTo aE (starEach es X.env)).any (·.1)=false:=by rfl) :
  GS X Z (.Raise (some (.Call (.Name x np) (e::es) [] aE)) none pos) (A0 x fa):=by
 obtain⟨C,h1,h2,h3⟩:=c.ex;refine B8 (O1 ⟨h1,h3⟩ l.d.ex hc l.k ha hg aS he aG) λD σ H ao => ?_
 obtain⟨F,B,fs,ok,s⟩:= ao;refine⟨F,B,fs,ok,B0 s λrs af F1 H1 us l q s1=>?_⟩;split at s1
 next hl=>exact⟨by rw[q.2.len];exact hl,F1,B,af,x,C,h2,rfl,q.1,s1⟩
 .exact s1.elim
def Vm(i:Nat)(cW:Str->Bool)(h:FS->SO)(c:Str)(fs:FS):SO:=if cW c=true then(match Jg i (.t (.zI c)) fs with|some fs=>(match h fs with|.nx fs=>(match fs[i]? with|some (some (.val _))=>.nx (fs.set i none)|_=>.bad)|.ret (.t t) fs=>.ret (.t t) fs|_=>.bad)|none=>.bad)else .bad
def Q1(i:Nat)(cW:Str->Bool)(g h:FS->SO):FS->SO:=λfs=>match g fs with|.exc c fs=>Vm i cW h c fs|o=>o
theorem Okk.forget(h:Okk K F B H fs σ)(e:fs[i]?=some (some (.val t))):Okk K F B H (fs.set i none) (σ.set i none):=by
 obtain⟨L,ok⟩:=h;obtain⟨v,L1,L2,L3,e1,rfl,h1,h2⟩:=ok.sl.pick e;have e2:L2=[]:=by obtain⟨u,rfl,q,z⟩:=h1;exact z
 subst e2;exact⟨L1++([]++L3),h2 F H none none [] Le.refl (λ_ _=>rfl) rfl,ok.nd,ok.nf,ok.fd,Eo.put ok.bo (λo eo=>by cases eo) ok.sl.len,ok.pd,ok.pf,ok.pl⟩
def Ztry(K:Fg)(Z:Xp)(i:Nat)(cW:Str->Bool)(h:FS->SO)(D:Ends):Xp:=⟨λF B H c fs=>Gf K Z B F H (Vm i cW h c fs) D,λq l=>Gf.le q l⟩
meta theorem Ul{i:Nat}{n:Str}{dH:Pos}{bp:List Stmt}{b4:Stmt}(cW:Str->Bool)(i:Nat)(l:LkD X Z)(hC:X.mg x=some (.ref C))(hN:X.N.Nodup)(hk:∀c C',cW c=true->Cq X.K c=some C'->exmOne X.K (.ref C') (.ref C)=some true)
  (hb:∀E' Z',LkD (X.EX E') Z'->GSs (X.EX E') Z' body g) (hs:∀a,GSs (X.hand a) Xp.no (b4::bp) h) (hi:X.N[i]?=some n:=by rfl) (hl:X.env.scope.names.lookup n=some .local:=by rfl) (hg:Gl X x:=by rfl) (aS:(x==("__debug__":Str))=false:=by decide) :
  GS0 X Z (.Try body [.ExceptHandler (some (.Name x np)) (some n) (b4::bp) dH] [] [] pos) (Q1 i cW g h):=by
 have key:=SW (np:=np) (pos:=pos) (dH:=dH) (body:=body) (b4:=b4) (bp:=bp) (th:=tSt X.K Xp.no h) (tb:=λD=>tSt X.K (Ztry X.K Z i cW h D) g) l.d hC hN (λD=>?_) hs hi hl hg aS
 .intro s0 σ H D I q;refine key s0 σ H D I ?_;obtain⟨F,B,fs,ok,s⟩:=q;refine⟨F,B,fs,ok,?_⟩;unfold Q1 at s;cases e:g fs with|nx af=>rwa[e]at s|ret r af=>rwa[e]at s|brk af=>rwa[e]at s|cnt af=>rwa[e]at s|exc c af=>rwa[e]at s|bad=>rwa[e]at s
 .refine hb _ _ ⟨⟨l.d.pn,l.d.ex,l.d.st,l.d.fr⟩,λe s q=>XW.imp (XW.EX q) λcv σ H z=>?_,XW.own l.d⟩;obtain⟨F,B,fs,c,C',kU,rfl,ok,z⟩:=z;have z:Gf X.K Z B F H (Vm i cW h c fs) D:=z;unfold Vm at z;split at z
  .rename_i jh;refine⟨hk c C' jh kU,λa ha=>?_⟩;split at z
   .rename_i ay e2;have dR:Le F H (LN F a) (upd H a (exO (.ref C') a)):=AA ok ha;refine⟨LN F a,B,ay,(Jf (RR.of (r:=.t (.zI c)) (u:=.ref a) (Okk.alloc ok ha) (by exact⟨a,C',rfl,.inr rfl,Am,kU⟩)) e2),?_⟩;cases eh:h ay with
    |nx bQ =>
     rw[eh]at z;dsimp only at z;split at z
     next t et=>exact λF' H' ax l k=>z F' H' _ (dR.trans l) (k.forget et)
     .exact z.elim
    |ret r bQ =>rw[eh]at z;cases r with|t t =>intro F' H' ax u l k;exact z F' H' ax u (dR.trans l) k|nw o=>exact z.elim|n j=>exact z.elim
    |brk bQ=>rw[eh]at z;exact z.elim
    |cnt bQ=>rw[eh]at z;exact z.elim
    |exc c bQ=>rwa[eh]at z
    |bad=>rwa[eh]at z
   .exact z.elim
  .exact z.elim
def UR(K:Fg)(ds:List Str)(tab:Str->Str->Bool)(c:Str):Bool:=match Cq K c with
 |some C=>excIn K C Vr "ValueError.__new__"&&(findIn K (.ref C) "__getattribute__"==some (some (.builtin "BaseException.__getattribute__")))&&(findIn K (.ref C) "__getattr__"==some none) &&
  (findIn K (.ref C) "__class__"==some (some (.builtin "object.__class__")))&&(PySem.W.specialIn K (.builtin "object.__class__") "__get__"==some (some (.builtin "getset_descriptor.__get__")))&&(PySem.W.takesIn K (.builtin "object.__class__")==some true) &&
  (mroIn K C (.type "object")==some true)&&(mroIn K C (.type "BaseException")==some true)&&(clsIn K C).isSome&&(kitOne K (.ref C) (.type "ValueError")==some true) &&
  ds.all λd=>match Cq K d with|some D=>(kitOne K (.ref C) (.ref D)==some (tab c d))&&(!tab c d||exmOne K (.ref C) (.ref D)==some true)|none=>false
 |none=>false
def YI(K:Fg)(rs ds:List Str)(tab:Str->Str->Bool):Bool:=rs.all (UR K ds tab)&&ds.all λd=>(Cq K d).isSome
structure IY(K:Fg)(mg:Str->Option Value)(rs ds:List Str)(tab:Str->Str->Bool):Prop where
 k:∀c∈rs,∀C,Cq K c=some C->PySem.W.ExK K C/\(clsIn K C).isSome=true
 own:∀c∈rs,∀d∈ds,∀C D,Cq K c=some C->Cq K d=some D->kitOne K (.ref C) (.ref D)=some (tab c d)/\(tab c d=true->exmOne K (.ref C) (.ref D)=some true)
 ve:∀c∈rs,∀C,Cq K c=some C->kitOne K (.ref C) (.type "ValueError")=some true
 at_:∀c∈rs,∃C,mg c=some (.ref C)/\Cq K c=some C/\excIn K C Vr "ValueError.__new__"=true
 yG:∀d∈ds,∃D,mg d=some (.ref D)/\Cq K d=some D
meta theorem RW{c}{h}(X:K.In h)(G:h.Ns mainGlobals mg)(e:Cq K c=some C):mg c=some (.ref C):=by
 unfold Cq at e;split at e
 next D q=>cases e;exact mg_of X G q
 .cases e
theorem IY.of{h}{rs}(X:K.In h)(G:h.Ns mainGlobals mg)(e:YI K rs ds tab=true):IY K mg rs ds tab:=by
 unfold YI at e;rw[qE]at e;obtain⟨e1,e2⟩:=e;have one:∀c∈rs,∀C,Cq K c=some C->excIn K C Vr "ValueError.__new__"=true/\PySem.W.ExK K C/\(clsIn K C).isSome=true/\kitOne K (.ref C) (.type "ValueError")=some true /\
   ∀d∈ds,∀D,Cq K d=some D->kitOne K (.ref C) (.ref D)=some (tab c d)/\(tab c d=true->exmOne K (.ref C) (.ref D)=some true):=λc hc C hC=>by
  have q:=qZ.mp e1 c hc;unfold UR at q;rw[hC]at q;simp only[qE,beq_iff_eq]at q;obtain⟨⟨⟨⟨⟨⟨⟨⟨⟨⟨q1,q2⟩,q3⟩,q4⟩,q5⟩,q6⟩,q7⟩,q8⟩,q9⟩,oY⟩,oZ⟩:=q;refine⟨q1,⟨q2,q3,q4,q5,q6,q7,q8⟩,q9,oY,λd hd D hD=>?_⟩;have z:=qZ.mp oZ d hd;rw[hD]at z;simp only[qE,beq_iff_eq]at z;refine⟨z.1,λht=>?_⟩;have z2:=z.2;rw[ht]at z2;simpa using z2
 refine⟨λc hc C hC=>⟨(one c hc C hC).2.1,(one c hc C hC).2.2.1⟩,λc hc d hd C D hC hD=>(one c hc C hC).2.2.2.2 d hd D hD,λc hc C hC=>(one c hc C hC).2.2.2.1,λc hc=>?_,λd hd=>?_⟩
 .have q:=qZ.mp e1 c hc;unfold UR at q;cases hC:Cq K c with|none=>rw[hC]at q;cases q|some C=>exact⟨C,RW X G hC,rfl,(one c hc C hC).1⟩
 .obtain⟨D,hD⟩:=sE.mp (qZ.mp e2 d hd);exact⟨D,RW X G hD,hD⟩
theorem IY.t1{c}{rs}(t:IY K mg rs ds tab)(h:c∈rs):Jcf K mg c:=⟨t.at_ c h⟩
def isX(cs:List Str)(tab:Str->Str->Bool)(d:Str)(f:FS->Out Rv):FS->Out Rv:=λfs=>(f fs).bnd λr fs=>match r with|.t (.zI c)=>if cs.contains c=true then okT (.v (tab c d)) fs else .bad|_=>.bad
variable{p:Pos}{cs ds:List Str}{tab:Str->Str->Bool}
meta theorem Yq(t:IY X.K X.mg cs ds tab)(hm:X.mg "isinstance"=none)(hx:x∈ds)(ha:FE X Z a f)(hg:Gl X "isinstance":=by rfl)(eD:Gl X x:=by rfl)(aS:(x==("__debug__":Str))=false:=by decide)
  (hs:starEach [a,.Name x p2] X.env=(false,eval a X.env)::starEach [.Name x p2] X.env:=by rfl) (ba:starEach [.Name x p2] X.env=[(false,eval (.Name x p2) X.env)]:=by rfl) (aG:(backTo pos (starEach [.Name x p2] X.env)).any (·.1)=false:=by rfl) :
  FE X Z (.Call (.Name "isinstance" p) [a,.Name x p2] [] pos) (isX cs tab x f):=by
 obtain⟨D,h1,h2⟩:=t.yG x hx;refine AE (GN Gw hg hm boot_isinstance (Cy ha (Cy (λaa s σ H Q I h=>Dx I eD h1 ⟨.ref D,H,I,rfl,h⟩ aS) Gm ba) hs) (by decide) (by decide) hs aG) λσ H Q ao=>?_
 obtain⟨F,B,fs,ok,s⟩:= ao;refine⟨F,B,fs,ok,Aq s λr af F1 H1 u l1 az rx s1=>?_⟩;split at s1
 .rename_i c;split at s1
  .rename_i hc;have hc:=by simpa using hc
   obtain⟨b,C,rfl,fb,hb,hC⟩:=rx;exact⟨b,C,.ref D,.ref D,_,rfl,(λu z=>z),hb,(t.k c hc C hC).1,(t.k c hc C hC).2,(t.own c hc x hx C D hC h2).1,s1 F1 H1 _ Le.refl (RR.of az rfl)⟩
  .exact s1.elim
 .exact s1.elim
def isV(cs:List Str)(f:FS->Out Rv):FS->Out Rv:=λfs=>(f fs).bnd λr fs=>match r with|.t (.zI c)=>if cs.contains c=true then okT (.v true) fs else .bad|_=>.bad
meta theorem Yr(t:IY X.K X.mg cs ds tab)(hm:X.mg "isinstance"=none)(cL:X.mg "ValueError"=none)(ha:FE X Z a f)(hg:Gl X "isinstance":=by rfl)(eD:Gl X "ValueError":=by rfl)
  (hs:starEach [a,.Name "ValueError" p2] X.env=(false,eval a X.env)::starEach [.Name "ValueError" p2] X.env:=by rfl) (ba:starEach [.Name "ValueError" p2] X.env=[(false,eval (.Name "ValueError" p2) X.env)]:=by rfl) (aG:(backTo pos (starEach [.Name "ValueError" p2] X.env)).any (·.1)=false:=by rfl) :
  FE X Z (.Call (.Name "isinstance" p) [a,.Name "ValueError" p2] [] pos) (isV cs f):=by
 refine AE (GN Gw hg hm boot_isinstance (Cy ha (Cy (Td (v:=.ty "ValueError") eD cL PyProof.Rows.Boot.«ValueError» rfl) Gm ba) hs) (by decide) (by decide) hs aG) λσ H Q ao=>?_
 obtain⟨F,B,fs,ok,s⟩:= ao;refine⟨F,B,fs,ok,Aq s λr af F1 H1 u l1 az rx s1=>?_⟩;split at s1
 .rename_i c;split at s1
  .rename_i hc;have hc:=by simpa using hc
   obtain⟨b,C,rfl,fb,hb,hC⟩:=rx;exact⟨b,C,.ty "ValueError",.type "ValueError",_,rfl,(λu z=>z),hb,(t.k c hc C hC).1,(t.k c hc C hC).2,t.ve c hc C hC,s1 F1 H1 _ Le.refl (RR.of az rfl)⟩
  .exact s1.elim
 .exact s1.elim
theorem P6{rs}(t:IY X.K X.mg rs ds tab)(hx:x∈ds)(i:Nat)(l:LkD X Z)(hN:X.N.Nodup)
  (hb:∀E' Z',LkD (X.EX E') Z'->GSs (X.EX E') Z' body g) (hs:∀a,GSs (X.hand a) Xp.no (b4::bp) h) (hi:X.N[i]?=some n:=by rfl) (hl:X.env.scope.names.lookup n=some .local:=by rfl) (hg:Gl X x:=by rfl) (aS:(x==("__debug__":Str))=false:=by decide) :
  GS0 X Z (.Try body [.ExceptHandler (some (.Name x np)) (some n) (b4::bp) dH] [] [] pos) (Q1 i (λc=>rs.contains c&&tab c x) g h):=by
 obtain⟨C,h1,h2⟩:=t.yG x hx;refine Ul (i:=i) _ i l h1 hN (λc C' ho hc=>?_) hb hs hi hl hg aS;rw[qE]at ho;exact(t.own c (by simpa using ho.1) x hx C' C hc h2).2 ho.2
def Jbh:Rv->List Rv->FS->Out Rv
 |x,[.t (.v true)],fs=>match(Du fs x).bind CQ with
  |some bs=>match bs.findIdx? id with|some j=>okT (.int ((j:Nat):Int)) fs|none=>.bad
  |none=>.bad
 |_,_,_=>.bad
meta theorem Pw:MtF K Z (λx vs H Q=>∃(l:Addr)(bs:List Bool)(j:Nat),x=.ref l/\vs=[.v true]/\SqL K H l (bs.map V.v)/\bs[j]?=some true/\(∀m,m<j->bs[m]?=some false)/\Q (.int ((j:Nat):Int)) H) Jbh:=by
 intro F B H σ fs x rs u vs Q ok rx q s;unfold Jbh at s;split at s
 .obtain⟨v,rfl,qq⟩:=A3 q;subst(by simpa only[Cr,AH]using qq);split at s
  .rename_i bs e;rw[qQ]at e;obtain⟨ts,e1,e2⟩:=e;obtain⟨a,us,rfl,hs,r⟩:=Br ok rx e1;rw[EU e2]at r;rw[Ah.bls r]at hs;split at s
   next j ej=>obtain⟨hj,h1,h2⟩:=List.findIdx?_eq_some_iff_getElem.mp ej;refine⟨a,bs,j,rfl,rfl,hs,by rw[qb hj];exact congrArg some h1,λm hm=>?_,s F H _ Le.refl (RR.of ok rfl)⟩;have:=h2 m hm;rw[qb (se hm hj)];simpa using this
   .exact s.elim
  .exact s.elim
 .exact s.elim
theorem V4{p}(h:spF K p Fn vs H Q E):spX K p Fn vs H Q E':=by obtain⟨h1,F,cw,ok,h⟩:=h;refine⟨h1,F,cw,ok,?_⟩;cases e:Fn cw with|ok r τ=>rwa[e]at h|exc c τ=>rw[e]at h;exact h.elim|bad=>rwa[e]at h
variable{p j:Nat}{cp fp jp:Pos}{v:Expr}{a:Str}
def Ec(C:Addr)(m:Str)(p:Nat)(Fn:FS->Out Rv)(fo:FS->Out Rv)(fa:FS->Out (List Rv)):FS->Out Rv:=λfs=>(fo fs).bnd λx fs=>if GW C m fs x=true then(fa fs).bind λrs fs=>Ai p Fn (x::rs) fs else .bad
theorem Yk(G:Vt X.prog X.w X.K X.mg X.base (CX1 X.prog X.w) C m k ps (spX X.K p Fn))(hr:CL k X.A)(lk:Lks X Z)(ho:FE X Z o fo)(ha:FAn X Z (e::es) fa)
  (cQ:starEach (e::es) X.env=(false,eval e X.env)::starEach es X.env:=by rfl) (aG:(backTo pos (starEach es X.env)).any (·.1)=false:=by rfl)
  (ht:eval (.Call (.Attribute o m aD) (e::es) [] pos) X.env=(do
   let ov <- eval o X.env
   standAt aD.atName
   let(f,first) <- holding [ov] (getMethod ov m pl)
   callWith pos f first (backTo pos (starEach (e::es) X.env)) (backToKw pos (keywordEach [] X.env))):=by rfl) :
  FE X Z (.Call (.Attribute o m aD) (e::es) [] pos) (Ec C m p Fn fo fa):=by
 refine AE (WL G hr lk ho ha cQ aG ht) λσ H Q ao => ?_
 obtain⟨F,B,fs,ok,s⟩:= ao;refine⟨F,B,fs,ok,Aq s λr af F1 H1 u l az rx s1=>?_⟩;split at s1
 .rename_i hi;obtain⟨a,dx,ag,rfl,hd,hn⟩:=Km az rx hi;refine⟨a,dx,ag,rfl,hd,hn,F1,B,af,az,Ar s1 λrs ay F2 H2 us l2 q s2=>?_⟩;unfold Ai at s2;split at s2
  next hp=>rw[<- hp];obtain⟨L9,M9,o9,q9,oM,oQ⟩:=q;refine IK ⟨L9,M9,o9,⟨_,us,[],M9,rfl,?_,q9,rfl⟩,oM,oQ⟩ s2;have iR:=rx.le l2;cases r with|t t=>exact⟨rfl,iR⟩|nw o=>exact iR.elim|n i=>exact⟨rfl,iR⟩
  .exact s2.elim
 .exact s1.elim
theorem UH(G:Vt X.prog X.w X.K X.mg X.base (CX1 X.prog X.w) C m k ps (spX X.K p Fn))(hr:CL k X.A)(ho:FE X Z o fo)
  (h:∀{ta:TE},PE X o ta->PE X (.Call (.Attribute o m aD) [] [] pos) (Su C m (spX X.K p Fn) [] E0 ta Ze)):FE X Z (.Call (.Attribute o m aD) [] [] pos) (Ln C m p Fn fo Ag):=by
 refine AE (h ho) λσ H Q ao => ?_
 obtain⟨F,B,fs,ok,s⟩:= ao;refine⟨F,B,fs,ok,Aq s λr af F1 H1 u l az rx s1=>?_⟩;split at s1
 .rename_i hi;obtain⟨a,dx,ag,rfl,hd,hn⟩:=Km az rx hi;refine⟨a,dx,ag,rfl,hd,hn,?_⟩;have s2:sat Z B (RR X.K B σ) F1 H1 (N4 p Fn [r] af) Q:=s1;unfold N4 at s2;split at s2
  next hp=>rw[<- hp];obtain⟨L9,o9⟩:=az;refine V4 (E:=E0) (QL ⟨L9,[],o9,⟨_,[],[],[],rfl,?_,⟨rfl,rfl⟩,rfl⟩,by simpa using o9.nd,(λ_ m=>nomatch m)⟩ s2);cases r with|t t=>exact⟨rfl,rx⟩|nw o=>exact rx.elim|n i=>exact⟨rfl,rx⟩
  .exact s2.elim
 .exact s1.elim
theorem Ym(G:Vu X.prog X.w X.K X.mg X.base (CX1 X.prog X.w) x C k ps (spX X.K p Fn))(hr:CL (k+1) X.A)(ha:FAn X Z (e::es) fa)(hg:Gl X x:=by rfl)(aS:(x==("__debug__":Str))=false:=by decide)
  (he:starEach (e::es) X.env=(false,eval e X.env)::starEach es X.env:=by rfl) (aG:(backTo pos (starEach es X.env)).any (·.1)=false:=by rfl):FE X Z (.Call (.Name x pp) (e::es) [] pos) (Ac (GU C p Fn) fa):=by
 refine AE (JaJ G hr WU ha hg aS he aG) λσ H Q ao => ?_
 obtain⟨F,B,fs,ok,s⟩:= ao;refine⟨F,B,fs,ok,Ar s λrs af F1 H1 us l q s1=>?_⟩;intro a dx h1 h2 h3;rw[qS];exact V4 (E:=E0) (Pz q s1 h1 h2 h3)
theorem Ay.app:∀{os:List FO}{o:FO}{vs:List V}{v:V}{L1 L2:List Addr},Ay K F H os vs L1->AN K F H o v L2->Ay K F H (os++[o]) (vs++[v]) (L1++L2)
 | [],o,vs,v,L1,L2,h,g=>by
  obtain⟨rfl,rfl⟩:=(show vs=[]/\L1=[] by simpa only[Ay]using h)
  exact⟨v,[],L2,[],rfl,g,⟨rfl,rfl⟩,by simp⟩
 |x::os,o,vs,v,L1,L2,h,g=>by obtain⟨w,r,M1,M2,rfl,h1,h2,rfl⟩:=h;exact⟨w,r++[v],M1,M2++L2,rfl,h1,Ay.app h2 g,by simp⟩
def Vp:List Rv->FS->Out Rv
 | [x],fs=>match(Du fs x).bind CQ with|some ns=>okT (.v (ns.any id)) fs|none=>.bad
 |_,_=>.bad
meta theorem Y1:Cs K Z (λxs H Q=>∃(l:Addr)(bs:List Bool),xs=[.ref l]/\SqL K H l (bs.map V.v)/\Q (.v (bs.any id)) H) Vp:=by
 intro F B H σ fs rs vs Q ok q s;unfold Vp at s;split at s
 .obtain⟨v,rfl,qq⟩:=A3 q;split at s
  next ns e=>rw[qQ]at e;obtain⟨ts,e1,e2⟩:=e;obtain⟨a,us,rfl,hs,r⟩:=Br ok qq e1;rw[EU e2]at r;rw[Ah.bls r]at hs;exact⟨a,ns,rfl,hs,s F H _ Le.refl (RR.of ok rfl)⟩
  .exact s.elim
 .exact s.elim
variable{a:Expr}{p aR:Pos}
theorem YB(hm:X.mg "any"=none)(ha:FA X Z (e::es) fa)(hc:X.calm=true:=by rfl)(hg:Gl X "any":=by rfl)(he:starEach (e::es) X.env=(false,eval e X.env)::starEach es X.env:=by rfl)(aG:(backTo pos (starEach es X.env)).any (·.1)=false:=by rfl):
  FE X Z (.Call (.Name "any" p) (e::es) [] pos) (Ac Vp fa):=EN Y1 (QJ hc) hm boot_any ha hg (by decide) (by decide) he aG
def jsF:List (FS->Out Rv)->Str->FS->Out Rv
 | [],av=>λfs=>if av.length<=big then okT (.str av) fs else .bad
 |f::r,av=>λfs=>(f fs).bnd λx fs=>match x with|.t (.str z)=>if(av++z).length<=big then jsF r (av++z) fs else .bad|_=>.bad
inductive FEs(X:Cx)(Z:Xp):List Expr->List (FS->Out Rv)->Prop
 |nil:FEs X Z [] []
 |cons {e:Expr} {f:FS->Out Rv} {es:List Expr} {gs:List (FS->Out Rv)} (h:FE X Z e f) (r:FEs X Z es gs):FEs X Z (e::es) (f::gs)
variable{v1 v2:Expr}{gs:List (FS->Out Rv)}
theorem FEs.pes(h:FEs X Z es gs):PEs X es (gs.map (tF X.K Z)):=by induction h with|nil=>exact .nil|cons h r ih=>exact .cons h ih
meta theorem Jb4:∀(gs:List (FS->Out Rv))(av:Str){σ:St}{H:Hp}{Q:VK}{F:Wd}{B:Nat->Option V}{fs:FS},Okk K F B H fs σ->sat Z B (RR K B σ) F H (jsF gs av fs) Q->tJs (gs.map (tF K Z)) av σ H Q
 | [],av,σ,H,Q,F,B,fs,ok,s=>by
  unfold jsF at s;split at s
  next hl=>exact⟨qF hl CO,s F H _ Le.refl (RR.of ok rfl)⟩
  .exact s.elim
 |g::gs,av,σ,H,Q,F,B,fs,ok,s=>by
  refine⟨F,B,fs,ok,Aq (k:=λx fs=>match x with|.t (.str z)=>if(av++z).length<=big then jsF gs (av++z) fs else .bad|_=>.bad) s λr af F1 H1 u l az rx s1=>?_⟩;split at s1
  .rename_i z;split at s1
   next hz=>exact⟨z,rx,qF hz CO,Jb4 gs (av++z) az s1⟩
   .exact s1.elim
  .exact s1.elim
theorem Jbx(h:FEs X Z (v1::v2::es) gs):FE X Z (.JoinedStr (v1::v2::es) jp) (jsF gs Str.empty) :=
 AE (JaK h.pes) λσ H Q ⟨F,B,fs,ok,s⟩=>Jb4 gs Str.empty ok s
variable{ts:List Str}
def Y8:T->Bool
 |.l=>true
 |.v _=>true
 |.int _=>true
 |.str _=>true
 |_=>false
theorem AH.atom:∀{t:T}{v:V},Y8 t=true->AH K F H t v->AH K F' H t v/\∀b,v≠.ref b
 |.l,_,_,h=>by cases h;exact⟨rfl,λ_=>nofun⟩
 |.v _,_,_,h=>by cases h;exact⟨rfl,λ_=>nofun⟩
 |.int _,_,_,h=>by cases h;exact⟨rfl,λ_=>nofun⟩
 |.str _,_,_,h=>by cases h;exact⟨rfl,λ_=>nofun⟩
 |.tup _,_,e,_=>by cases e
 |.lst _,_,e,_=>by cases e
 |.z0 _,_,e,_=>by cases e
 |.o _ _,_,e,_=>by cases e
 |.dT _ _,_,e,_=>by cases e
 |.ins _ _ _,_,e,_=>by cases e
 |.dF _ _,_,e,_=>by cases e
 |.zI _,_,e,_=>by cases e
def DQ(C:Addr)(p:Nat)(Fn:FS->Out Rv)(rs:List Rv)(fs:FS):Out Rv :=
 if(Dk fs (rs.map AK)).Nodup/\rs.length+1=p then(match Fn (some (.bor (.ins C [] []))::Bx fs (rs.map AK))with|.ok (.t .l) (some (.bor o)::τ)=>(match Dl (rs.map AK) τ fs with|some ar=>.ok (.nw o) ar|none=>.bad)|.exc c (s0::τ)=>(match Dl (rs.map AK) τ fs with|some ar=>.exc c ar|none=>.bad)|_=>.bad)else .bad
variable{p:Nat}
meta theorem Py(q:RAn K B σ F H fs rs vs)(s:sat Z B (RR K B σ) F H (DQ C p Fn rs fs) Q)
  {x dx:Addr} (hx:H x=none) (lb:H dx=none) (aI:dx≠x):spX K p Fn (.ref x::vs) (upd (upd H dx (.own x)) x (.ins C dx [])) (λv H2=>v=.l/\Q (.ref x) H2) λc _ H'=>EZ K Z c σ H':=by
 unfold DQ at s;split at s
 .rename_i hh;obtain⟨nd,hp⟩:=hh;obtain⟨L9,μ,ok,cR,hl,hi⟩:=Kn q;obtain⟨Pp,p1,⟨L0,p2⟩,p3,p4⟩:=lend ok hl hi nd cR;have l0:∀a,H a≠none->(upd (upd H dx (.own x)) x (.ins C dx [])) a=H a:=λa h=>by rw[Aj (λe=>h (by rw[e];exact hx)),Aj (λe=>h (by rw[e];exact lb))]
  have gN:Le ⟨F.f,Pp⟩ H ⟨F.f,Pp⟩ (upd (upd H dx (.own x)) x (.ins C dx [])):=⟨λa f=>⟨f,l0 a (p2.fd a f)⟩,λa f=>⟨f,l0 a (p3 a f)⟩⟩
  refine⟨by rw[qL,q.len];exact hp,⟨F.f,Pp⟩,some (.bor (.ins C [] []))::Bx fs (rs.map AK),?_,?_⟩
  .refine⟨[x]++L0,Ap.cons ⟨.ref x,rfl,?_⟩ (p2.sl.le gN λa m=>l0 a (p2.sl.def a m)),?_,λa m=>?_,λa f=>?_,λi o e=>?_,λa f=>?_,p2.pf,λa m=>?_⟩
   .simp only[AN];exact⟨x,dx,[],[],rfl,Am,rfl,⟨rfl,rfl⟩,rfl⟩
   .rw[qc];exact⟨by simp,p2.nd,λa ha b hb e=>p2.sl.def b hb (by rw[<- e,qj.mp ha];exact hx)⟩
   .rcases qd.mp m with m|m
    .rw[qj.mp m];exact λf=>p2.fd x f hx
    .exact p2.nf a m
   .rw[l0 a (p2.fd a f)];exact p2.fd a f
   .cases i with|zero=>exact⟨.ref x,rfl,rfl⟩|succ i=>exact p2.bo i o (by simpa using e)
   .rw[l0 a (p3 a f)];exact p3 a f
   .rcases qd.mp m with m|m
    .rw[qj.mp m];exact λf=>p3 x f hx
    .exact p2.pl a m
  .split at s
   .rename_i o τ e;rw[e];split at s
    .rename_i ar eb;intro F' H' u ax l k;obtain⟨gY,L',o1,⟨_,r⟩,_⟩:=k;refine⟨r,?_⟩;obtain⟨v,cG,L1,L2,rfl,h1,h2,rfl⟩:=o1.sl.Ep;obtain⟨w,rfl,ro⟩:=h1;obtain⟨w',e3,e4⟩:=o1.bo 0 o rfl;have ew:w=.ref x:=by have z1:=e3;have z2:=e4;cases z1;cases z2;rfl
     subst ew;have bh:=qc.mp o1.nd;have o2:Ok K F' (Bof (vs.map some)) H' τ cG L2:=⟨h2,bh.2.1,λa m=>o1.nf a (qt _ m),o1.fd,λi ob eo=>by obtain⟨v,z1,z2⟩:=o1.bo (i+1) ob (by simpa using eo);exact⟨v,by simpa using z1,by have z3:=z2;simpa[Bof]using z3⟩,o1.pd,o1.pf,λa m=>o1.pl a (qt _ m)⟩
     have l':=gN.trans l;obtain⟨le,L,o3,sub⟩:=p4 F' H' τ cG L2 ar l' o2 eb;refine s ⟨F'.f,F.p⟩ H' (.ref x) le ⟨L,L1,o3,AN.wp ro,?_,λa m=>⟨o1.nf a (qk _ m),λp=>o1.pl a (qk _ m) (l'.p a (p1 a p)).1⟩⟩;rw[qc];refine⟨o3.nd,bh.1,λa ha b hb e=>?_⟩;rcases sub a ha with z|z
     .exact bh.2.2 b hb a z e.symm
     .exact o1.pl b (qk _ hb) (l'.p b (e▸z)).1
    .exact s.elim
   .rename_i c s0 τ e;rw[e];split at s
    .rename_i ar eb;intro C' hC F' H' ax l k;obtain⟨gY,o1⟩:=k;obtain⟨v,cG,L1,L2,rfl,h1,h2,rfl⟩:=o1.sl.Ep;have bh:=qc.mp o1.nd;have o2:Ok K F' (Bof (vs.map some)) H' τ cG L2:=⟨h2,bh.2.1,λa m=>o1.nf a (qt _ m),o1.fd,λi ob eo=>by obtain⟨v,z1,z2⟩:=o1.bo (i+1) ob (by simpa using eo);exact⟨v,by simpa using z1,by have z3:=z2;simpa[Bof]using z3⟩,o1.pd,o1.pf,λa m=>o1.pl a (qt _ m)⟩
     have l':=gN.trans l;obtain⟨le,L,o3,sub⟩:=p4 F' H' τ cG L2 ar l' o2 eb;exact⟨⟨F'.f,F.p⟩,B,ar,c,C',hC,rfl,⟨L,o3⟩,Z.mono s le⟩
    .exact s.elim
   .exact s.elim
 .exact s.elim
theorem Yn(G:Vu X.prog X.w X.K X.mg X.base (CX1 X.prog X.w) x C k ps (spX X.K p Fn))(hr:CL (k+1) X.A)(lk:Lks X Z)(ha:FAn X Z (e::es) fa)(hg:Gl X x:=by rfl)(aS:(x==("__debug__":Str))=false:=by decide)
  (he:starEach (e::es) X.env=(false,eval e X.env)::starEach es X.env:=by rfl) (aG:(backTo pos (starEach es X.env)).any (·.1)=false:=by rfl):FE X Z (.Call (.Name x pp) (e::es) [] pos) (Ac (DQ C p Fn) fa):=by
 refine AE (WN G hr lk ha hg aS he aG) λσ H Q ao => ?_
 obtain⟨F,B,fs,ok,s⟩:= ao;refine⟨F,B,fs,ok,Ar s λrs af F1 H1 us l q s1=>?_⟩;intro a dx h1 h2 h3;rw[qS];exact Py q s1 h1 h2 h3
variable{fa:FS->Out Rv}{fl:FS->Out (List Rv)}{p:Pos}
variable{a a2:Str}{w:Expr}{g:FS->Out Rv}{j2:Nat}{kN m6:Pos}
def Nd:Rv->Rv->FS->Out Rv
 |.t .l,.t .l,fs=>okT (.v false) fs
 |.t (.zI _),.t .l,fs=>okT (.v true) fs
 |.t (.tup _),.t .l,fs=>okT (.v true) fs
 |_,_,_=>.bad
theorem Ts:OpF K Z (λx y H Q=>y=.l/\Q (.v (!decide (x=.l))) H) Nd:=by
 intro F B H σ fs x y u w Q ok rx ry s;unfold Nd at s;split at s
 .cases rx;cases ry;exact⟨rfl,s F H _ Le.refl (RR.of ok rfl)⟩
 .cases ry;simp only[Cr,AH]at rx;obtain⟨a,C,rfl,_⟩:=rx;exact⟨rfl,s F H _ Le.refl (RR.of ok rfl)⟩
 .cases ry;simp only[Cr,AH]at rx;obtain⟨a,vs,rfl,_⟩:=rx;exact⟨rfl,s F H _ Le.refl (RR.of ok rfl)⟩
 .exact s.elim
variable{a:Expr}
theorem Nm(ha:FE X Z a fa)(hb:FE X Z b fb):FT X Z (.Compare a [.IsNot] [b] pos) (asB (Ae Nd fa fb)):=Dq Ts Te ha hb (CY _)
theorem JH{f}{o}:∀{ag:List (Str×V)}{os:List FO}{L:List Addr},Ay K F H os (ag.map (·.2)) L->Bw (ag.map (·.1)) os f=some o ->
  ∃v L1 A Z,ag.lookup f=some v/\AN K F H o v L1/\L=A++(L1++Z)/\∀H' o' dB,(∀a∈A++Z,H' a=H a)->Le F H F H'->AN K F H' o' v dB->Ay K F H' (BZ (ag.map (·.1)) os f o') (ag.map (·.2)) (A++(dB++Z))
 | [],os,L,r,e=>by cases os<;>simp[Bw]at e
 |(g,x)::ag,os,L,r,e=>by
  cases os with
  |nil=>simp[Bw]at e
  |cons o1 os =>
   obtain⟨v,w,L1,L2,ee,r1,r2,rfl⟩:=r;cases ee;simp only[qi,Bw]at e;rw[qX];cases hb:f==g with
   |true =>rw[hb]at e;cases e;refine⟨x,L1,[],L2,rfl,r1,rfl,λH' o' dB k l ro=>?_⟩;simp only[qi,BZ,hb,Ay];exact⟨x,_,dB,L2,rfl,ro,Ay.le l (λa m=>k a (by simpa using m)) r2,rfl⟩
   |false =>
    rw[hb]at e;obtain⟨v,M,A,Z,h1,h2,rfl,h3⟩:=JH r2 (by simpa using e);refine⟨v,M,L1++A,Z,h1,h2,by simp,λH' o' dB k l ro=>?_⟩;have:=h3 H' o' dB (λa m=>k a (by
     rcases qd.mp m with m|m
     .simp[m]
     .simp[m])) l ro
    simp only[qi,BZ,hb];exact⟨x,_,L1,_,rfl,r1.le l λa m=>k a (by simp[m]),this,by simp⟩
theorem Okk.fld{gs}{o}{f}{os:List FO}(ok:Okk K F B H fs σ)(e:AF fs i=some (.ins C gs os))(ef:Bw gs os f=some o):
  ∃a dx ag v L1,σ[i]?=some (some (.ref a))/\H a=some (.ins C dx ag)/\ag.map (·.1)=gs/\ag.lookup f=some v/\AN K F H o v L1/\a∉L1/\(∀b∈L1,¬F b/\¬F.p b)/\L1.Nodup /\
   ∀o' H',(∀b,b∉L1->H b≠none->H' b=H b)->AN K F H' o' v L1->Okk K F B H' (putAt fs i (.ins C gs (BZ gs os f o'))) σ/\Le F H F H':=by
 obtain⟨v,L2,a1,a2,a3,a4,a5⟩:=ok.own e;have d2:=AN.def a2;obtain⟨a,dx,ag,L3,rfl,hd,rfl,ro,rfl⟩:=a2;obtain⟨v,L1,A,Z,e1,r1,rfl,bk⟩:=JH ro ef;have nd:=qR.mp a4;have gG:=qc.mp nd.2;have iL:=qc.mp gG.2.1;have m1:∀b∈L1,b∈a::(A++(L1++Z)):=λb m=>by simp[m]
 refine⟨a,dx,ag,v,L1,a1,hd,rfl,e1,r1,λm=>nd.1 (by simp[m]),λb m=>a3 b (m1 b m),iL.1,λo' H' k jw=>?_⟩;have q:=bk H' o' L1 (λb m=>k b (λm1=>by
   rcases qd.mp m with m|m
   .exact gG.2.2 b m b (qk _ m1) rfl
   .exact iL.2.2 b m1 b m rfl) (d2 b (by
   rcases qd.mp m with m|m
   .simp[m]
   .simp[m]))) (by
  obtain⟨L,o9⟩:=ok;exact⟨λb f=>⟨f,k b (λm=>(a3 b (m1 b m)).1 f) (o9.fd b f)⟩,λb f=>⟨f,k b (λm=>(a3 b (m1 b m)).2 f) (o9.pd b f)⟩⟩) jw
 exact a5 _ H' (λb hb hn=>k b (λm=>hb (m1 b m)) hn) (by exact⟨a,dx,ag,_,rfl,by rw[k a (λm=>nd.1 (by simp[m])) (d2 a (by simp))];exact hd,rfl,q,rfl⟩)
variable{f:Str}
variable{p3 p4 p5 p6:Pos}
def Y9:FO->Option (List Key×List FO)
 |.o [] []=>some ([],[])
 |.dO ks os=>some (ks,os)
 |_=>none
theorem QR{o}{v}{os:List FO}(e:Y9 o=some (ks,os))(r:AN K F H o v L):
  ∃a ag L',v=.ref a/\H a=some (.o ag)/\ag.map (·.1)=ks/\Ay K F H os (ag.map (·.2)) L'/\L=a::L':=by
 unfold Y9 at e;split at e
 .cases e;obtain⟨a,ag,rfl,hd,hk,_,rfl⟩:=r;have:=by simpa using hk
  subst this;exact⟨a,[],[],rfl,hd,rfl,⟨rfl,rfl⟩,rfl⟩
 .cases e;exact r
 .cases e
def JK(C:Addr)(f:Str)(i jy:Nat):FS->SO:=λfs=>match AF fs i,fs[jy]? with|some (.ins C' gs os),some (some (.val y))=>if C'=C then(match Bw gs os f,FN y with|some o,some k=>(match Y9 o with|some (ks,ds)=>if ks.length<big/\(ks.any λq=>decide (q=k))=false then .nx (putAt fs i (.ins C gs (BZ gs os f (.dO (ks++[k]) (ds++[.o [] []])))))else .bad|none=>.bad)|_,_=>.bad)else .bad|_,_=>.bad
theorem OW{v}{k:Key}(h:k∉ag.map (·.1)):putK ag k v=ag++[(k,v)]:=by unfold putK;rw[if_neg];intro z;obtain⟨q,hq,e⟩:=sO.mp z;exact h (qm.mpr ⟨q,hq,qG e⟩)
meta theorem P2{y}(hu:X.A.units+1<cLine)(c:Cls X.K C)(n:A8 X.K C f)(i jy:Nat)(hx:PE X (.Name x p1) (Oh i))(hy:PE X (.Name y p3) (Oh jy))(jN:attributeBase (.Name x p1) f X.env (eval (.Name x p1) X.env)=eval (.Name x p1) X.env:=by rfl)
  (hs:swapsWith (.Dict [] [] p5) (some (.Subscript (.Attribute (.Name x p1) f p2) (.Name y p3) p4)) pos.line X.env=pure false:=by rfl) :
  GS X Z (.Assign [.Subscript (.Attribute (.Name x p1) f p2) (.Name y p3) p4] (.Dict [] [] p5) pos) (JK C f i jy):=by
 refine B8 (Jl hu (J8 hx jN) hy J9 hs) λD σ H ao=>?_
 obtain⟨F,B,fs,ok,s⟩:= ao;unfold JK at s;split at s
 .rename_i C' gs os y' eo ey;split at s
  .rename_i hC;subst hC;split at s
   .rename_i o k ef ek;split at s
    .rename_i ks ds ed;split at s
     .rename_i hk;intro p hp;have q:RR X.K B σ F (upd H p (.o [])) fs (.nw (.o [] [])) (.ref p):=RR.alloc ok hp (by exact⟨p,[],rfl,Am,rfl,rfl,rfl⟩);obtain⟨v,L2,L',a1,a2,a3,a4,a5,a6⟩:=RR.put q eo;obtain⟨a,dx,ag,L3,rfl,hd,rfl,ro,rfl⟩:=a2;obtain⟨v1,M1,A,Zz,e1,r1,rfl,bk⟩:=JH ro ef;obtain⟨b,aH,M2,rfl,aS,rfl,ku,rfl⟩:=QR ed r1;have eL:L'=[p]:=by have a3:AN X.K F (upd H p (.o [])) (.o [] []) (.ref p) L':=a3;obtain⟨_,_,z,_,_,_,rfl⟩:=a3;cases z;rfl
      subst eL;obtain⟨L9,o9⟩:=id q.ok;obtain⟨w,N1,N2,N3,e6,_,h1,_⟩:=o9.sl.pick ey;obtain⟨uy,rfl,ry,_⟩:=h1;have:=Ct ek ry;subst this;have nb:=a5 b (by simp);have mb:b∈a::(A++((b::M2)++Zz)):=by simp
      have fZ:=qc.mp a4;have bh:=qR.mp fZ.1;have gG:=qc.mp bh.2;have iL:=qc.mp gG.2.1;have l1:Le F (upd H p (.o [])) F (upd (upd H p (.o [])) b (.o (aH++[(k,.ref p)]))):=⟨λz f=>⟨f,Aj λq=>nb.1 (q▸f)⟩,λz f=>⟨f,Aj λq=>nb.2 (q▸f)⟩⟩
      have o4:AN X.K F (upd (upd H p (.o [])) b (.o (aH++[(k,.ref p)]))) (.dO (aH.map (·.1)++[k]) (ds++[.o [] []])) (.ref b) (b::(M2++[p])):=by refine⟨b,aH++[(k,.ref p)],M2++[p],rfl,Am,by simp,?_,rfl⟩;rw[qh];refine Ay.app (Ay.le l1 (λz m=>Aj λq=>(qR.mp iL.1).1 (q▸m)) ku) ?_;exact⟨p,[],rfl,by rw[Aj (λz=>fZ.2.2 b mb p (by simp) z.symm)];exact Am,rfl,rfl,rfl⟩
      obtain⟨cU,l'⟩:=a6 (.ins C' (ag.map (·.1)) (BZ (ag.map (·.1)) os f (.dO (aH.map (·.1)++[k]) (ds++[.o [] []])))) (upd (upd H p (.o [])) b (.o (aH++[(k,.ref p)]))) (a::(A++((b::(M2++[p]))++Zz))) (λz hz _=>Aj λq=>hz (by rwa[q])) (by
       exact⟨a,dx,ag,_,rfl,by rw[Aj (λz=>bh.1 (by rw[z];simp))];exact hd,rfl,(bk (upd (upd H p (.o [])) b (.o (aH++[(k,.ref p)]))) _ _ (λz m=>Aj λq=>by
       subst q;rcases qd.mp m with m|m
       .exact gG.2.2 z m z (by simp) rfl
       .exact iL.2.2 z (by simp) z m rfl) l1 o4),rfl⟩) (by
       have pm:(a::(A++((b::(M2++[p]))++Zz))).Perm ((a::(A++((b::M2)++Zz)))++[p]):=by simp only[sv,qU];refine List.Perm.cons _ (List.Perm.append_left _ (List.Perm.cons _ (List.Perm.append_left _ ?_)));exact(List.perm_append_comm (l₁:=[p]))
       exact pm.nodup_iff.mpr a4) (λz hz=>by
       simp only[qA,qd,sv,or_false]at hz ⊢;rcases hz with h|h|h|(h|h)|h
       .exact .inl (.inl h)
       .exact .inl (.inr (.inl h))
       .exact .inl (.inr (.inr (.inl h)))
       .exact .inl (.inr (.inr (.inr (.inl h))))
       .exact .inr h
       .exact .inl (.inr (.inr (.inr (.inr h)))))
      refine⟨_,a1,a,C',dx,ag,.ref b,rfl,hd,c,n,e1,kV k,e6,b,_,rfl,LO.k aS (by have:=hk.1;rw[qe]at this;exact se this Fz),?_⟩;rw[OW (λm=>by have:=List.any_eq_false.mp hk.2 k m;simp at this)];exact s F _ σ ((AJ ok hp).trans l') cU
     .exact s.elim
    .exact s.elim
   .exact s.elim
  .exact s.elim
 .exact s.elim
def JL(fa:FS->Out (List Rv)):FS->Out Rv:=λfs=>(fa fs).bind λrs fs=>match rs with| [.t x,.t y]=>(match IZ x,IZ y with|some xs,some ys=>(match FU xs with|some ks=>if ks.Nodup/\ks.length=ys.length then .ok (.nw (.o ks ys)) fs else .bad|none=>.bad)|_,_=>.bad)|_=>.bad
def Ol(x:T):List T->Option Bool
 | []=>some false
 |y::ys=>(eqT 9 y x).bind λb=>(Ol x ys).map (b||·)
def Im:Rv->Rv->FS->Out Rv:=λx y fs=>match x with|.t x=>(match(Du fs y).bind (Ol x)with|some b=>okT (.v !b) fs|none=>.bad)|_=>.bad
def AX(fs:FS):FS:=fs.map λs=>match s with|some (.val t)=>some (.val t)|_=>none
def FV(j:Nat)(f:FS->Out Rv):FS->Out Rv:=λfs=>match AF fs j with|some o=>(match f ((AX fs).set j (some (.val (toT o))))with|.ok (.t t) _=>if Y8 t=true then .ok (.t t) fs else .bad|.exc c τ=>.exc c τ|_=>.bad)|none=>.bad
def GF:List Key->List FO->Key->Option FO
 |k::ks,o::os,j=>if k=j then some o else GF ks os j
 |_,_,_=>none
def GI:List Key->List FO->Key->FO->List FO
 |k::ks,o::os,j,x=>if k=j then x::os else o::GI ks os j x
 |_,os,_,_=>os
def dput2(C:Addr)(f:Str)(i jy jz:Nat)(fv:FS->Out Rv):FS->SO:=λfs=>SO.of (fv fs) λr fs=>match r,AF fs i,fs[jy]?,fs[jz]? with|.t t,some (.ins C' gs os),some (some (.val y)),some (some (.val z))=>if C'=C then(match Bw gs os f,FN y,FN z with|some (.dO ks ds),some k,some k2=>(match GF ks ds k with|some (.o dQ dS)=>if dQ.length<big then .nx (putAt fs i (.ins C gs (BZ gs os f (.dO ks (GI ks ds k (.o (D8 dQ dS k2 t).1 (D8 dQ dS k2 t).2))))))else .bad|_=>.bad)|_,_,_=>.bad)else .bad|_,_,_,_=>.bad
end Lake.FL
namespace Lake.L2
open PySem PySem.Spec
end Lake.L2
namespace Lake.FL
open PySem PySem.Spec L2
variable{X:Cx}{Z:Xp}{tg l o a b e:Expr}{f fa fb:FS->Out Rv}{g:FS->Out (List Rv)}{p1 p2 pos cX aX aD aE bV kp cp:Pos}{bP:List Expr}{k0 j:Nat}{d:Int}
theorem Mm{ks:List Key}(r:Ah K F H ys vs)(h:ks.length=ys.length):(ks.zip vs).map (·.1)=ks/\(ks.zip vs).map (·.2)=vs:=by have hl:=r.len;exact⟨rL (by lia),List.map_snd_zip (by lia)⟩
meta theorem LA(hc:X.calm=true)(fD:X.mg "dict"=none)(cL:X.mg "zip"=none)(ha:FA X Z [a,b] g)(gw:Gl X "dict":=by rfl)(eD:Gl X "zip":=by rfl)
  (he:starEach [(.Call (.Name "zip" p2) [a,b] [] aX:Expr)] X.env=[(false,eval (.Call (.Name "zip" p2) [a,b] [] aX) X.env)]:=by rfl) (hs:starEach [a,b] X.env=[(false,eval a X.env),(false,eval b X.env)]:=by rfl) (ba:starEach [b] X.env=[(false,eval b X.env)]:=by rfl) :
  FE X Z (.Call (.Name "dict" p1) [.Call (.Name "zip" p2) [a,b] [] aX] [] cX) (JL g):=by
 refine AE (Lh hc fD cL ha gw eD he hs ba) λσ H Q ao => ?_
 obtain⟨F,B,fs,ok,s⟩:= ao;refine⟨F,B,fs,ok,Ar s λrs af F1 H1 us l q s1=>?_⟩;split at s1
 .rename_i x y;split at s1
  .rename_i xs ys e1 e2;split at s1
   .rename_i ks ek;split at s1
    next hk=>obtain⟨az,u,w,rfl,rx,u2,w2,rfl,ry,rfl⟩:=q;obtain⟨b1,a1,vs,rfl,q1,h1⟩:=E2 rx e1;obtain⟨b2,a2,ws,rfl,q2,h2⟩:=E2 ry e2;have ev:=DN ek q1;subst ev;obtain⟨z1,z2⟩:=Mm q2 hk.2;refine⟨b1,a1,b2,a2,ks,ws,rfl,h1 F1 H1 λ_ f=>⟨f,rfl⟩,h2 F1 H1 λ_ f=>⟨f,rfl⟩,hk.1,by rw[q2.len];exact hk.2,λd hd=>?_⟩;refine s1 F1 _ (.ref d) (AJ az hd) (RR.alloc az hd ?_);exact⟨d,ks.zip ws,rfl,Am,z1,by rw[z2];exact q2.le (AJ az hd),rfl⟩
    .exact s1.elim
   .exact s1.elim
  .exact s1.elim
 .exact s1.elim
variable{pF kN:Pos}{j1 j2:Nat}{x1 x2 k1 k2:Str}
def JbT(X:Cx)(H:Hp)(x y:V)(b:Bool):Prop:=∀(aa:List (Addr×Obj))(σ:St)(s:Shared)(u w:Value),Inv X aa σ H s->RelV x u->RelV y w->∀(Q:Value->Shared->Prop),Q (.bool !b) s->wpAny (model X.prog X.w) X.A (compareOp .NotIn u w) Q X.xe s
theorem Tf:OpR X (compareOp .NotIn) (λx y H Q=>∃b,JbT X H x y b/\Q (.v !b) H):=by intro aa s σ H x y v u Q I rx ry ⟨b,h,q⟩;exact h aa σ s v u I rx ry _ ⟨.v !b,H,I,rfl,q⟩
theorem M0:∀{ys:List T}{b:Bool},Ol x ys=some b->(∀(i:Nat)(y:T),ys[i]?=some y->∃c,eqT 9 y x=some c)/\(b=true↔∃(i:Nat)(y:T),ys[i]?=some y/\eqT 9 y x=some true)
 | [],b,e=>by cases e;exact⟨λi y h=>by simp at h,by simp⟩
 |y::ys,b,e=>by
  simp only[Ol,qQ,qw]at e;obtain⟨c,e1,d,e2,rfl⟩:=e;obtain⟨h1,h2⟩:=M0 e2;refine⟨λi z h=>?_,?_⟩
  .cases i with|zero=>simp at h;subst h;exact⟨c,e1⟩|succ i=>exact h1 i z (by simpa using h)
  .rw[sg,h2];constructor
   .rintro(h|⟨i,z,h,h'⟩)
    .exact⟨0,y,rfl,by rw[e1,h]⟩
    .exact⟨i+1,z,by simpa using h,h'⟩
   .rintro⟨i,z,h,h'⟩
    cases i with|zero=>simp at h;subst h;rw[e1]at h';cases h';exact .inl rfl|succ i=>exact .inr ⟨i,z,by simpa using h,h'⟩
open Classical in
theorem Pm{b:Bool}(hu:X.A.units+61<cLine)(e:Ol x ys=some b)(rx:AH X.K F H x v)(sy:SqL X.K H p vs)(ry:Ah X.K F H ys vs):JbT X H v (.ref p) b:=by
 intro aa σ s u w I qx qy Q q;cases qy;obtain⟨aq,vy,pl,hz⟩:=I.list sy;obtain⟨h1,h2⟩:=M0 e;have key:∀(i:Nat)(z:T),ys[i]?=some z->∃w',aq[i]?=some w'/\∀c,eqT 9 z x=some c->SeqAt.EqAt X.A.in1 s w' u c:=λi z fH=>by obtain⟨v1,e1,r1⟩:=ry.at fH;obtain⟨w1,e2,r2⟩:=vy.get e1;exact⟨w1,e2,λc hc=>RL I (by show X.A.units+1+9<_;lia) hc r1 rx r2 qx⟩
 have ln:aq.length=ys.length:=by rw[<- vy.length,ry.len]
 let ee:Value->Bool:=λw'=>decide (∃(i:Nat)(z:T),ys[i]?=some z/\aq[i]?=some w'/\eqT 9 z x=some true)
 refine SeqAt.notIn_listAt ee pl.isList (λw' hw=>?_) ?_
 .have oC:w'∈aq:=by simpa using hw
  obtain⟨i,hi,ei⟩:=sC oC;have gm:aq[i]?=some w':=by rw[qb hi,ei]
  by_cases h:∃(i:Nat)(z:T),ys[i]?=some z/\aq[i]?=some w'/\eqT 9 z x=some true
  .obtain⟨i,z,g1,g2,g3⟩:=id h;obtain⟨w1,f1,f2⟩:=key i z g1;rw[g2]at f1;cases f1;rw[show ee w'=true from qP h];exact f2 true g3
  .have gy:ys[i]?=some (ys[i]'(by lia)):=qb (by lia);obtain⟨c,ec⟩:=h1 i _ gy;obtain⟨w1,f1,f2⟩:=key i _ gy;rw[gm]at f1;cases f1;rw[show ee w'=false from qK h];cases c with|true=>exact(h ⟨i,_,gy,gm,ec⟩).elim|false=>exact f2 false ec
 .have:aq.toArray.any ee=b:=by
   rw[rp,h2];simp only[List.any_toArray,sO];constructor
   .rintro⟨w',_,h⟩
    obtain⟨i,z,g1,_,g3⟩:=qG h;exact⟨i,z,g1,g3⟩
   .rintro⟨i,z,g1,g3⟩
    obtain⟨w1,f1,_⟩:=key i z g1;exact⟨w1,qV f1,qP ⟨i,z,g1,f1,g3⟩⟩
  rwa[this]
meta theorem Tt(hu:X.A.units+61<cLine):OpF X.K Z (λx y H Q=>∃b,JbT X H x y b/\Q (.v !b) H) Im:=by
 intro F B H σ fs x y u w Q ok rx ry s;unfold Im at s;split at s
 .rename_i t;split at s
  next b e=>rw[qQ]at e;obtain⟨ys,e1,e2⟩:=e;obtain⟨p,vs,rfl,hq,r⟩:=Br ok ry e1;exact⟨b,Pm hu e2 rx hq r,s F H _ Le.refl (RR.of ok rfl)⟩
  .exact s.elim
 .exact s.elim
theorem Uv(hu:X.A.units+61<cLine)(ha:FE X Z a fa)(hb:FE X Z b fb)(hm:behindInMarks .NotIn b=false:=by rfl):FT X Z (.Compare a [.NotIn] [b] pos) (asB (Ae Im fa fb)):=Dq (Tt hu) Tf ha hb hm
end Lake.FL
namespace Lake.FL
open PySem PySem.Spec L2
variable{K:Fg}{F:Wd}{H:Hp}
theorem Ap.vals:∀{fs:FS}{σ:St}{L:List Addr},Ap K F H fs σ L->Ap K F H (AX fs) σ []
 | [],σ,L,h=>by exact⟨h.1,rfl⟩
 |s::r,σ,L,h=>by
  obtain⟨v,ax,L1,L2,rfl,h1,h2,rfl⟩:=h.Ep;have ih:=Ap.vals h2
  match s,h1 with|Option.none,h1=>exact Ap.cons (L1:=[]) (by exact rfl) ih|some (.val t),h1 =>obtain⟨u,rfl,q,_⟩:=h1;exact Ap.cons (L1:=[]) (by exact⟨u,rfl,q,rfl⟩) ih|some (.own o),h1=>exact Ap.cons (L1:=[]) (by exact rfl) ih|some (.bor o),h1=>exact Ap.cons (L1:=[]) (by exact rfl) ih
meta theorem UE(j:Nat)(he:FE X Z e f):FE X Z e (FV j f):=by
 refine AE he λσ H Q ao=>?_
 obtain⟨F,B,fs,⟨L,ok⟩,s⟩:= ao;unfold FV at s;split at s
 .rename_i o eo;obtain⟨sl,es,ho⟩:∃sl,fs[j]?=some (some sl)/\(sl=.own o\/sl=.bor o):=by
   unfold AF at eo;split at eo
   next o' es=>cases eo;exact⟨_,es,.inl rfl⟩
   next o' es=>cases eo;exact⟨_,es,.inr rfl⟩
   .cases eo
  obtain⟨v,L1,Lj,L3,e1,rfl,h1,_⟩:=ok.sl.pick es;obtain⟨u,rfl,q⟩:∃u,v=some u/\AN X.K F H o u Lj:=by
   rcases ho with rfl|rfl
   .exact h1
   .exact h1
  have nd:=ok.nd;have dW:∀a∈L1++L3,a∉Lj:=λa ha hb=>by
   rw[qc]at nd;rcases qd.mp ha with ha|ha
   .exact nd.2.2 a ha a (qk _ hb) rfl
   .exact(qc.mp nd.2.1).2.2 a hb a ha rfl
  have mL:∀a,a∈L1++(Lj++L3)->a∈L1++L3\/a∈Lj:=λa h=>by
   simp only[qd]at h ⊢;rcases h with h|h|h
   .exact .inl (.inl h)
   .exact .inr h
   .exact .inl (.inr h)
  have mO:∀a,a∈L1++L3->a∈L1++(Lj++L3):=λa h=>by rcases qd.mp h with h|h<;>simp[h]
  have lF:Le F H ⟨λa=>F a\/a∈Lj,F.p⟩ H:=⟨λa f=>⟨.inl f,rfl⟩,λa f=>⟨f,rfl⟩⟩
  have az:Ok X.K ⟨λa=>F a\/a∈Lj,λa=>F.p a\/a∈L1++L3⟩ B H ((AX fs).set j (some (.val (toT o)))) σ []:=by
   have h0:Ap X.K ⟨λa=>F a\/a∈Lj,λa=>F.p a\/a∈L1++L3⟩ H (AX fs) σ []:=by have:=(Ap.vals ok.sl).le lF (by simp);exact Ap.wp this
   obtain⟨v',M1,M2,M3,z1,z2,z3,z4⟩:=h0.pick (by
   unfold AX;rw[qH,es];rcases ho with rfl|rfl<;>rfl);obtain⟨rfl,rfl,rfl⟩:=(by simpa using z2.symm)
   have z5:=z4 _ H (some (.val (toT o))) (some u) [] Le.refl (λ_ m=>nomatch m) ⟨u,rfl,(AH.wp (AN.frz lF (λa m=>.inr m) q)),rfl⟩;rw[AZ e1]at z5;refine⟨z5,qM,(λ_ m=>nomatch m),λa f=>?_,λi ob e=>?_,λa f=>?_,λa f z=>?_,(λ_ m=>nomatch m)⟩
   .rcases f with f|f
    .exact ok.fd a f
    .exact AN.def q a f
   .exfalso;by_cases cJ:j=i
    .subst cJ;rw[q0 (by unfold AX;rw[qe];exact((ql.mp es).1))]at e;cases e
    .rw[rh cJ]at e;unfold AX at e;rw[qH,qw]at e;obtain⟨x,_,ex⟩:=e;split at ex<;>cases ex
   .rcases f with f|f
    .exact ok.pd a f
    .exact ok.sl.def a (mO a f)
   .rcases f with f|f
    .rcases z with z|z
     .exact ok.pf a f z
     .exact ok.nf a (mO a z) f
    .rcases z with z|z
     .exact ok.pl a (by simp[f]) z
     .exact dW a z f
  refine⟨_,B,_,⟨[],az⟩,?_⟩;cases ef:f ((AX fs).set j (some (.val (toT o))))with
  |exc c τ=>rw[ef]at s;exact Z.mono s ⟨λa f=>⟨.inl f,rfl⟩,λa f=>⟨.inl f,rfl⟩⟩
  |bad=>rw[ef]at s;exact s.elim
  |ok r τ =>
   rw[ef]at s;cases r with
   |nw t=>exact s.elim
   |n t=>exact s.elim
   |t t =>
    dsimp only at s;split at s
    .rename_i ha;intro F2 H2 w l2 q2;obtain⟨_,_,_,⟨_,rv⟩,_⟩:=q2;have lq:Le F H F H2:=⟨λa f=>⟨f,(l2.f a (.inl f)).2⟩,λa f=>⟨f,(l2.p a (.inl f)).2⟩⟩
     refine s F H2 w lq (RR.of ⟨L1++(Lj++L3),ok.sl.le lq (λa m=>by
      rcases mL a m with m|m
      .exact(l2.p a (.inr m)).2
      .exact(l2.f a (.inr m)).2),ok.nd,ok.nf,λa f=>by rw[(lq.f a f).2];exact ok.fd a f,ok.bo,λa f=>by rw[(lq.p a f).2];exact ok.pd a f,ok.pf,ok.pl⟩ (AH.atom ha rv).1)
    .exact s.elim
 .exact s.elim
theorem MQ:∀{ag:List (Key×V)}{os:List FO}{L:List Addr},Ay K F H os (ag.map (·.2)) L->GF (ag.map (·.1)) os k=some o ->
  ∃v L1 A Z,Jc ag k=some v/\AN K F H o v L1/\L=A++(L1++Z)/\∀H' o' dB,(∀a∈A++Z,H' a=H a)->Le F H F H'->AN K F H' o' v dB->Ay K F H' (GI (ag.map (·.1)) os k o') (ag.map (·.2)) (A++(dB++Z))
 | [],os,L,r,e=>by cases os<;>simp[GF]at e
 |(g,x)::ag,os,L,r,e=>by
  cases os with
  |nil=>simp[GF]at e
  |cons o1 os =>
   obtain⟨v,w,L1,L2,ee,r1,r2,rfl⟩:=r;cases ee;simp only[qi,GF]at e;by_cases hb:g=k
   .rw[if_pos hb]at e;cases e;refine⟨x,L1,[],L2,DK hb,r1,rfl,λH' o' dB kk l ro=>?_⟩;simp only[qi,GI,hb,Ay];exact⟨x,_,dB,L2,rfl,ro,Ay.le l (λa m=>kk a (by simpa using m)) r2,rfl⟩
   .rw[if_neg hb]at e;obtain⟨v,M,A,Z,h1,h2,rfl,h3⟩:=MQ r2 e;refine⟨v,M,L1++A,Z,by rw[DL hb];exact h1,h2,by simp,λH' o' dB kk l ro=>?_⟩;have:=h3 H' o' dB (λa m=>kk a (by
     rcases qd.mp m with m|m
     .simp[m]
     .simp[m])) l ro
    simp only[qi,GI,hb,Ay];exact⟨x,_,L1,_,rfl,r1.le l λa m=>kk a (by simp[m]),this,by simp⟩
variable{X:Cx}{Z:Xp}{x y z f:Str}{v:Expr}{fv:FS->Out Rv}{C:Addr}{p1 p2 p3 p4 p5 p6 pos:Pos}
meta theorem P5(hu:X.A.units+1<cLine)(c:Cls X.K C)(n:A8 X.K C f)(i jy jz:Nat)(hx:PE X (.Name x p1) (Oh i))(hy:PE X (.Name y p3) (Oh jy))(hz:PE X (.Name z p5) (Oh jz))(hv:FE X Z v fv)(jN:attributeBase (.Name x p1) f X.env (eval (.Name x p1) X.env)=eval (.Name x p1) X.env:=by rfl)
  (hs:swapsWith v (some (.Subscript (.Subscript (.Attribute (.Name x p1) f p2) (.Name y p3) p4) (.Name z p5) p6)) pos.line X.env=pure false:=by rfl) (hn:JbS (.Name y p3):=by exact λ_ _=>rfl) :
  GS X Z (.Assign [.Subscript (.Subscript (.Attribute (.Name x p1) f p2) (.Name y p3) p4) (.Name z p5) p6] v pos) (dput2 C f i jy jz fv):=by
 refine B8 (Jl hu (Ta hu (J8 hx jN) hy hn) hz hv hs) λD σ H ao => ?_
 obtain⟨F,B,fs,ok,s⟩:= ao;refine⟨F,B,fs,ok,B0 s λr af F1 H1 u l q s1=>?_⟩;split at s1
 .rename_i t C' gs os yt zt eo ey ez;split at s1
  .rename_i hC;subst hC;split at s1
   .rename_i ks ds k k2 ef ek mY;split at s1
    .rename_i dQ dS ed;split at s1
     .rename_i eW;have az:=q.ok;obtain⟨a,dx,ag,w,L1,a1,hd,rfl,e1,r1,na,nf,oO,bk⟩:=az.fld eo ef;obtain⟨b,aH,M2,rfl,aS,rfl,ku,rfl⟩:=r1;obtain⟨v2,N,A,Zz,e2,r2,rfl,mS⟩:=MQ ku ed;obtain⟨c2,b8,rfl,cz,rfl,kx,rfl⟩:=r2;obtain⟨L9,o9⟩:=id az;have slot:∀{j:Nat}{t':T}{kk:Key},af[j]?=some (some (.val t'))->FN t'=some kk->σ[j]?=some (some (kV kk)):=λ{j t' kk} ej et=>by obtain⟨w,_,_,_,e6,_,h1,_⟩:=o9.sl.pick ej;obtain⟨uy,rfl,ry,_⟩:=h1;have:=Ct et ry;subst this;exact e6
      have mf:=qR.mp oO;have iM:=qc.mp mf.2;have fc:=nf c2 (by simp);have lq:Le F1 H1 F1 (upd H1 c2 (.o (putK b8 k2 u))):=⟨λa f=>⟨f,Aj λq=>fc.1 (q▸f)⟩,λa f=>⟨f,Aj λq=>fc.2 (q▸f)⟩⟩
      obtain⟨oV,oW⟩:=EI (by obtain⟨_,_,_,⟨_,rt⟩,_⟩:=q;exact rt) kx;have o8:AN X.K F1 (upd H1 c2 (.o (putK b8 k2 u))) (.o (D8 (b8.map (·.1)) dS k2 t).1 (D8 (b8.map (·.1)) dS k2 t).2) (.ref c2) [c2]:=by exact⟨c2,putK b8 k2 u,rfl,Am,oV,Ah.le lq oW,rfl⟩
      have rO:=mS (upd H1 c2 (.o (putK b8 k2 u))) _ _ (λa m=>Aj λq=>by
       subst q;rcases qd.mp m with m|m
       .exact iM.2.2 a m a (by simp) rfl
       .exact(qc.mp iM.2.1).2.2 a (by simp) a m rfl) lq o8
      obtain⟨cU,l'⟩:=bk (.dO (aH.map (·.1)) (GI (aH.map (·.1)) ds k (.o (D8 (b8.map (·.1)) dS k2 t).1 (D8 (b8.map (·.1)) dS k2 t).2))) (upd H1 c2 (.o (putK b8 k2 u))) (λa hb _=>Aj λq=>hb (by rw[q];simp)) (by exact⟨b,aH,_,rfl,by rw[Aj (λzz=>mf.1 (by rw[zz];simp))];exact aS,rfl,rO,rfl⟩);exact⟨_,a1,a,C',dx,ag,.ref b,rfl,hd,c,n,e1,kV k,slot ey ek,b,.ref c2,rfl,by rw[<- e2];exact Ja.k aS,kV k2,slot ez mY,c2,_,rfl,LO.k cz (by rw[qe]at eW;exact se eW Fz),s1 F1 _ σ l' cU⟩
     .exact s1.elim
    .exact s1.elim
   .exact s1.elim
  .exact s1.elim
 .exact s1.elim
end Lake.FL
namespace Lake.FL
open PySem PySem.Spec L2 PyProof.Rows
variable{X:Cx}{Z:Xp}{x m a:Str}{k p j:Nat}{ps:List Str}{Fn fo f:FS->Out Rv}{e o v:Expr}{es:List Expr}{fa:FS->Out (List Rv)}{pp pos aD np aE cp fp jp:Pos}{C:Addr}
def Jb8:Rv->Option Int->Option Int->FS->Out Rv:=λx lo hi fs=>match x with|.t (.str z)=>if(Txt.slice z lo hi).length<=big then okT (.str (Txt.slice z lo hi)) fs else .bad|_=>.bad
def slS(f:FS->Out Rv)(l h:FS->Out (Option Int)):FS->Out Rv:=λfs=>(f fs).bnd λx fs=>(l fs).bind λlo fs=>(h fs).bind λhi fs=>Jb8 x lo hi fs
variable{lo hi:Option Expr}{l h:FS->Out (Option Int)}{p2:Pos}
meta theorem Ye(he:FE X Z e f)(hl:FP X Z lo l)(hu:FP X Z hi h):FE X Z (.Subscript e (.Slice lo hi none p2) pos) (slS f l h):=by
 refine AE (J7 V6 he hl hu) λσ H Q ao => ?_
 obtain⟨F,B,fs,ok,s⟩:= ao;refine⟨F,B,fs,ok,Aq s λx af F1 H1 u l1 az rx s1=>⟨F1,B,af,az,Ar s1 λlo ay F2 H2 jr l2 q2 s2=>?_⟩⟩;obtain⟨aO,rfl⟩:=q2;refine⟨F2,B,ay,aO,Ar s2 λhi bQ F3 H3 dE l3 q3 s3=>?_⟩;obtain⟨cV,rfl⟩:=q3;have jx:=(rx.le l2).le l3;unfold Jb8 at s3;split at s3
 .rename_i z;split at s3
  next hz=>have eu:=jx;subst eu;exact⟨z,rfl,by rw[sizeLine_eq];exact qF hz (by decide),s3 F3 H3 _ Le.refl (RR.of cV rfl)⟩
  .exact s3.elim
 .exact s3.elim
end Lake.FL
namespace Lake.FL
open PySem PySem.Spec L2
def DX:Int->List T->List T
 |_,[]=>[]
 |i,t::ts=>.tup [.int i,t]::DX (i+1) ts
def itE(f:FS->Out Rv):FS->Out (List T):=λfs=>(f fs).bnd λr fs=>match r with
 |.t x=>match IZ x with|some xs=>.ok (DX 0 xs) fs|none=>.bad
 |_=>.bad
def K9(n:Nat)(h:List T->FS->Option FS):T->FS->Option FS:=λt fs=>match t with|.lst ts=>if ts.length=n then h ts fs else none|_=>none
meta theorem XH(hc:X.calm=true)(h1:GTs X es h)(hn:(assignEach es X.env).length=n:=by rfl)(cQ:(assignEach es X.env).findIdx? (·.1)=none:=by rfl):GT X (.Tuple es k pos) (K9 n h):=by
 refine Mz (WE hc h1 hn cQ) λv σ H Q ao=>?_
 obtain⟨F,B,fs,t,ok,r,s⟩:= ao;unfold K9 at s;split at s
 .rename_i ar e;split at e
  .rename_i ts;split at e
   next hl=>simp only[AH]at r;obtain⟨a,vs,rfl,_,hs,r⟩:=r;refine⟨a,vs,rfl,.inl (.inl hs),by rw[r.len];exact hl,F,B,fs,ts,ok,r,?_⟩;rw[e];exact s
   .cases e
  .cases e
 .exact s.elim
variable{X:Cx}{Z:Xp}{x a a2:Str}{v w:Expr}{f g:FS->Out Rv}{j j2:Nat}{np aE cp fp kN m6 jp pos:Pos}
def Qe:Rv->Rv->FS->Out Rv:=gI λi j fs=>if 0<j/\j.natAbs.log2<9000 then okT (.int (i/j)) fs else .bad
theorem Ph:OpR X (binaryOp .FloorDiv) (rI (λ_ j=>0<j/\j.natAbs.log2<9000) λi j=>.int (i/j)):=opI λi j _ _ _ _ _ hc q=>by have h1:=hc.1;exact PyProof.Rows.floordiv_int (by lia) (by rw[Int.fdiv_eq_ediv_of_nonneg i (by lia)];exact q) (.inl (PyProof.noPylong_of_log2 hc.2))
theorem TB:OpF K Z (rI (λ_ j=>0<j/\j.natAbs.log2<9000) λi j=>.int (i/j)) Qe:=MD (t:=λi j=>.int (i/j)) (λ_ _ _ _ _=>rfl) λi j fs=>by
 by_cases h:0<j/\j.natAbs.log2<9000
 .exact .inr ⟨h,if_pos h⟩
 .exact .inl (if_neg h)
theorem UL{a}(ha:FE X Z a fa)(hb:FE X Z b fb):FE X Z (.BinOp a .FloorDiv b pos) (Ae Qe fa fb):=Ir TB Ph ha hb
mutual
def noD:T->Bool
 |.l=>true
 |.v _=>true
 |.int _=>true
 |.str _=>true
 |.tup ts=>Ru ts
 |_=>false
def Ru:List T->Bool
 | []=>true
 |t::ts=>noD t&&Ru ts
end
def GG(j:Nat)(f:FS->Out Rv):FS->Out Rv:=λfs=>match fs[j]? with|some (some (.own (.o ks ts)))=>(match f ((AX fs).set j (some (.val (.dF ks ts))))with|.ok (.t t) _=>if noD t=true then .ok (.t t) fs else .bad|_=>.bad)|_=>.bad
variable{K:Fg}{F F':Wd}{H H':Hp}
mutual
theorem AH.noD(hF:∀a vs,F a->H a=some (.tup vs)->F' a/\H' a=some (.tup vs)):∀{t:T}{v:V},noD t=true->AH K F H t v->AH K F' H' t v
 |.l,_,_,h=>h
 |.v _,_,_,h=>h
 |.int _,_,_,h=>h
 |.str _,_,_,h=>h
 |.tup ts,_,e,h=>by simp only[FL.noD]at e;simp only[AH]at h ⊢;obtain⟨a,vs,rfl,s,r⟩:=h;exact⟨a,vs,rfl,⟨rfl,hF a vs s.2.1 s.2.2⟩,Ah.noD hF e r⟩
 |.lst _,_,e,_=>by simp[FL.noD]at e
 |.z0 _,_,e,_=>by simp[FL.noD]at e
 |.o _ _,_,e,_=>by simp[FL.noD]at e
 |.dT _ _,_,e,_=>by simp[FL.noD]at e
 |.ins _ _ _,_,e,_=>by simp[FL.noD]at e
 |.dF _ _,_,e,_=>by simp[FL.noD]at e
 |.zI _,_,e,_=>by simp[FL.noD]at e
theorem Ah.noD(hF:∀a vs,F a->H a=some (.tup vs)->F' a/\H' a=some (.tup vs)):∀{ts:List T}{vs:List V},Ru ts=true->Ah K F H ts vs->Ah K F' H' ts vs
 | [],_,_,h=>h
 |t::ts,_,e,h=>by simp only[Ru,qE]at e;simp only[Ah]at h ⊢;obtain⟨v,r,rfl,h1,h2⟩:=h;exact⟨v,r,rfl,AH.noD hF e.1 h1,Ah.noD hF e.2 h2⟩
end
meta theorem Qm(j:Nat)(he:FE X Z e f):FE X Z e (GG j f):=by
 refine AE (S7 he) λσ H Q ao=>?_
 obtain⟨F,B,fs,⟨L,ok⟩,s⟩:= ao;unfold GG at s;split at s
 .rename_i ks ts es;obtain⟨v,L1,Lj,L3,e1,rfl,h1,_⟩:=ok.sl.pick es;obtain⟨u,rfl,q⟩:=h1;simp only[AN]at q;obtain⟨a,ag,rfl,ha,hk,kx,rfl⟩:=q;have nd:=ok.nd;have ma:a∈L1++([a]++L3):=by simp
  have dW:∀b∈L1++L3,b≠a:=λb hb z=>by
   subst z;rw[qc]at nd;rcases qd.mp hb with hb|hb
   .exact nd.2.2 b hb b (by simp) rfl
   .exact(qc.mp nd.2.1).2.2 b (by simp) b hb rfl
  have mL:∀b,b∈L1++([a]++L3)->b∈L1++L3\/b=a:=λb h=>by
   simp only[qd,qj]at h ⊢;rcases h with h|h|h
   .exact .inl (.inl h)
   .exact .inr h
   .exact .inl (.inr h)
  have mO:∀b,b∈L1++L3->b∈L1++([a]++L3):=λb h=>by rcases qd.mp h with h|h<;>simp[h]
  have fa:∀b,F b->b≠a:=λb f z=>ok.nf b (by rw[z];exact ma) f
  have pa:∀b,F.p b->b≠a:=λb f z=>ok.pl b (by rw[z];exact ma) f
  refine⟨a,ag,ha,λo=>?_⟩;have un:∀b,b≠a->upd H a (.frz o (.o ag)) b=H b:=λb z=>by unfold upd;rw[if_neg z]
  have lF:Le F H ⟨λb=>F b\/b=a,F.p⟩ (upd H a (.frz o (.o ag))):=⟨λb f=>⟨.inl f,un b (fa b f)⟩,λb f=>⟨f,un b (pa b f)⟩⟩
  have rt:AH X.K ⟨λb=>F b\/b=a,λb=>F.p b\/b∈L1++L3⟩ (upd H a (.frz o (.o ag))) (.dF ks ts) (.ref a):=by simp only[AH];exact⟨a,ag,rfl,.inr rfl,⟨o,Am⟩,hk,Ah.wp (Ah.le lF kx)⟩
  have hj:=(ql.mp es).1;have ev:(AX fs)[j]?=some none:=by unfold AX;rw[qH,es];rfl
  have az:Ok X.K ⟨λb=>F b\/b=a,λb=>F.p b\/b∈L1++L3⟩ B (upd H a (.frz o (.o ag))) ((AX fs).set j (some (.val (.dF ks ts)))) σ []:=by
   have h0:Ap X.K ⟨λb=>F b\/b=a,λb=>F.p b\/b∈L1++L3⟩ (upd H a (.frz o (.o ag))) (AX fs) σ []:=by have:=(Ap.vals ok.sl).le lF (by simp);exact Ap.wp this
   obtain⟨v',M1,M2,M3,z1,z2,z3,z4⟩:=h0.pick ev;have zM:M1=[]/\M2=[]/\M3=[]:=by simpa using z2.symm
   obtain⟨rfl,rfl,rfl⟩:=zM;have z5:=z4 _ (upd H a (.frz o (.o ag))) (some (.val (.dF ks ts))) (some (.ref a)) [] Le.refl (λ_ m=>nomatch m) ⟨_,rfl,rt,rfl⟩;rw[AZ e1]at z5;refine⟨z5,qM,(λ_ m=>nomatch m),λb f=>?_,λi ob e=>?_,λb f=>?_,λb f z=>?_,(λ_ m=>nomatch m)⟩
   .rcases f with f|f
    .rw[un b (fa b f)];exact ok.fd b f
    .rw[f,Am];exact nofun
   .exfalso;by_cases cJ:j=i
    .subst cJ;rw[q0 (by unfold AX;rw[qe];exact hj)]at e;cases e
    .rw[rh cJ]at e;unfold AX at e;rw[qH,qw]at e;obtain⟨x,_,ex⟩:=e;split at ex<;>cases ex
   .rcases f with f|f
    .rw[un b (pa b f)];exact ok.pd b f
    .rw[un b (dW b f)];exact ok.sl.def b (mO b f)
   .rcases f with f|f
    .rcases z with z|z
     .exact ok.pf b f z
     .exact ok.nf b (mO b z) f
    .rcases z with z|z
     .exact pa b z f
     .exact dW b z f
  refine⟨_,B,_,⟨[],az⟩,?_⟩;cases ef:f ((AX fs).set j (some (.val (.dF ks ts))))with
  |exc c τ=>rw[ef]at s;exact s.elim
  |bad=>rw[ef]at s;exact s.elim
  |ok r τ =>
   rw[ef]at s;cases r with
   |nw t=>exact s.elim
   |n t=>exact s.elim
   |t t =>
    dsimp only at s;split at s
    .rename_i hn;intro F2 H2 w l2 q2;obtain⟨_,_,o2,⟨_,rv⟩,_⟩:=q2;have kS:H2 a=some (.frz o (.o ag)):=(l2.f a (.inr rfl)).2.trans Am;have dU:∀b,b≠a->upd H2 a (.o ag) b=H2 b:=λb z=>by unfold upd;rw[if_neg z]
     have kL:∀b∈L1++([a]++L3),upd H2 a (.o ag) b=H b:=λb m=>by
      rcases mL b m with m|m
      .rw[dU b (dW b m),(l2.p b (.inr m)).2,un b (dW b m)]
      .rw[m,Am,ha]
     have lq:Le F H ⟨λb=>F2 b/\b≠a,F.p⟩ (upd H2 a (.o ag)):=⟨λb f=>⟨⟨(l2.f b (.inl f)).1,fa b f⟩,by rw[dU b (fa b f),(l2.f b (.inl f)).2,un b (fa b f)]⟩,λb f=>⟨f,by rw[dU b (pa b f),(l2.p b (.inl f)).2,un b (pa b f)]⟩⟩
     refine⟨kS,s ⟨λb=>F2 b/\b≠a,F.p⟩ (upd H2 a (.o ag)) w lq (RR.of ⟨L1++([a]++L3),ok.sl.le lq kL,nd,λb m f=>?_,λb f=>by rw[dU b f.2];exact o2.fd b f.1,ok.bo,λb f=>by rw[(lq.p b f).2];exact ok.pd b f,λb f z=>o2.pf b f.1 (l2.p b (.inl z)).1,ok.pl⟩ (AH.noD (λb vs f z=>?_) hn rv))⟩
     .rcases mL b m with m|m
      .exact o2.pf b f.1 (l2.p b (.inr m)).1
      .exact f.2 m
     .have hb:b≠a:=λx=>by rw[x,kS]at z;cases z
      exact⟨⟨f,hb⟩,(dU b hb).trans z⟩
    .exact s.elim
 .exact s.elim
def Iz(fk fv:FS->Out Rv):FS->Out Rv:=λfs=>match fk fs with|.ok (.t x) af=>(match fv af with|.ok (.t y) ay=>(match FN x with|some k=>.ok (.nw (.o [k] [y])) ay|none=>.bad)|_=>.bad)|_=>.bad
meta theorem Qo(hk:FE X Z k fk)(hv:FE X Z v fv):FE X Z (.Dict [some k] [v] pos) (Iz fk fv):=by
 refine AE (S9 (O6 hk hv SX) rfl rfl (by simp) (by simp)) λσ H Q ⟨F,B,fs,⟨L,ok⟩,s⟩ p hp=>?_
 unfold Iz at s;cases ek:fk fs with
 |bad=>rw[ek]at s;exact s.elim
 |exc c τ=>rw[ek]at s;exact s.elim
 |ok r af =>
  rw[ek]at s;cases r with
  |nw o=>exact s.elim
  |n i=>exact s.elim
  |t x =>
   dsimp only at s;cases ev:fv af with
   |bad=>rw[ev]at s;exact s.elim
   |exc c τ=>rw[ev]at s;exact s.elim
   |ok r ay =>
    rw[ev]at s;cases r with
    |nw o=>exact s.elim
    |n i=>exact s.elim
    |t y =>
     dsimp only at s;split at s
     .rename_i k hk;have un:∀b,b≠p->upd H p (.o []) b=H b:=λb z=>by unfold upd;rw[if_neg z]
      have fp:∀b,F b->b≠p:=λb f z=>ok.fd b f (by rw[z];exact hp)
      have pp:∀b,F.p b->b≠p:=λb f z=>ok.pd b f (by rw[z];exact hp)
      have Lp:∀b∈L,b≠p:=λb m z=>ok.sl.def b m (by rw[z];exact hp)
      have l0:Le F H F (upd H p (.o [])):=⟨λb f=>⟨f,un b (fp b f)⟩,λb f=>⟨f,un b (pp b f)⟩⟩
      have ok0:Ok X.K ⟨F.f,λb=>F.p b\/b=p⟩ B (upd H p (.o [])) fs σ L:=by
       refine⟨Ap.wp (ok.sl.le l0 λb m=>un b (Lp b m)),ok.nd,ok.nf,λb f=>?_,ok.bo,λb f=>?_,λb f z=>?_,λb m z=>?_⟩
       .rw[un b (fp b f)];exact ok.fd b f
       .rcases f with f|f
        .rw[un b (pp b f)];exact ok.pd b f
        .rw[f,Am];exact nofun
       .rcases z with z|z
        .exact ok.pf b f z
        .exact fp b f z
       .rcases z with z|z
        .exact ok.pl b m z
        .exact Lp b m z
      refine⟨_,B,fs,⟨L,ok0⟩,?_⟩;rw[ek];intro F1 H1 u1 l1 q1;obtain⟨M1,_,o1,⟨_,r1⟩,_⟩:=q1;refine⟨F1,B,af,⟨M1,o1⟩,?_⟩;rw[ev];intro F2 H2 u2 l2 q2;obtain⟨M2,_,o2,⟨_,r2⟩,_⟩:=q2;have p1:=l1.p p (.inr rfl);have p2:=l2.p p p1.1;have ni:H2 p=some (.o []):=by rw[p2.2,p1.2,Am]
      refine⟨ni,[(k,u2)],by rw[Ct hk r1];rfl,by simp,?_⟩;have dU:∀b,b≠p->upd H2 p (.o (DO [] [(k,u2)])) b=H2 b:=λb z=>by unfold upd;rw[if_neg z]
      have f2:∀b,F2 b->b≠p:=λb f z=>o2.pf b f (by rw[z];exact p2.1)
      have m2:∀b∈M2,b≠p:=λb m z=>o2.pl b m (by rw[z];exact p2.1)
      have l3:Le ⟨F2.f,F.p⟩ H2 ⟨F2.f,F.p⟩ (upd H2 p (.o (DO [] [(k,u2)]))):=⟨λb f=>⟨f,dU b (f2 b f)⟩,λb f=>⟨f,dU b (pp b f)⟩⟩
      have lq:Le F H ⟨F2.f,F.p⟩ (upd H2 p (.o (DO [] [(k,u2)]))):=⟨λb f=>by
       have a1:=l1.f b f;have a2:=l2.f b a1.1;exact⟨a2.1,by rw[dU b (fp b f),a2.2,a1.2,un b (fp b f)]⟩,λb f=>by
       have a1:=l1.p b (.inl f);have a2:=l2.p b a1.1;exact⟨f,by rw[dU b (pp b f),a2.2,a1.2,un b (pp b f)]⟩⟩
      refine s ⟨F2.f,F.p⟩ _ (.ref p) lq ⟨M2,[p],⟨(Ap.wp o2.sl).le l3 λb m=>dU b (m2 b m),o2.nd,o2.nf,λb f=>?_,o2.bo,λb f=>?_,λb f z=>?_,λb m z=>?_⟩,?_,?_,?_⟩
      .rw[dU b (f2 b f)];exact o2.fd b f
      .rw[(lq.p b f).2];exact ok.pd b f
      .exact o2.pf b f ((l2.p b (l1.p b (.inl z)).1).1)
      .exact o2.pl b m ((l2.p b (l1.p b (.inl z)).1).1)
      .show AN X.K ⟨F2.f,F.p⟩ (upd H2 p (.o (DO [] [(k,u2)]))) (.o [k] [y]) (.ref p) [p];simp only[AN,Ah];exact⟨p,_,rfl,Am,rfl,⟨u2,[],rfl,AH.le l3 (AH.wp r2),rfl⟩,rfl⟩
      .rw[qc];refine⟨o2.nd,by simp,λa m b mb z=>?_⟩;rw[qj.mp mb]at z;exact m2 a m z
      .intro b m;rw[qj.mp m];exact⟨λf=>f2 p f rfl,λf=>pp p f rfl⟩
     .exact s.elim
variable{xs:List V}
theorem NG:∀{xs:List T}{k:Int}{i:Nat}{t:T},(DX k xs)[i]?=some t->∃x,xs[i]?=some x/\t=.tup [.int (k+i),x]
 | [],k,i,t,h=>by simp[DX]at h
 |x::xs,k,0,t,h=>by
  have:=by simpa[DX]using h
  exact⟨x,rfl,by rw[<- this];simp⟩
 |x::xs,k,i+1,t,h=>by
  have h:=by simpa[DX]using h
  obtain⟨y,h1,h2⟩:=NG h;exact⟨y,by simpa using h1,by rw[h2,show k+1+(i:Int)=k+((i+1:Nat):Int) by lia]⟩
theorem Kv:∀(xs:List T)(k:Int),(DX k xs).length=xs.length
 | [],_=>rfl
 |_::xs,k=>by simp[DX,Kv xs]
theorem PH{a}{xs}(h1:∀(F':Wd)(H':Hp),(∀a,F a->F' a/\H' a=H a)->SqB b K H' a vs)
  (r1:Ah K F H xs vs):JOk K F H (Ite K b a) (DX 0 xs):=by
 intro F' H' l ⟨B,fs,σ,ok⟩ i;have q1:=Ah.lf l r1;refine⟨λt et=>?_,λhl=>⟨vs,h1 F' H' l,by rw[r1.len];rw[Kv]at hl;exact hl⟩⟩;obtain⟨x,ex,rfl⟩:=NG et;obtain⟨v,ev,rv⟩:=q1.at ex;refine⟨⟨vs,v,h1 F' H' l,ev⟩,λz eS hy=>?_⟩;obtain⟨T,vx,hn,rfl,rfl,g1⟩:=hy;have e1:=g1 vs (h1 F' H' l);rw[ev]at e1;cases e1;refine⟨LN F' T,⟨AA ok hn,λB fs σ k=>k.alloc hn⟩,?_⟩;simp only[AH];exact⟨T,[.int i,v],rfl,⟨rfl,.inr rfl,Am⟩,by simp only[Ah];exact⟨.int i,[v],rfl,by simp[AH],v,[],rfl,rv.le (AA ok hn),rfl⟩⟩
meta theorem UC{a}(hm:X.mg "enumerate"=none)(ha:FE X Z a fa)(hg:Gl X "enumerate":=by rfl)
  (hs:starEach [a] X.env=[(false,eval a X.env)]:=by rfl):FI X Z (.Tuple bP k0 bV) (.Call (.Name "enumerate" p) [a] [] pos) (itE fa):=by
 refine HN (S4 hg hm (Cy ha Gm hs) hs) λσ H Q ao=>?_
 obtain⟨F,B,fs,ok,s⟩:= ao;refine⟨F,B,fs,ok,Aq s λr af F1 H1 u l1 az rx s1=>?_⟩;split at s1
 .rename_i x;split at s1
  next xs e1=>obtain⟨b1,a1,vs,rfl,q1,h1⟩:=E2 rx e1;exact⟨b1,a1,rfl,⟨vs,h1 F1 H1 λ_ f=>⟨f,rfl⟩⟩,s1 F1 H1 _ Le.refl ⟨az,PH h1 q1⟩⟩
  .exact s1.elim
 .exact s1.elim
end Lake.FL
namespace Lake.FL
open PySem PySem.Spec L2 PyProof.Rows
def Kp:Rv->List Rv->FS->Out Rv
 |.t (.str z),[.t (.str y)],fs=>if z.length<=big then okT (.str (Txt.stripChars z y)) fs else .bad
 |_,_,_=>.bad
theorem Pr:MtR X "str.strip" (λx xs H Q=>∃z y:Str,x=.str z/\xs=[.str y]/\z.length<=sizeLine/\Q (.str (Txt.stripChars z y)) H):=by intro aa s σ H x xs v us Q I rx rv h;obtain⟨z,y,rfl,rfl,hz,q⟩:=h;obtain⟨t,rfl⟩:=rx;obtain⟨u,rfl,ru⟩:=vals1 rv;obtain⟨t2,rfl⟩:=ru;exact SC.stripChars (λt' k=>⟨.str _,H,I.tok _,⟨_,rfl⟩,q⟩) hz
meta theorem Pu{K:Fg}:MtF K Z (λx xs H Q=>∃z y:Str,x=.str z/\xs=[.str y]/\z.length<=sizeLine/\Q (.str (Txt.stripChars z y)) H) Kp:=by
 intro F B H σ fs x rs u vs Q ok rx q s;unfold Kp at s;split at s
 .rename_i z y;obtain⟨v,rfl,qq⟩:=A3 q;cases rx;cases qq;split at s
  next hl=>exact⟨z,y,rfl,rfl,qF hl CO,s F H _ Le.refl (RR.of ok rfl)⟩
  .exact s.elim
 .exact s.elim
theorem JaG(hv:PE X v ta):PE X (.FormattedValue v 114 none fp) (λσ H Q=>ta σ H λx H1=>∃z,x=.str z/\A9 z=true/\Q (.str (reprText z)) H1):=by intro aa s σ H Q I h;refine wpAny_FormattedValue_repr (thn (hv aa s σ H _ I h) λu s2 ao=>?_);obtain⟨x,H2,I2,r2,z,ez,hz,q⟩:= ao;subst ez;obtain⟨t2,rfl⟩:=r2;have hr:=HX hz;refine wpAny_pyReprObj_str ?_ (by rw[sizeLine_eq];lia);exact formatField_str (λt' tk=>⟨.str _,H2,(I2.tok _).tok _,⟨_,rfl⟩,q⟩) (by rw[sizeLine_eq];lia)
def Es(f:FS->Out Rv):FS->Out Rv:=λfs=>(f fs).bnd λr fs=>match r with|.t (.str z)=>if A9 z=true then okT (.str (reprText z)) fs else .bad|_=>.bad
meta theorem Jbu(hv:FE X Z v f):FE X Z (.FormattedValue v 114 none fp) (Es f):=by
 refine AE (JaG hv) λσ H Q ao => ?_
 obtain⟨F,B,fs,ok,s⟩:= ao;refine⟨F,B,fs,ok,Aq s λr af F1 H1 u l az rx s1=>?_⟩;split at s1
 .rename_i z;split at s1
  next hz=>exact⟨z,rx,hz,s1 F1 H1 _ Le.refl (RR.of az rfl)⟩
  .exact s1.elim
 .exact s1.elim
def Nf:Rv->Rv->FS->Out Rv
 |.t (.tup ts),.t (.int i),fs=>match ts with| [t]=>if i=1 then okT (.tup [t]) fs else if i=2 then okT (.tup [t,t]) fs else if i=3 then okT (.tup [t,t,t]) fs else .bad| []=>if i=0 then okT (.tup []) fs else .bad|_=>.bad
 |_,_,_=>.bad
meta theorem Tu{X:Cx}:OpF X.K Z (λx y H Q=>∃a,x=.ref a/\((∃v,SqT X.K H a [v]/\((y=.int 1/\Q (.ref a) H)\/(y=.int 2/\∀p,H p=none->Q (.ref p) (upd H p (.tup [v,v])))\/(y=.int 3/\∀p,H p=none->Q (.ref p) (upd H p (.tup [v,v,v])))))\/(SqT X.K H a []/\y=.int 0/\Q (.ref a) H))) Nf:=by
 intro F B H σ fs x y u w Q ok rx ry s;unfold Nf at s;split at s
 .rename_i ts i;have ey:=ry;have mD:=rx;simp only[Cr,AH]at rx;obtain⟨a,vs,rfl,hs,rv⟩:=rx;refine⟨a,rfl,?_⟩;split at s
  .rename_i t;simp only[Ah]at rv;obtain⟨v,r,rfl,rv,rfl⟩:=rv;refine .inl ⟨v,hs.sq,?_⟩;split at s
   next hi=>subst hi;exact .inl ⟨ey,s F H _ Le.refl (RR.of ok mD)⟩
   .split at s
    next hi=>subst hi;refine .inr (.inl ⟨ey,λp hp=>s (LN F p) (upd H p (.tup [v,v])) (.ref p) (AA ok hp) (RR.of (ok.alloc hp) ?_)⟩);have gP:=AH.le (AA (o:=.tup [v,v]) ok hp) rv;simp only[Cr,AH,Ah];exact⟨p,[v,v],rfl,⟨rfl,.inr rfl,Am⟩,v,_,rfl,gP,v,_,rfl,gP,rfl⟩
    .split at s
     next hi=>subst hi;refine .inr (.inr ⟨ey,λp hp=>s (LN F p) (upd H p (.tup [v,v,v])) (.ref p) (AA ok hp) (RR.of (ok.alloc hp) ?_)⟩);have gP:=AH.le (AA (o:=.tup [v,v,v]) ok hp) rv;simp only[Cr,AH,Ah];exact⟨p,[v,v,v],rfl,⟨rfl,.inr rfl,Am⟩,v,_,rfl,gP,v,_,rfl,gP,v,_,rfl,gP,rfl⟩
     .exact s.elim
  .simp only[Ah]at rv;subst rv;split at s
   next hi=>subst hi;exact .inr ⟨hs.sq,ey,s F H _ Le.refl (RR.of ok mD)⟩
   .exact s.elim
  .exact s.elim
 .exact s.elim
theorem UG(ha:FE X Z a fa)(hb:FE X Z b fb):FE X Z (.BinOp a .Mult b pos) (Ae Nf fa fb):=Ir Tu Tg ha hb
end Lake.FL
namespace Lake.FL
open PySem PySem.Spec PyProof.Rows L2
def tgs:Expr->List Str
 |.Name y _=>[y]
 |.Tuple es _ _=>es.filterMap λe=>match e with|.Name y _=>some y|_=>none
 |_=>[]
def nOf(M:List Str):List Str->List (Option Nat)->List Str
 |_,[]=>[]
 |t,some i::r=>M.getD i ""::nOf M t r
 |t::u,none::r=>t::nOf M u r
 | [],none::r=>nOf M [] r
def ndB:List Str->Bool
 | []=>true
 |x::r=>!r.contains x&&ndB r
theorem Xi:∀{l:List Str},ndB l=true->l.Nodup
 | [],_=>qM
 |x::r,h=>by simp only[ndB,qE,Bool.not_eq_true',List.contains_eq_mem,decide_eq_false_iff_not]at h;exact qR.mpr ⟨h.1,Xi h.2⟩
variable{X:Cx}{Z:Xp}{tg aC bL:Expr}{bA:List Expr}{sc:Scope}{pos:Pos}{fi:FS->Out (List T)}{gt:T->FS->Option FS}{ft:FS->Out Bool}{fe:FS->Out Rv}
theorem UN{new:Bool}{src:List (Option Nat)}(aN:X.calm=true)(hi:FI X Z tg aC fi)(hg:∀cl C s H fp,GT (Bg X (nOf X.N (tgs tg) src) sc cl C s H fp) tg gt)(ht:∀cl C s H fp,FIf (Bg X (nOf X.N (tgs tg) src) sc cl C s H fp) bA ft)
  (he:∀cl C s H fp,FE (Bg X (nOf X.N (tgs tg) src) sc cl C s H fp) Xp.no bL fe) (hS:Ew X.env.scope sc=true:=by rfl) (aV:DG X.N sc (nOf X.N (tgs tg) src) src=true:=by rfl)
  (hs:∀x,foldedSetIterable aC X.env x=pure x:=by intro _;rfl):FE X Z (.ListComp bL [⟨tg,aC,bA,0⟩] sc pos) (Bo new src fi gt ft fe):=UM new _ src aN hi hg ht he hS aV hs
theorem Uk{new:Bool}{i:Nat}{src:List (Option Nat)}{y:Str}{aR de:Pos}(aN:X.calm=true)(hN:X.N.Nodup)(hy:Loc X.env.scope y)(hi:FI X Z tg aC fi)(hg:∀cl C s H fp,GT (Bg X (nOf X.N (tgs tg) src) sc cl C s H fp) tg gt)(ht:∀cl C s H fp,FIf (Bg X (nOf X.N (tgs tg) src) sc cl C s H fp) bA ft)
  (he:∀cl C s H fp,FE (Bg X (nOf X.N (tgs tg) src) sc cl C s H fp) Xp.no bL fe) (ia:X.N[i]?=some y:=by rfl) (hS:Ew X.env.scope sc=true:=by rfl) (aV:DG X.N sc (nOf X.N (tgs tg) src) src=true:=by rfl)
  (hs:∀x,foldedSetIterable aC X.env x=pure x:=by intro _;rfl) (iy:swapsWith (.ListComp bL [⟨tg,aC,bA,0⟩] sc pos) (some (.Name y aR)) de.line X.env=pure true:=by rfl)
  (hf:X.fn y=true\/X.env.scope.names.lookup y=some .local:=by first|exact .inl rfl|exact .inr rfl|assumption) :
  GS X Z (.Assign [.Name y aR] (.ListComp bL [⟨tg,aC,bA,0⟩] sc pos) de) (Av i (Bo new src fi gt ft fe)):=Lx new i _ src aN hN hy hi hg ht he ia hS aV hs iy hf
end Lake.FL
namespace Lake.Sy
open PySem PySem.Spec L2 FL
abbrev xrs:List Str:=["BadCount","BadKind","BadName","NoFunction","NoKind","NoMaker","NoName","NotLess","Twice"]
abbrev xds:List Str:=["BadCount","BadKind","BadName","BadText","Groundless","NoFunction","NoKind","NoMaker","NoName","NoPlace","NoSaying","NotLess","NotShown","SayError","TooLong","Twice"]
def GA(c d:Str):Bool:=c==d||d == "SayError"
def top(i:Nat):Stmt:=PySem.Challenge.pw_stairsay_k11_programs_refused.main.body.getD i (.Pass ⟨0,0,0,0⟩)
structure Tx(K:Fg)(mg:Str->Option Value)(ak:Addr)(aj:Addr)(ah:Addr):Prop where
 zr:mg "ValueError"=none
 yM:mg "all"=none
 yL:mg "any"=none
 zi:mg "dict"=none
 zh:mg "enumerate"=none
 yK:mg "int"=none
 zV:mg "isinstance"=none
 yJ:mg "len"=none
 yX:mg "list"=none
 yU:mg "range"=none
 zf:mg "reversed"=none
 yI:mg "sum"=none
 ze:mg "tuple"=none
 yT:mg "zip"=none
 za:∃t,mg "LETTERS"=some (.str ("abcdefghijklmnopqrstuvwxyz":Str) t)
 zW:∃t,mg "MOST_ARGUMENTS"=some (.int 3 t)
 zL:∃t,mg "MOST_KINDS"=some (.int 4 t)
 zQ:∃t,mg "MOST_LETTERS"=some (.int 12 t)
 zN:∃t,mg "MOST_MAKERS"=some (.int 4 t)
 zK:∃t,mg "MOST_PARTS"=some (.int 2 t)
 zY:Cls K ak
 zm:Cls K aj
 zj:Cls K ah
 zH:A8 K ak "heads"
 z7:A8 K ak "rows_by_function"
 zG:A8 K ak "stock"
 zD:A8 K aj "heads"
 zS:A8 K aj "kinds_by_name"
 zF:A8 K aj "lessers"
 zp:A8 K aj "own"
 zy:A8 K aj "stock"
 zR:A8 K ah "home_by_maker"
 zU:A8 K ah "makers_by_kind"
 zT:A8 K ah "parts_by_maker"
 xt:IY K mg xrs xds GA
abbrev xA(s:Str):=gc (.str s)
abbrev xB(i:Int):=gc (.int i)
abbrev xC(f:FS->Out Rv)(a0 a1:FS->Out Rv):=Ac (Ai 2 f) (Ad a0 (Ad a1 Ag))
abbrev xD(f:FS->Out Rv)(a0 a1 a2:FS->Out Rv):=Ac (Ai 3 f) (Ad a0 (Ad a1 (Ad a2 Ag)))
abbrev xE(f:FS->Out Rv)(a0 a1 a2 a3 a4 a5:FS->Out Rv):=Ac (Ai 6 f) (Ad a0 (Ad a1 (Ad a2 (Ad a3 (Ad a4 (Ad a5 Ag))))))
abbrev xF(f:FS->Out Rv)(a0 a1 a2 a3 a4:FS->Out Rv):=Ac (Ai 5 f) (Ad a0 (Ad a1 (Ad a2 (Ad a3 (Ad a4 Ag)))))
abbrev xG(f:FS->Out Rv)(a0 a1 a2 a3:FS->Out Rv):=Ac (Ai 4 f) (Ad a0 (Ad a1 (Ad a2 (Ad a3 Ag))))
abbrev xH(f:FS->Out Rv)(a0:FS->Out Rv):=Ac (Ai 1 f) (Ad a0 Ag)
def FC:FS->SO :=
  (Ak (ifS (FQ (asB (chain gLe gLe (gc (.int 1)) (Ac Ax (Ab (Aa 0) Ag)) (gc (.int 12))))) (retS (gc (.v false))) nxS)
  (retS (Ac XZ (Ab (Bo false [none] (itU (fz (Aa 0))) (tgN 0) D5 (Ae (CS false) (fz (Aa 0)) (gc (.str ("abcdefghijklmnopqrstuvwxyz":Str))))) Ag))))
def A5:FS->Out Rv:=Be 0 (FC)
abbrev tY:=fz (Aa 0)
abbrev tZ:=fz (Aa 1)
abbrev t9:=fz (Aa 2)
abbrev ua:=fz (Aa 3)
abbrev ub:=fz (Aa 4)
abbrev uc:=fz (Aa 5)
abbrev ud:=Aw 2 (Af (tgN 2) (Af (tgN 3) Au))
abbrev uf:=Ac Ax (Ab (Aa 6) Ag)
abbrev ug:=fz (Aa 7)
abbrev uh:=AB (xB 1)
abbrev uj:=Ac Ax (Ab (Aa 0) Ag)
abbrev uk:=Ac Ax (Ab (Aa 4) Ag)
abbrev um:=An Bj (Ab (xA "NoName") (Ab (xA "NoMaker") (Ab (xA "NoFunction") (Ab (xA "BadCount") (Ab (xA "NotLess") (Ab (xA "BadKind") Ag))))))
abbrev uq:=Aw 2 (Af (tgN 4) (Af (tgN 5) Au))
abbrev ur:=Ae Az (Aa 2) (Ae BD (Ae C0 (Aa 1) (xB 4)) (Ac Ax (Ab (Aa 2) Ag)))
abbrev ut:=Af (tgN 6) (Af (tgN 7) Au)
abbrev uu:=Af (tgN 7) (Af (tgN 8) Au)
abbrev uw:=Ae Az (Aa 2) (Ae BD (Aa 1) (Ac Ax (Ab (Aa 2) Ag)))
abbrev uz:=xA "name"
abbrev uB:=A0 "NoMaker" (Ab (jsF ((xA "no maker is called ")::((Es (Aa 1)) :: [])) Str.empty) Ag)
abbrev uC:=D3 t9 (Aw 5 (Af (tgN 5) (Af (tgN 6) (Af (tgN 7) (Af (tgN 8) (Af (tgN 9) Au))))))
abbrev uD:=Ab (Aa 1) Ag
abbrev uE:=Ab (Aa 7) Ag
abbrev uF:=Ae Az (Aa 0) (xB 0)
abbrev uG:=fz (Aa 8)
abbrev uH:=Ae Az (Aa 2) (xB 0)
abbrev uI:=Es (Aa 3)
abbrev uJ:=Aw 2 (Af (tgN 10) (Af (tgN 11) Au))
abbrev uK:=slF (Aa 6) uh noP
abbrev uL:=itU (fz (Ae Ao (fz (Ac Bf (Ab (Aa 4) Ag))) (An Bj (Ab uc Ag))))
abbrev uM:=xA "abcdefghijklmnopqrstuvwxyz"
abbrev uN:=Aa 10
abbrev ul:=fz (Ae Ao (fz (Ac Bf (Ab uN Ag))) (fz (Ac Bf (Ab (Aa 8) Ag))))
abbrev uO:=Ac AW (Ab (Aa 5) Ag)
abbrev uP:=retS (xA "BadCount")
abbrev uR:=An DS Ag
abbrev uS:=Ab (Aa 3) Ag
abbrev uU:=Ae Az (Aa 4) (xB 0)
abbrev uV:=Ae Az (Aa 5) (xB 2)
abbrev uW:=D3 t9 (Aw 5 (Af (tgN 3) (Af (tgN 4) (Af (tgN 5) ut))))
abbrev uX:=Av 6 (Ae C0 (Aa 6) (xB 3))
abbrev uY:=slF (Aa 6) noP (AB (Aa 7))
abbrev uZ:=xA "make"
abbrev u0:=AB (Ae Ao (Aa 4) (xB 1))
abbrev u3:=Ac Ax (Ab uN Ag)
abbrev u4:=Aw 5 (Af (tgN 4) (Af (tgN 5) (Af (tgN 6) uu)))
abbrev u5:=asB (Ae gGt uf (xB 0))
abbrev u6:=Ab ub Ag
abbrev u7:=xA ""
abbrev uQ:=ifS (asB (Ae (gEq true) (Aa 4) u7)) (retS (Aa 4)) nxS
abbrev u8:=xA "call"
abbrev u9:=tgN 0
abbrev ue:=Aw 2 (Af u9 (Af (tgN 1) Au))
abbrev va:=Aa 12
abbrev vb:=slF (Aa 6) (AB (Ae Ao (Aa 7) (xB 1))) noP
abbrev vc:=asB (Ae (gEq true) uf (Ae Ik uk (xB 1)))
abbrev vd:=fz (Aa 14)
abbrev vf:=Ae Az (Aa 5) (xB 0)
abbrev vg:=Ae BD (Aa 1) (xB 5)
abbrev vh:=itU tY
abbrev vi:=Aw 2 (Af (tgN 11) (Af (tgN 12) Au))
abbrev vj:=Aw 2 (Af (tgN 9) (Af (tgN 10) Au))
abbrev vk:=gc (.v true)
abbrev vm:=fz (Aa 6)
abbrev ux:=Ab vm Ag
abbrev vn:=slF (Aa 5) uh noP
abbrev vo:=(Es (Aa 2)) :: []
abbrev vp:=retS (An AD (Ab ub (Ab ur ux)))
abbrev vq:=asB (Ae (gEq false) (Aa 1) uH)
abbrev vt:=Ac Ax uE
abbrev vv:=Aa 13
abbrev vw:=asB (Ae (CS false) ua (Aa 1))
abbrev vz:=asB (Ae (CS false) t9 (Aa 1))
abbrev vA:=asB (Ae (gEq false) uF uz)
abbrev vB:=itU ua
abbrev vC:=asB (Ae gLe (Aa 5) (xB 1))
abbrev vD:=Af (tgN 5) (Af (tgN 6) Au)
abbrev vE:=slF (Aa 0) noP (AB (Aa 4))
abbrev vF:=xB 10
abbrev vG:=Aa 11
abbrev uT:=fz vG
def RY:FS->SO :=
  (Ak (ifS (JU (asB (Ae (gEq false) (Ae BD (Aa 0) (xB 2)) (xB 1))) (asB (Ae gGt (Aa 0) (Ae JC vF (xB 30))))) (retS (Ae C0 (Aa 0) (xB 2))) nxS)
  (Ak (Av 2 (Ae BD (Aa 0) (Ae JC vF (xB 60))))
  (Ak (Av 2 (Ae BD (Ae Bi (Ae Ao (Ae Ao (Ae Bi (Aa 2) (Aa 2)) (Ae Bi (Ae Bi (xB 40503) (Aa 1)) (Aa 1))) (xB 7919)) (xB 1812433253982451697)) (Ae Ao (Ae JC vF (xB 18)) (xB 9))))
  (retS (Ae BD (Ae Bi (Ae Ao (Ae Bi (Aa 2) (Aa 2)) (Aa 1)) (xB 739108512309184756019283746561)) (Ae Ao (Ae JC vF (xB 40)) (xB 121)))))))
def BS:FS->Out Rv:=Be 1 (RY)
def LG:FS->SO :=
  (Ak (Av 2 u7)
  (Ak (BR (LM uD) (tgN 3) (Ak (Av 2 (Ae Ao (Aa 2) (Ae Az uM (Ae BD (Aa 0) (xB 26)))))
  (Av 0 (Ae C0 (Aa 0) (xB 26)))))
  (retS (Aa 2))))
def Dh:FS->Out Rv:=Be 2 (LG)
def KQ:FS->SO :=
  (Ak (Av 2 (Ae BD (Aa 0) (xB 8)))
  (Ak (Av 3 uR)
  (Ak (BR (LM uD) (tgN 4) (Ak (Av 5 (Ae Ao (Ae C0 (Aa 0) (xB 8)) (Ae Bi (Ae Bi (Ae Ao (Ae Bi (Aa 4) (Aa 4)) (xB 1)) (Ae JC (xB 7919) (xB 4))) (Ac Fj (Ab (Ae gGt (Ae BD (Aa 0) (xB 3)) (xB 0)) Ag)))))
  (Ak (Av 6 (fz (xC Dh uc (Ae Ao (Ae Ao (Aa 2) (xB 1)) (Ae BD (Ae C0 (Aa 0) (xB 24)) (Ae Ik (xB 12) (Aa 2)))))))
  (Ak (Av 7 (Ae Az uM (Ae BD (Ae Ao (Aa 4) (Aa 0)) (xB 26))))
  (Bb (Cz GZ (Aa 3) (Ab (Ae Ao (Ae Ao (slS (Aa 6) noP (AB (Aa 2))) (Aa 7)) (slS (Aa 6) (AB (Ae Ao (Aa 2) (xB 1))) noP)) Ag)))))))
  (retS (Aa 3)))))
def BI:FS->Out Rv:=Be 6 (KQ)
def Dj:FS->SO :=
  (Ak (ifS (asB (Ae gLt (Aa 1) uj)) (retS (Ae Az (Aa 0) tZ)) nxS)
  (retS (xB 0)))
def AM:FS->Out Rv:=Be 0 (Dj)
def KU:FS->SO :=
  (Ak (Av 1 (Ae Ao (xB 1) (Ae BD (fz (xC BS (fz (xC AM tY (xB 1))) (xB 1))) (xB 3))))
  (Ak (Av 2 (fz (xC BI (fz (xC BS (fz (xC AM tY (xB 2))) (xB 2))) tZ)))
  (Ak (Av 3 (fz (xC BI (fz (xC BS (fz (xC AM tY (xB 2))) (xB 3))) (xB 16))))
  (Ak (Av 4 uR)
  (Ak (BR (LM uD) (tgN 5) (Ak (Av 6 (fz (xC BS (fz (xC AM tY (Ae Ao (xB 3) (Aa 5)))) (xB 4))))
  (Ak (Av 7 uR)
  (Ak (BR (LM (Ab (Ae Ao (xB 2) (Ae BD (Aa 6) (xB 3))) Ag)) (tgN 8) (Ak uX
  (Ak (Av 9 uR)
  (Ak (BR (LM (Ab (Ae Bi (Ae BD (Aa 6) (xB 3)) (Ac Fj (Ab (orV (Ae gGt (Aa 5) (xB 0)) (Ae gGt (Aa 8) (xB 0))) Ag))) Ag)) (tgN 10) (Ak uX
  (Bb (Cz GZ (Aa 9) (Ab (Ae Az (Aa 2) (Ae BD (Aa 6) (Ae Az (An Bj (Ab tZ (Ab uc Ag))) (Ac Fj (Ab (Ae (gEq false) (Aa 8) (xB 0)) Ag))))) Ag)))))
  (Ak uX
  (Bb (Cz GZ (Aa 7) (Ab (An AD (Ab (Ae Az (Aa 3) (Ae Ao (Ae Bi (xB 4) (Aa 5)) (Aa 8))) (Ab (Ac AW (Ab (Aa 9) Ag)) Ag))) Ag))))))))
  (Bb (Cz GZ (Aa 4) (Ab (An AD (Ab (Ae Az (Aa 2) uc) (Ab ug Ag))) Ag)))))))
  (retS (Aa 4)))))))
def EO:FS->Out Rv:=Be 10 (KU)
def JQ:FS->SO :=
  (Ak (Av 5 uR)
  (Ak (BR (itZ (Aa 4) (Aa 3)) (Aw 2 ut) (ifS (asB (Ae (gEq false) (Aa 7) (Aa 1))) (Bb (Cz GZ (Aa 5) (Ab (An AD (Ab u8 (Ab tY (Ab (An AD (Ab (An AD (Ab uz ux)) Ag)) Ag)))) Ag))) (Bb (Cz GZ (Aa 5) (Ab (An AD (Ab uz ux)) Ag)))))
  (retS (An AD (Ab (Ac AW (Ab (slF (Aa 4) noP (AB (Ac Ax uS))) Ag)) (Ab (An AD (Ab uZ (Ab t9 (Ab uO Ag)))) Ag))))))
def DB:FS->Out Rv:=Be 3 (JQ)
def IU:FS->SO :=
  (Ak (BR vh ud (ifS (asB (Ae (gEq false) (Aa 2) (Aa 1))) (retS (Aa 3)) nxS))
  (retS (An Bj Ag)))
def BN:FS->Out Rv:=Be 2 (IU)
def N9(rec:FS->Out Rv):FS->SO :=
  (Ak (ifS vA (retS (Ae Az (An Bj (Ab tY (Ab t9 Ag))) (Ac Fj (Ab (Ae (gEq false) (Ae Az (Aa 0) (xB 1)) (Aa 1)) Ag)))) nxS)
  (retS (An AD (Ab uF (Ab (Ae Az (Aa 0) (xB 1)) (Ab (Ac AW (Ab (Bo false [none,some 1,some 2] (itU (Ae Az (Aa 0) (xB 2))) u9 D5 (fz (xD rec tY tZ t9))) Ag)) Ag))))))
def Iv:Nat->FS->Out Rv
 |0=>λ_=>.bad
 |n+1=>Be 0 (N9 (Iv n))
def KS(rec:FS->Out Rv):FS->SO :=
  (Ak (D3 (Ae Az (fz (xC BN tY tZ)) (xB 0)) ud)
  (retS (An AD (Ab uZ (Ab t9 (Ab (Ac AW (Ab (Bo false [none,some 0] vB u9 D5 (fz (xC rec tZ tY))) Ag)) Ag))))))
def DW:Nat->FS->Out Rv
 |0=>λ_=>.bad
 |n+1=>Be 2 (KS (DW n))
def IT(rec:FS->Out Rv):FS->SO :=
  (Ak (Av 6 (Bo false [none,some 3,some 1] (itD (Aa 1)) u9 (asB (Ae (gEq false) (Ae Az (Aa 2) tY) (Aa 1))) tY))
  (Ak (Av 7 (Bo false [none,some 3,some 2] (itD (Aa 2)) u9 (asB (Ae (gEq false) (Ae Az (Ae Az (Aa 2) tY) (xB 1)) (Aa 1))) tY))
  (Ak (Av 8 (Ae BD (Aa 4) (xB 5)))
  (Ak (Av 4 (Ae C0 (Aa 4) (xB 5)))
  (Ak (ifS (JU u5 (orT vC (asB (Ae gLt (Aa 8) (xB 2))))) (retS (An Bj (Ab (An AD (Ab uz (Ab (Ae Az (Aa 6) (Ae BD (Aa 4) uf)) Ag))) (Ab (Ae C0 (Aa 4) uf) Ag)))) nxS)
  (Ak (ifS vC (retS (An Bj (Ab (fz (xC (DW 8) tY ua)) u6))) nxS)
  (Ak (Av 9 uZ)
  (Ak (Av 10 (fz (xC BN tY ua)))
  (Ak (D3 (Ae Az uN (Ae BD (Aa 4) u3)) vi)
  (Ak (ifS (JU (asB (Ae gGt vt (xB 0))) (asB (Ae gGt (Aa 8) (xB 2)))) (Ak (Av 9 u8)
  (Ak (Av 11 (Ae Az (Aa 7) (Ae BD (Aa 4) vt)))
  (Av 12 (Ae Az (Ae Az (Aa 2) uT) (xB 0))))) nxS)
  (Ak (Av 4 (Ae C0 (Aa 4) (xB 12)))
  (Ak (Av 13 uR)
  (Ak (BR (itU (fz va)) (tgN 14) (Ak (D3 (fz (xE rec tY tZ t9 vd ub (Ae Ik (Aa 5) (xB 1)))) (K9 2 (Af (tgN 15) (Af (tgN 4) Au))))
  (Bb (Cz GZ vv (Ab (fz (Aa 15)) Ag)))))
  (retS (An Bj (Ab (An AD (Ab (fz (Aa 9)) (Ab uT (Ab (Ac AW (Ab vv Ag)) Ag)))) u6))))))))))))))))
def Co:Nat->FS->Out Rv
 |0=>λ_=>.bad
 |n+1=>Be 10 (IT (Co n))
def QP:FS->SO :=
  (retS (Ae Az (fz (xE (Co 6) tY tZ t9 ua ub uc)) (xB 0)))
def ER:FS->Out Rv:=Be 0 (QP)
def Oa:FS->SO :=
  (Ak (D3 t9 (Aw 3 (Af (tgN 6) uu)))
  (Ak (ifS (orT (asB (Ae (gEq false) uk (xB 0))) (asB (Ae (gEq false) (Ae BD (Aa 5) (xB 4)) (xB 0)))) (retS (xE ER tY ua tZ uG (Ae C0 (Aa 5) (xB 8)) (xB 3))) nxS)
  (Ak (Av 9 (Ac Ip uS))
  (Ak (Cm uG (Aa 9) u7)
  (Ak (Av 10 (An DS (Ab (An AD (Ab uz (Ab (Ae Az (Aa 4) (Ae BD (Ae C0 (Aa 5) (xB 4)) uk)) Ag))) Ag)))
  (Ak (Av 5 (Ae C0 (Aa 5) (xB 8)))
  (Ak (BR (itU (slF (Aa 7) uh noP)) (tgN 11) (Ak (D3 (fz (xE (Co 6) tY ua tZ uT uc (xB 2))) (K9 2 (Af (tgN 12) (Af (tgN 5) Au))))
  (Bb (Cz GZ uN (Ab (fz va) Ag)))))
  (retS (xD (Iv 20) (fz (xE ER tY (fzD (Aa 9)) tZ uG uc (xB 3))) u7 (An AD (Ab u8 (Ab vm (Ab (Ac AW (Ab uN Ag)) Ag)))))))))))))
def G7:FS->Out Rv:=Be 7 (Oa)
def FF:FS->SO :=
  (Ak (Av 4 (fz (xC BI (Ae C0 (Aa 3) (xB 11)) (xB 4))))
  (Ak (Av 5 (Bo false [none,some 0,some 3] (LM (Ab (Ae Ao (xB 1) (Ae BD (Aa 3) (xB 3))) Ag)) u9 D5 (Ae Az (Ae Az (Aa 1) (Ae BD (Ae C0 (Aa 2) (Ae Ao (xB 3) (Ae Bi (xB 2) (Aa 0)))) (Ac Ax uD))) (xB 0))))
  (Ak (Av 6 (Ae Az (Ae Az (Aa 0) (Ae BD (Ae C0 (Aa 3) (xB 100)) uj)) (xB 0)))
  (Ak (Av 7 (slF (Aa 4) (AB (xB 2)) (AB (Ae Ao (xB 1) (Ac Ax (Ab (Aa 5) Ag))))))
  (Ak (Av 8 uR)
  (Ak (BR (itE (fz (xC BN tY vf))) (Aw 2 (Af (tgN 9) (Af uJ Au))) (Ak (Av 12 (slF (Aa 4) noP (AB (Ac Ax (Ab vG Ag)))))
  (Ak (Av 13 (JL (Ab (fz (Ae Ao va (Aa 7))) (Ab (fz (Ae Ao (fz (Ac Bf (Ab vG Ag))) vn)) Ag))))
  (Ak (Av 14 (Bo false [none,none,some 5] (itZ va vG) ue vq tY))
  (Ak (Av 15 (fz (xC BS (Ae BD (Aa 3) (Ae JC vF (xB 18))) (Ae Ao (xB 70) (Aa 9)))))
  (Ak (ifS (asB (Ae gGt (Aa 3) (Ae JC vF (xB 41)))) (Ak (Av 3 (Ae Qe (Aa 3) (Ae JC vF (xB 40))))
  (Av 15 ua)) nxS)
  (Bb (Cz GZ (Aa 8) (Ab (An AD (Ab (Ac AW (Ab va Ag)) (Ab (fz (xE G7 tY t9 (An AD (Ab tZ (Ab uc ux))) (fzD vv) vd (fz (Aa 15)))) Ag))) Ag)))))))))
  (retS (An AD (Ab tZ (Ab uO (Ab vm (Ab (Ac AW uE) (Ab (Ac AW (Ab (Aa 8) Ag)) Ag)))))))))))))
def CF:FS->Out Rv:=Be 12 (FF)
def Ez:FS->SO :=
  (Ak (Av 2 (slF (fz (xC BI (fz (xC BS (fz (xC AM tY (xB 2))) (xB 3))) (xB 16))) (AB (xB 12)) noP))
  (Ak (Av 3 (fz (xC BS (fz (xC AM tY (xB 6))) (xB 5))))
  (Ak (D3 (Ae Az (Aa 1) (Ae BD (Aa 3) (Ac Ax uD))) uq)
  (Ak (Av 6 (fz (xC BI (Ae C0 (Aa 3) (xB 5)) (xB 2))))
  (Ak (Av 7 (Bo false [none,none,some 4,some 6,some 2] (itU uc) ue D5 (fz (xF DB uU t9 tY tZ ua))))
  (Ak (Av 8 (An DS (Ab (An AD (Ab uH (Ab (An AD u6) (Ab ub (Ab (An AD Ag) (Ab (Ac AW uE) Ag)))))) Ag)))
  (Ak (Av 9 (Iz uH (An AD (Ab (An AD u6) u6))))
  (Ak (BR (LM (Ab (Ae BD (Ae C0 (Aa 3) (xB 3)) (xB 4)) Ag)) (tgN 10) (Ak (Av 11 (fz (GG 9 (xG CF tZ (Ae Az (Aa 2) (Ae Ao (xB 1) uN)) (Aa 9) (fz (xC BS (fz (xC AM tY (Ae Ao (xB 7) uN))) (xB 7)))))))
  (Ak (Bb (Cz GZ (Aa 8) (Ab uT Ag)))
  (Cm (An AD (Ab (Ae Az vG (xB 1)) (Ab (Ae Az vG (xB 2)) Ag))) (Aa 9) (Ae Az vG (xB 0))))))
  (retS (Aa 8))))))))))
def Cb:FS->Out Rv:=Be 10 (Ez)
def LH:FS->SO :=
  (retS (Vi (Ae gGt uj (xB 0)) (Vi (Ae gLt uj (xB 13)) (Ae (gEq false) (fz (Px Kp (Aa 0) (Ab uM Ag))) u7))))
def Di:FS->Out Rv:=Be 0 (LH)
def KR:FS->SO :=
  (Ak (BR vh ud (BR vB uq (ifS (asB (Ae (gEq false) (Aa 4) (Aa 1))) (retS (An AD (Ab t9 (Ab uc Ag)))) nxS)))
  (retS (gc .l)))
def DV:FS->Out Rv:=Be 4 (KR)
def FD:FS->SO :=
  (Ak uW
  (Ak (ifS (FQ (K8 (fz (xH Di ua)))) (retS (xA "BadName")) nxS)
  (Ak (ifS (orT vw (asB (Ae Nd (fz (xC DV tY ua)) (gc .l)))) (retS (xA "Twice")) nxS)
  (Ak (ifS (orT (asB (Ae gLt uk (xB 1))) (asB (Ae gGt uk (xB 3)))) uP nxS)
  (Ak (BR uL (tgN 8) (ifS (asB (Ae (CS true) uG (Bo false [none] vh u9 D5 uF))) (retS (xA "NoKind")) nxS))
  (Ak (ifS (orT vc (asB (Ae (gEq true) vt (Ac Ax (Ab (fz (xC BN tY uU)) Ag))))) uP nxS)
  (retS u7)))))))
def DA:FS->Out Rv:=Be 6 (FD)
def DH(rec:FS->Out Rv):FS->SO :=
  (Ak (D3 (slF (Aa 5) noP (AB (xB 2))) (Aw 2 ut))
  (Ak (ifS (asB (Ae (gEq false) (Aa 6) uz)) (Ak (ifS (asB (Ae (CS false) ug (Aa 1))) (retS (Ae Az (Aa 1) ug)) nxS)
  (retS (xA "NoName"))) nxS)
  (Ak (Av 8 (fz (xC DV tY ug)))
  (Ak (ifS (asB (Ae (gEq false) (Aa 6) uZ)) (Ak (ifS (asB (Ae (RD false) (Aa 8) (gc .l))) (retS (xA "NoMaker")) nxS)
  (D3 uG vj)) (Ak (ifS (asB (Ae (CS true) ug (Aa 2))) (retS (xA "NoFunction")) nxS)
  (D3 (Ae Az (Aa 2) ug) (Aw 2 (Af (tgN 10) (Af (tgN 9) Au))))))
  (Ak (ifS (asB (Ae (gEq true) (Ac Ax (Ab uV Ag)) u3)) uP nxS)
  (Ak (ifS (JU (asB (Ae (gEq false) (Aa 6) u8)) (asB (Ae (gEq false) (Aa 7) (Aa 3)))) (ifS (orT (asB (Ae (gEq true) (Ae Az (Ae Az uV (xB 0)) (xB 0)) uz)) (asB (Ae (CS true) (Ae Az (Ae Az uV (xB 0)) (xB 1)) (Aa 4)))) (retS (xA "NotLess")) nxS) nxS)
  (Ak (BR (itZ uN uV) vi (Ak (Av 13 (fz (xE rec tY tZ t9 ua ub (fz va))))
  (Ak (ifS (asB (Ae (CS false) (fz vv) um)) (retS vv) nxS)
  (ifS (asB (Ae (gEq true) vv vG)) (retS (xA "BadKind")) nxS))))
  (retS (Aa 9)))))))))
def G5:Nat->FS->Out Rv
 |0=>λ_=>.bad
 |n+1=>Be 8 (DH (G5 n))
def El:FS->SO :=
  (Ak uC
  (Ak (D3 ub uJ)
  (Ak (ifS (asB (Ae (gEq true) u3 (Ac Ax uS))) uP nxS)
  (Ak (Av 12 ul)
  (Ak (BR (itE (fz va)) (Aw 2 (Af (tgN 13) (Af (tgN 14) Au))) (Ak (ifS (FQ (K8 (fz (xH Di vd)))) (retS (xA "BadName")) nxS)
  (ifS (asB (Ae (CS false) vd (slF va noP (AB vv)))) (retS (xA "Twice")) nxS)))
  (Ak (Av 15 (fz (JL (Ab va (Ab (fz (Ae Ao (fz (Ac Bf uS)) (fz (Ac Bf (Ab uK Ag))))) Ag)))))
  (Ak (Av 16 (Bo false [none,none,some 6] (itZ uN (Aa 3)) ue vq tY))
  (Ak (Av 17 (fz (xE (G5 20) tY (fz (Aa 15)) tZ uc (fz (Aa 16)) uT)))
  (Ak (ifS (asB (Ae (CS false) (fz (Aa 17)) um)) (retS (Aa 17)) nxS)
  (retS (Ae Az (An Bj (Ab (xA "BadKind") (Ab u7 Ag))) (Ac Fj (Ab (Ae (gEq false) (Aa 17) (Aa 7)) Ag)))))))))))))
def Cp:FS->Out Rv:=Be 13 (El)
def RZ:FS->SO :=
  (Ak (Av 2 Fi)
  (Ak (BR (itU tZ) (tgN 3) (Ak (Av 4 (fz (GG 2 (xD DA tY (Aa 2) ua))))
  (Ak uQ
  (Ak (Cm (An AD (Ab (Ae Az (Aa 3) (xB 1)) (Ab (Ae Az (Aa 3) (xB 2)) Ag))) (Aa 2) (Ae Az (Aa 3) (xB 0)))
  (BR (itE (fz (xC BN tY (Ae Az (Ae Az (Aa 3) (xB 1)) (xB 0))))) (Aw 2 (Af (tgN 5) (Af (Aw 2 ut) Au))) (Ak (Av 4 (fz (GG 2 (xF Cp tY (Aa 2) ua ug (Ae Az (Ae Az (Aa 3) (xB 4)) uc)))))
  uQ))))))
  (retS u7)))
def NA:FS->Out Rv:=Be 6 (RZ)
def Dt:FS->SO :=
  (Ak (Av 1 uR)
  (Ak (BR vh ud (BR vB uq (Bb (Cz GZ (Aa 1) u6))))
  (retS (Aa 1))))
def BJ:FS->Out Rv:=Be 5 (Dt)
def FG:FS->SO :=
  (retS (Ae Az (An Bj (Ab u7 (Ab (slS (Ae Ao (Aa 0) (xA "abcdefghijklm")) noP (AB (xB 13))) (Ab (Ae Ao (slS (Aa 0) noP (AB (Rw (xB 1)))) (xA "A")) (Ab (Ae Ao (Ae Ao (slS (Aa 0) noP uh) (xA " ")) (slS (Aa 0) uh noP)) (Ab (xA "7") Ag)))))) vg))
def BE:FS->Out Rv:=Be 0 (FG)
def Dd(rec:FS->Out Rv):FS->SO :=
  (Ak (Av 3 (Ae BD (Aa 1) (xB 7)))
  (Ak (Av 1 (Ae C0 (Aa 1) (xB 7)))
  (Ak (ifS vA (retS (Ae Az (An Bj (Ab (An AD (Ab uz (Ab uw Ag))) (Ab (An AD (Ab uZ (Ab uw (Ab (An AD Ag) Ag)))) Ag))) (Ac Fj (Ab (Ae gGt (Aa 3) (xB 4)) Ag)))) nxS)
  (Ak (D3 tY (Aw 3 (Af (tgN 4) vD)))
  (Ak (Av 7 (Ae BD (Aa 1) (Ae Ao uf (xB 1))))
  (Ak (ifS (asB (Ae (gEq false) (Aa 3) (xB 0))) vp nxS)
  (Ak (ifS (asB (Ae (gEq false) (Aa 3) (xB 1))) (retS (An AD (Ab (Ae Az (An Bj (Ab uZ (Ab u8 Ag))) (Ae BD (Ae C0 (Aa 1) (xB 4)) (xB 2))) (Ab uc ux)))) nxS)
  (Ak (ifS (asB (Ae (gEq false) (Aa 3) (xB 2))) (retS (An AD (Ab ub (Ab uc (Ab (Ae Ao uY vb) Ag))))) nxS)
  (Ak (ifS (asB (Ae (gEq false) (Aa 3) (xB 3))) (retS (An AD (Ab ub (Ab uc (Ab (Ae Ao (Ae Ao uY (An AD (Ab (An AD (Ab uz (Ab ur Ag))) Ag))) (slF (Aa 6) (AB (Aa 7)) noP)) Ag))))) nxS)
  (Ak (ifS (asB (Ae (gEq false) (Aa 3) (xB 4))) (retS (An AD (Ab ub (Ab uc (Ab (Zf (Aa 6)) Ag))))) nxS)
  (Ak (ifS (asB (Ae gLt (Aa 7) uf)) (retS (An AD (Ab ub (Ab uc (Ab (Ae Ao (Ae Ao uY (An AD (Ab (fz (xD rec (Ae Az (Aa 6) ug) (Ae C0 (Aa 1) (xB 4)) t9)) Ag))) vb) Ag))))) nxS)
  vp)))))))))))
def Bp:Nat->FS->Out Rv
 |0=>λ_=>.bad
 |n+1=>Be 5 (Dd (Bp n))
def Dc:FS->SO :=
  (Ak (ifS (asB (Ae (gEq false) uj (xB 0))) (retS (Aa 0)) nxS)
  (Ak (Av 4 (Ae BD (Aa 2) uj))
  (Ak (Av 5 (Ae BD (Ae C0 (Aa 2) (xB 5)) (xB 6)))
  (Ak (Av 2 (Ae C0 (Aa 2) (xB 30)))
  (Ak (D3 (Ae Az (Aa 0) ub) (Aw 2 ut))
  (Ak (ifS (asB (Ae (gEq false) (Aa 5) (xB 0))) (retS (Ae Az (An Bj (Ab (Ae Ao vE (slF (Aa 0) u0 noP)) (Ab (Ae Ao (Aa 0) (slF (Aa 0) (AB (Aa 4)) u0)) Ag))) (Ae BD (Aa 2) (xB 2)))) nxS)
  (Ak (ifS (asB (Ae (gEq false) (Aa 5) (xB 1))) (Av 6 (Ae Az (An Bj (Ab uK (Ab (Ae Ao (Aa 6) (An AD (Ab (xA "q") Ag))) (Ab (Ae Ao (Aa 6) (slF (Aa 6) noP uh)) (Ab (Ae Ao (Aa 6) (Ac AW (Ab (slF (Aa 1) noP uh) Ag))) Ag))))) (Ae BD (Aa 2) (xB 4)))) (ifS (JU (asB (Ae (gEq false) (Aa 5) (xB 2))) u5) (Av 6 (Ae Ao (An AD (Ab (fz (xC BE (Ae Az (Aa 6) (xB 0)) t9)) Ag)) uK)) (ifS (JU (asB (Ae (gEq false) (Aa 5) (xB 3))) u5) (Av 6 (Ae Ao (An AD (Ab (Ae Az (Ae Ao (Aa 6) (Ac AW uD)) (Rw (xB 1))) Ag)) uK)) (Av 7 (fz (xD (Bp 20) ug t9 (fz (Ae Ao (fz (Ae Ao (fz (Ac Bf (Ab (Aa 6) Ag))) (fz (Ac Bf uD)))) (Aa 3)))))))))
  (retS (Ae Ao (Ae Ao vE (An AD (Ab (An AD (Ab vm (Ab ug Ag))) Ag))) (slF (Aa 0) u0 noP))))))))))
def Cc:FS->Out Rv:=Be 4 (Dc)
def Ob:FS->SO :=
  (Ak (Av 3 (Ae BD (Aa 1) uj))
  (Ak (D3 (Ae Az (Aa 0) ua) u4)
  (Ak (Av 9 (Ae BD (Ae C0 (Aa 1) (xB 5)) (xB 9)))
  (Ak (Av 1 (Ae C0 (Aa 1) (xB 45)))
  (Ak (ifS (asB (Ae (gEq false) (Aa 9) (xB 0))) (Av 4 (Ae Az (An Bj (Ab (fz (xC BE ub (Ae C0 (Aa 1) (xB 2)))) (Ab (Ae Az (Aa 2) (Ae BD (Ae C0 (Aa 1) (xB 2)) (Ac Ax (Ab (Aa 2) Ag)))) Ag))) (Ae BD (Aa 1) (xB 2)))) (ifS (asB (Ae (gEq false) (Aa 9) (xB 1))) (Ak (Av 10 (An Bj (Ab (Ae Ao (An AD (Ab (xA "x") Ag)) vn) (Ab (Ae Ao (slF (Aa 5) noP (AB (Rw (xB 1)))) (An AD (Ab (xA "x") Ag))) Ag))))
  (Av 5 (Ae Az (fz (Ae Ao (An Bj (Ab vn (Ab (Ae Ao (Aa 5) (slF (Aa 5) noP uh)) (Ab (Ae Ao (Ae Ao (Aa 5) (Aa 5)) (slF (Aa 5) noP uh)) Ag)))) uN)) vg))) (ifS (asB (Ae (gEq false) (Aa 9) (xB 2))) (Av 6 (Ae Az (An Bj (Ab u7 (Ab (xA "x") (Ab uw Ag)))) (Ae BD (Aa 1) (xB 3)))) (ifS (asB (Ae (gEq false) (Aa 9) (xB 3))) (Ak (Av 11 (Ac AW (Ab (Bo false [none,some 1] (itU ug) u9 D5 (fz (xC BE tY tZ))) Ag)))
  (Av 7 (Ae Az (An Bj (Ab (slF (Aa 7) uh noP) (Ab (Ae Ao (Aa 7) (An AD (Ab (xA "q") Ag))) (Ab (Ae Ao (Aa 7) (slF (Aa 7) noP uh)) (Ab uT (Ab (Ae Nf (slF (Aa 7) noP uh) vt) Ag)))))) vg))) (Av 8 (fz (xG Cc uG ug tZ t9)))))))
  (retS (Ae Ao (fz (Ae Ao (slF (Aa 0) noP (AB (Aa 3))) (An Bj (Ab (An AD (Ab ub (Ab uc (Ab vm (Ab ug (Ab uG Ag)))))) Ag)))) (slF (Aa 0) (AB (Ae Ao (Aa 3) (xB 1))) noP))))))))
def Fm:FS->Out Rv:=Be 9 (Ob)
def F0(ah:Addr):FS->SO :=
  (Ak (ifS (asB (Ae (CS true) tZ (EM ah "makers_by_kind" (Aa 0)))) (λ_=>.bad) nxS)
  (retS (Ac Bf (Ab (Ae Az (EM ah "makers_by_kind" (Aa 0)) tZ) Ag))))
def AS(ah:Addr):FS->Out Rv:=Be 0 (F0 ah)
def Hl(ah:Addr):FS->SO :=
  (retS (Ac Bf (Ab (EM ah "makers_by_kind" (Aa 0)) Ag)))
def Bt(ah:Addr):FS->Out Rv:=Be 0 (Hl ah)
def Gz(ah:Addr):FS->SO :=
  (retS (Ac Vp (Ab (Bo false [none,some 1,some 0] (itU (fz (Ln ah "kinds" 1 (Bt ah) tY Ag))) u9 D5 (Ae (CS false) tZ (fz (Ec ah "makers" 2 (AS ah) t9 (Ad tY Ag))))) Ag)))
def Ei(ah:Addr):FS->Out Rv:=Be 0 (Gz ah)
def C9(ah:Addr):FS->SO :=
  (Ak uW
  (Ak (ifS (FQ (K8 (fz (xH A5 ua)))) (A0 "BadName" (Ab (jsF ((xA "no name for a function: ")::(uI :: [])) Str.empty) Ag)) nxS)
  (Ak (ifS (orT vw (K8 (fz (xC (Ei ah) tY ua)))) (A0 "Twice" (Ab (jsF ((xA "a function above or a maker is called ")::(uI :: [])) Str.empty) Ag)) nxS)
  (Ak (ifS (FQ (asB (chain gLe gLe (xB 1) uk (xB 3)))) (A0 "BadCount" (Ab (jsF ((xA "a function has one to three arguments: ")::(uI :: [])) Str.empty) Ag)) nxS)
  (Ak (BR uL (tgN 8) (ifS (asB (Ae (CS true) uG (fz (Ln ah "kinds" 1 (Bt ah) tY Ag)))) (A0 "NoKind" (Ab (jsF ((xA "no kind is called ")::((Es (Aa 8)) :: [])) Str.empty) Ag)) nxS))
  (Ak (ifS vc (A0 "BadCount" (Ab (jsF (uI::((xA " needs a name for each argument behind the first") :: [])) Str.empty) Ag)) nxS)
  (ifS (asB (Ae (gEq true) vt (Ac Ax (Ab (fz (Ec ah "makers" 2 (AS ah) tY (Ad uU Ag))) Ag)))) (A0 "BadCount" (Ab (jsF (uI::((xA " needs a row for each maker of its first kind") :: [])) Str.empty) Ag)) nxS)))))))
def Ca(ah:Addr):FS->Out Rv:=Be 6 (C9 ah)
def D2(ah:Addr):FS->SO :=
  (Ak (ifS (asB (Ae (CS true) tZ (EM ah "parts_by_maker" (Aa 0)))) uB nxS)
  (retS (Ae Az (EM ah "parts_by_maker" (Aa 0)) tZ)))
def Bs(ah:Addr):FS->Out Rv:=Be 0 (D2 ah)
def CK:FS->SO :=
  (Ak (Av 1 Fi)
  (BR vh (tgN 2) (Ak (ifS (FQ (K8 (fz (xH A5 t9)))) (A0 "BadName" (Ab (jsF ((xA "no name: ")::vo) Str.empty) Ag)) nxS)
  (Ak (ifS vz (A0 "Twice" (Ab (jsF ((xA "two names in a row: ")::vo) Str.empty) Ag)) nxS)
  (Cm vk (Aa 1) t9)))))
def BV:FS->Out Rv:=Be 2 (CK)
def IS(ah:Addr):FS->SO :=
  (Ak (ifS (asB (Ae (CS true) tZ (EM ah "home_by_maker" (Aa 0)))) uB nxS)
  (retS (Ae Az (EM ah "home_by_maker" (Aa 0)) tZ)))
def C4(ah:Addr):FS->Out Rv:=Be 0 (IS ah)
def B5(aj:Addr)(ah:Addr):FS->SO :=
  (Ak (ifS (asB (Ae (gEq false) (Aa 1) uZ)) (retS (An AD (Ab (fz (Ec ah "parts" 2 (Bs ah) (EM aj "stock" (Aa 0)) (Ad t9 Ag))) (Ab (fz (Ec ah "home" 2 (C4 ah) (EM aj "stock" (Aa 0)) (Ad t9 Ag))) Ag)))) nxS)
  (Ak (ifS (asB (Ae (CS true) t9 (EM aj "heads" (Aa 0)))) (A0 "NoFunction" (Ab (jsF ((xA "no function that may be called here is called ")::vo) Str.empty) Ag)) nxS)
  (retS (Ae Az (EM aj "heads" (Aa 0)) t9))))
def AG(aj:Addr)(ah:Addr):FS->Out Rv:=Be 0 (B5 aj ah)
def FY(aj:Addr):FS->SO :=
  (Ak (ifS (asB (Ae (CS true) tZ (EM aj "kinds_by_name" (Aa 0)))) (A0 "NoName" (Ab (jsF ((xA "no such name may stand here: ")::((Es (Aa 1)) :: [])) Str.empty) Ag)) nxS)
  (retS (Ae Az (EM aj "kinds_by_name" (Aa 0)) tZ)))
def BG(aj:Addr):FS->Out Rv:=Be 0 (FY aj)
def AQ(aj:Addr)(ah:Addr)(rec:FS->Out Rv):FS->SO :=
  (Ak (ifS (asB (Ae (gEq false) (Ae Az (Aa 1) (xB 0)) uz)) (retS (xC (BG aj) tY (Ae Az (Aa 1) (xB 1)))) nxS)
  (Ak (D3 tZ (Aw 3 (Af (tgN 2) (Af (tgN 3) (Af (tgN 4) Au)))))
  (Ak (D3 (fz (xD (AG aj ah) tY t9 ua)) (Aw 2 vD))
  (Ak (ifS (asB (Ae (gEq true) uk (Ac Ax (Ab (Aa 5) Ag)))) (A0 "BadCount" (Ab (jsF (uI::((xA " has another number of arguments") :: [])) Str.empty) Ag)) nxS)
  (Ak (ifS (JU (asB (Ae (gEq false) (Aa 2) u8)) (JU (asB (Ae (gEq false) (Aa 3) (EM aj "own" (Aa 0)))) (asB (Ae Im uU (EM aj "lessers" (Aa 0)))))) (A0 "NotLess" (Ab (jsF (uI::((xA " calls itself for something that is no part") :: [])) Str.empty) Ag)) nxS)
  (Ak (BR (itZ (Aa 4) (Aa 5)) (Aw 2 uu) (ifS (asB (Ae (gEq true) (fz (xC rec tY ug)) (Aa 8))) (A0 "BadKind" (Ab (jsF ((xA "an argument of ")::(uI::((xA " isn't of the kind ")::((Es (Aa 8)) :: [])))) Str.empty) Ag)) nxS))
  (retS (Aa 6))))))))
def Ba(aj:Addr)(ah:Addr):Nat->FS->Out Rv
 |0=>λ_=>.bad
 |n+1=>Be 7 (AQ aj ah (Ba aj ah n))
def Ey(aj:Addr):FS->SO :=
  (Ak (Iq aj "stock" 0 tZ)
  (Ak (Iq aj "heads" 0 t9)
  (Ak (Iq aj "kinds_by_name" 0 ua)
  (Ak (Iq aj "own" 0 ub)
  (Iq aj "lessers" 0 uc)))))
def C5(aj:Addr):FS->Out Rv:=Be 0 (Ey aj)
def CJ(aj:Addr)(ah:Addr):FS->SO :=
  (Ak uC
  (Ak (D3 ub uJ)
  (Ak (Av 12 (fz (Ec ah "parts" 2 (Bs ah) tY (Ad ua Ag))))
  (Ak (ifS (asB (Ae (gEq true) u3 (Ac Ax (Ab va Ag)))) (A0 "BadCount" (Ab (jsF ((xA "the row of ")::((Es (Aa 5))::((xA " for ")::(uI::((xA " needs a name for each part") :: []))))) Str.empty) Ag)) nxS)
  (Ak (Bb (xH BV ul))
  (Ak (Av 13 (fz (JL (Ab ul (Ab (fz (Ae Ao (fz (Ac Bf (Ab va Ag))) (fz (Ac Bf (Ab uK Ag))))) Ag)))))
  (Ak (Av 14 (Bo false [none,some 13,some 6] (itU (fz uN)) u9 (asB (Ae (gEq false) (Ae Az (Aa 1) tY) uH)) (An AD (Ab uz (Ab tY Ag)))))
  (ifS (asB (Ae (gEq true) (fz (xC (Ba aj ah 20) (fz (Ac (GU aj 6 (C5 aj)) (Ad tY (Ad tZ (Ad (fz vv) (Ad uc (Ad vd Ag))))))) uT)) (Aa 7))) (A0 "BadKind" (Ab (jsF ((xA "the row of ")::((Es (Aa 5))::((xA " for ")::(uI::((xA " isn't of the kind ")::((Es (Aa 7)) :: [])))))) Str.empty) Ag)) nxS))))))))
def Bm(aj:Addr)(ah:Addr):FS->Out Rv:=Be 10 (CJ aj ah)
def BL(ak:Addr)(aj:Addr)(ah:Addr):FS->SO :=
  (Ak (Iq ak "stock" 0 tZ)
  (Ak (Iq ak "heads" 0 Fi)
  (Ak (Iq ak "rows_by_function" 0 Fi)
  (BR (itU t9) (tgN 3) (Ak (Bb (FV 0 (xD (Ca ah) tZ (EM ak "heads" (Aa 0)) ua)))
  (Ak (D3 ua u4)
  (Ak (C6 ak "heads" 0 4 (An AD (Ab uO ux)))
  (Ak (JK ak "rows_by_function" 0 4)
  (BR (itZ (fz (Ec ah "makers" 2 (AS ah) tZ (Ad vf Ag))) (Aa 8)) vj (Ak (Bb (FV 0 (xF (Bm aj ah) tZ (EM ak "heads" (Aa 0)) ua (fz (Aa 9)) (fz uN))))
  (dput2 ak "rows_by_function" 0 4 9 (An AD (Ab (Ae Ao (Ac AW (Ab (Ae Az uN (xB 0)) Ag)) (Ac AW uE)) (Ab (Ae Az uN (xB 1)) Ag))))))))))))))
def Bk(ak:Addr)(aj:Addr)(ah:Addr):FS->Out Rv:=Be 8 (BL ak aj ah)
def QQ:FS->SO :=
  (Ak (Av 1 (An Bj (Ab (isX xrs GA "BadCount" (Aa 0)) (Ab (isX xrs GA "BadKind" (Aa 0)) (Ab (isX xrs GA "BadName" (Aa 0)) Ag)))))
  (Ak (Av 1 (fz (Ae Ao (Aa 1) (An Bj (Ab (isX xrs GA "BadText" (Aa 0)) (Ab (isX xrs GA "Groundless" (Aa 0)) (Ab (isX xrs GA "NoFunction" (Aa 0)) Ag)))))))
  (Ak (Av 1 (fz (Ae Ao (Aa 1) (An Bj (Ab (isX xrs GA "NoKind" (Aa 0)) (Ab (isX xrs GA "NoMaker" (Aa 0)) (Ab (isX xrs GA "NoName" (Aa 0)) Ag)))))))
  (Ak (Av 1 (fz (Ae Ao (Aa 1) (An Bj (Ab (isX xrs GA "NoPlace" (Aa 0)) (Ab (isX xrs GA "NoSaying" (Aa 0)) (Ab (isX xrs GA "NotLess" (Aa 0)) Ag)))))))
  (Ak (Av 1 (fz (Ae Ao (Aa 1) (An Bj (Ab (isX xrs GA "NotShown" (Aa 0)) (Ab (isX xrs GA "TooLong" (Aa 0)) (Ab (isX xrs GA "Twice" (Aa 0)) Ag)))))))
  (Ak (ifS (orT (FQ (K8 (isX xrs GA "SayError" (Aa 0)))) (orT (FQ (K8 (isV xrs (Aa 0)))) (asB (Ae (gEq true) (Ac Zi (Ab (Bo false [none] (itU tZ) u9 D5 (Ac Fj (Ab (Aa 0) Ag))) Ag)) (xB 1))))) (retS u7) nxS)
  (Ak (Av 2 (An Bj (Ab (xA "BadCount") (Ab (xA "BadKind") (Ab (xA "BadName") (Ab (xA "BadText") (Ab (xA "Groundless") (Ab (xA "NoFunction") (Ab (xA "NoKind") (Ab (xA "NoMaker") Ag))))))))))
  (Ak (Av 2 (fz (Ae Ao (Aa 2) (An Bj (Ab (xA "NoName") (Ab (xA "NoPlace") (Ab (xA "NoSaying") (Ab (xA "NotLess") (Ab (xA "NotShown") (Ab (xA "TooLong") (Ab (xA "Twice") Ag)))))))))))
  (retS (Ae Az (Aa 2) (fz (Cz Jbh (Aa 1) (Ab vk Ag)))))))))))))
def G6:FS->Out Rv:=Be 2 (QQ)
def Hk:FS->SO :=
  (Ak (ifS (FQ (asB (chain gLe gLe (xB 1) uj (xB 4)))) (A0 "BadCount" (Ab (xA "a stock has one to four kinds") Ag)) nxS)
  (Ak (Av 1 Fi)
  (BR vh ud (Ak (ifS (FQ (K8 (fz (xH A5 t9)))) (λ_=>.bad) nxS)
  (Ak (ifS vz (λ_=>.bad) nxS)
  (Ak (ifS (FQ (asB (chain gLe gLe (xB 1) (Ac Ax uS) (xB 4)))) (λ_=>.bad) nxS)
  (Cm vk (Aa 1) t9)))))))
def CD:FS->Out Rv:=Be 3 (Hk)
def Hj:FS->SO :=
  (Ak (ifS (FQ (K8 (fz (xH A5 tY)))) (λ_=>.bad) nxS)
  (Ak (ifS (asB (Ae (CS false) tY (Aa 2))) (λ_=>.bad) nxS)
  (Ak (ifS (asB (Ae gGt (Ac Ax uD) (xB 2))) (λ_=>.bad) nxS)
  (BR (itU tZ) (tgN 4) (ifS (asB (Ae (CS true) ub (Aa 3))) (λ_=>.bad) nxS)))))
def BW:FS->Out Rv:=Be 1 (Hj)
def FZ:FS->SO :=
  (BR (itU tZ) (tgN 3) (ifS (asB (Ae (CS true) ua (Aa 2))) (λ_=>.bad) nxS))
def BH:FS->Out Rv:=Be 1 (FZ)
def Dr:FS->SO :=
  (Ak (Av 1 (Bo false [none,none] vh ue D5 tY))
  (Ak (Av 2 uR)
  (Ak (Av 3 Fi)
  (BR vh uq (Ak (Av 6 (Ae Az vf (xB 0)))
  (Ak (BR (itU uc) (Aw 2 uu) (Ak (Bb (xG BW ug uG (Aa 3) tZ))
  (Ak (ifS (asB (Ae (gEq false) (Aa 7) (Aa 6))) (Bb (xD BH ug uG (Aa 2))) nxS)
  (Cm vk (Aa 3) ug))))
  (Bb (Cz GZ (Aa 2) u6))))))))
def Cg:FS->Out Rv:=Be 8 (Dr)
def Ex(ah:Addr):FS->SO :=
  (Ak (Bb (xH CD tZ))
  (Ak (Bb (xH Cg tZ))
  (Ak (Iq ah "makers_by_kind" 0 Fi)
  (Ak (Iq ah "parts_by_maker" 0 Fi)
  (Ak (Iq ah "home_by_maker" 0 Fi)
  (BR (itU tZ) ud (Ak (C6 ah "makers_by_kind" 0 2 (Bo false [none,none] vB ue D5 tY))
  (BR vB uq (Ak (C6 ah "parts_by_maker" 0 4 uO)
  (C6 ah "home_by_maker" 0 4 t9))))))))))
def C3(ah:Addr):FS->Out Rv:=Be 4 (Ex ah)
def Y7(ak:Addr)(aj:Addr)(ah:Addr):FS->SO :=
  (Ak (Av 1 (fz (xC BS (fz (xC AM tY (xB 0))) (xB 0))))
  (Ak (Av 2 (fz (xH EO tY)))
  (Ak (Av 3 (fz (xC Cb tY t9)))
  (Ak (Av 4 (fz (Ae Ao (Bo false [none] vB u9 D5 uF) (fz (xH BJ t9)))))
  (Ak (Av 4 (fz (Ae Ao (Aa 4) (Bo false [none,none] (itU t9) ue D5 tY))))
  (Ak (ifS (asB (Ae gGt (Ae BD (Aa 1) (xB 8)) (xB 0))) (Av 3 (fz (xD Fm ua (fz (xC BS (fz (xC AM tY (xB 11))) (xB 8))) ub))) nxS)
  (Ak (ifS (asB (Ae (gEq false) (Ae BD (Ae C0 (Aa 1) (xB 8)) (xB 3)) (xB 1))) (Av 3 (fz (xD Fm ua (fz (xC BS (fz (xC AM tY (xB 12))) (xB 9))) ub))) nxS)
  (Ak (Av 5 (fz (xC NA t9 ua)))
  (Ak (Av 6 (gc .l))
  (Ak (Q1 7 (λc=>xrs.contains c&&GA c "SayError") (Bb (Ac (DQ ak 3 (Bk ak aj ah)) (Ad (fz (Ac (DQ ah 2 (C3 ah)) (Ad (fz (Ac Bf (Ab (Aa 2) Ag))) Ag))) (Ad (fz (Ac Bf uS)) Ag)))) (Av 6 ug))
  (Ak (ifS (asB (Ae (gEq false) (Aa 5) u7)) (retS (Ae (RD false) (Aa 6) (gc .l))) nxS)
  (retS (Ae (gEq false) (fz (xH G6 vm)) (Aa 5))))))))))))))
def YG(ak:Addr)(aj:Addr)(ah:Addr):FS->Out Rv:=Be 7 (Y7 ak aj ah)
theorem Ji(e:g fs=.nx ar):Ak g h fs=h ar:=by unfold Ak;rw[e]
abbrev vl(t:T):Option Sl:=some (.val t)
abbrev iv(i:Int):Option Sl:=some (.val (.int i))
def Fre:Option Sl->Prop
 |some (.bor _)=>False
 |_=>True
theorem CB:Fre none:=True.intro
theorem Al:Fre (vl t):=True.intro
theorem J0(e:fs[i]?=some x)(h:Fre x):Jg i (.t t) fs=some (fs.set i (vl t)):=by unfold Jg;rw[e];cases x with|none=>rfl|some s=>cases s with|val t=>rfl|own o=>rfl|bor o=>exact h.elim
theorem Nt(P:List T->FS->Prop)(step:∀t ts fs,P (t::ts) fs->∃af ay,gt t fs=some af/\body af=.nx ay/\P ts ay):∀(ts:List T)(fs:FS),P ts fs->∃ar,DJ gt body ts fs=.nx ar/\P [] ar
 | [],fs,h=>⟨fs,rfl,h⟩
 |t::ts,fs,h=>by obtain⟨af,ay,e1,e2,h2⟩:=step t ts fs h;obtain⟨ar,e,hp⟩:=Nt P step ts ay h2;exact⟨ar,by simp only[DJ,e1,e2,e],hp⟩
def IsI(t:T)(ns:List Int):Prop:=t=.z0 (ns.map T.int)\/t=.lst (ns.map T.int)
theorem IsI.seq(h:IsI t ns)(fs:FS):Du fs (.t t)=some (ns.map T.int):=by rcases h with rfl|rfl<;>rfl
section
variable{i j:Int}{fs:FS}
theorem Eg:Ao (.t (.int i)) (.t (.int j)) fs=.ok (.t (.int (i+j))) fs:=rfl
theorem XT:Ik (.t (.int i)) (.t (.int j)) fs=.ok (.t (.int (i-j))) fs:=rfl
theorem Gu(h:0<j):BD (.t (.int i)) (.t (.int j)) fs=.ok (.t (.int (i%j))) fs:=if_pos h
theorem Ni(h:0<j/\j<1073741824):C0 (.t (.int i)) (.t (.int j)) fs=.ok (.t (.int (i/j))) fs:=if_pos h
theorem JE(h:-(2^64)<i/\i<2^64):Bi (.t (.int i)) (.t (.int j)) fs=.ok (.t (.int (i*j))) fs:=by have e:XU (.t (.int i)) (.t (.int j)) fs=.ok (.t (.int (i*j))) fs:=if_pos (by rw[qP h];rfl);unfold Bi orG;rw[e]
theorem JF(h:Builtin.Int.intBits i<=2^26/\Builtin.Int.intBits j<=2^26):Bi (.t (.int i)) (.t (.int j)) fs=.ok (.t (.int (i*j))) fs:=by have e:XU (.t (.int i)) (.t (.int j)) fs=.ok (.t (.int (i*j))) fs:=if_pos (by rw[qP h.1,qP h.2];simp);unfold Bi orG;rw[e]
end
theorem Kq{i:Int}(h:Du fs x=some ts)(e:atI ts i=some t):Az x (.t (.int i)) fs=.ok (.t t) fs:=by
 have e':gIx x (.t (.int i)) fs=.ok (.t t) fs:=by simp only[gIx,h,e,okT]
 unfold Az orG;rw[e']
theorem XX{i:Int}{fs:FS}(h:IsI t ns)(h0:0<=i)(h1:i<ns.length):Az (.t t) (.t (.int i)) fs=.ok (.t (.int (ns.getD i.toNat 0))) fs:=by
 refine Kq (h.seq fs) ?_;have e:(ns.map T.int)[i.toNat]?=some (T.int (ns.getD i.toNat 0)):=by
  have:i.toNat<ns.length:=by lia
  simp[this]
 have:=A6 e;rwa[Int.toNat_of_nonneg h0]at this
theorem Gk:∀{is:List Ini}{k:Nat},(∀i∈is,A4 fs i=none)->FL.placeOf fs j is k=none
 | [],_,_=>rfl
 |i::is,k,h=>by simp only[FL.placeOf];rw[h i qB,if_neg (by simp)];exact Gk λi' m=>h i' (qf _ m)
theorem Gy(h:∀i∈is,A4 fs i=none):∀(gs:FS)(j:Nat),Hi fs is τ j gs=some gs
 | [],_=>rfl
 |g::gs,j=>by simp only[Hi,JP,Gk h,Gy h gs (j+1)]
theorem Bv(h:Dk fs is=[]):Dl is τ fs=some fs:=Gy (List.filterMap_eq_nil_iff.mp h) fs 0
theorem U5(h1:fi fs=.ok ts fs)(h2:(Dk fs (src.map λo=>o.elim Ini.no Ini.slot)).Nodup/\(src.all λo=>o.elim true λj=>decide (j<fs.length))=true)
  (h3:Bn gt ft fe ts (Bx fs (src.map λo=>o.elim Ini.no Ini.slot)) []=some (vs,τ)) (h4:Dl (src.map λo=>o.elim Ini.no Ini.slot) τ fs=some ar):Bo false src fi gt ft fe fs=.ok (.t (.lst vs)) ar:=by
 unfold Bo;rw[h1];simp only[Out.bind];rw[if_pos h2,h3];dsimp only;rw[h4];rfl
theorem Md{x y:Str}(h:x.cps.toList=y.cps.toList):x=y:=by
 obtain⟨a⟩:=x;obtain⟨b⟩:=y;have:a=b:=by simpa using h
 rw[this]
theorem NH:Str.ofString ""=(⟨#[]⟩:Str):=by decide +kernel
theorem JD{i j:Int}(h:-(2^64)<j/\j<2^64):Bi (.t (.int i)) (.t (.int j)) fs=.ok (.t (.int (i*j))) fs:=by have e:XU (.t (.int i)) (.t (.int j)) fs=.ok (.t (.int (i*j))) fs:=if_pos (by rw[qP h];simp);unfold Bi orG;rw[e]
theorem G3(h:x.length+y.length<=big):Ao (.t (.str x)) (.t (.str y)) fs=.ok (.t (.str (x++y))) fs:=by have e:Qf (.t (.str x)) (.t (.str y)) fs=.ok (.t (.str (x++y))) fs:=if_pos h;have e2:Jbj (.t (.str x)) (.t (.str y)) fs=.bad:=rfl;unfold Ao orG;rw[e2];rw[e]
theorem Ft{v:Int}(h0:0<=v)(h1:v.toNat<=xs.length):BO xs none (some v)=xs.take v.toNat:=by show(xs.drop 0).take ((if v<0 then(v+(xs.length:Int)).toNat else min v.toNat xs.length)-0)=_;rw[if_neg (by lia),sP h1];simp
theorem Fv{v:Int}(h0:0<=v)(h1:v.toNat<=xs.length):BO xs (some v) none=xs.drop v.toNat:=by show(xs.drop (if v<0 then(v+(xs.length:Int)).toNat else min v.toNat xs.length)).take (xs.length-(if v<0 then(v+(xs.length:Int)).toNat else min v.toNat xs.length))=_;rw[if_neg (by lia),sP h1];exact rY (by rw[rV];lia)
theorem AI(h1:fa fs=.ok (.t x) fs)(h2:fb fs=.ok (.t y) fs)(h3:g (.t x) (.t y) fs=r):Ae g fa fb fs=r:=by unfold Ae;rw[h1];show(fb fs).bnd _=r;rwa[h2]
theorem As(h:fs[i]?=some (vl t)):Aa i fs=.ok (.t t) fs:=by unfold Aa;rw[h]
theorem BU:gc t fs=.ok (.t t) fs:=rfl
theorem Mf(h:f fs=.ok (.t t) fs)(hs:Jg i (.t t) fs=some ar):Av i f fs=.nx ar:=by unfold Av;rw[h];show(match Jg i (.t t) fs with|some fs=>SO.nx fs|none=>.bad)=_;rw[hs]
theorem KA(h1:f fs=.ok (.t t) fs)(h2:g fs=.ok rs fs):Ab f g fs=.ok (.t t::rs) fs:=by unfold Ab;rw[h1];show(g fs).bind _=_;rw[h2];rfl
theorem Nl(h:f fs=.ok (.t t) fs):fz f fs=.ok (.t t) fs:=by unfold fz;rw[h];rfl
theorem KO(h:fa fs=.ok rs fs)(h2:g rs fs=r):Ac g fa fs=r:=by unfold Ac;rwa[h]
theorem PN(hc:c fs=.ok true fs)(e:g fs=r):ifS c g h fs=r:=by unfold ifS;rwa[hc]
theorem M7(hc:c fs=.ok false fs)(e:h fs=r):ifS c g h fs=r:=by unfold ifS;rwa[hc]
theorem RN{i j:Int}(h1:fa fs=.ok (.t (.int i)) fs)(h2:fb fs=.ok (.t (.int j)) fs):asB (Ae (gEq false) fa fb) fs=.ok (decide (i=j)) fs:=by
 have e:gEq false (.t (.int i)) (.t (.int j)) fs=.ok (.t (.v (decide (i=j)))) fs:=by
  have q:decide (V.int i=V.int j)=decide (i=j):=by
   by_cases h:i=j
   .subst h;simp
   .rw[qK h,qK (by intro z;cases z;exact h rfl)]
  show(if SG (V.int i) (V.int j)=true then okT (.v (if false=true then _ else decide (V.int i=V.int j))) fs else .bad)=_;rw[if_pos (show SG (V.int i) (V.int j)=true from rfl),q];rfl
 unfold asB;rw[AI h1 h2 e];rfl
theorem CG(ns:List Int)(k:Nat):AM [vl (.z0 (ns.map T.int)),iv k]=.ok (.t (.int (ns.getD k 0))) [vl (.z0 (ns.map T.int)),iv k]:=by
 have hl:asB (Ae gLt (Aa 1) (Ac Ax (Ab (Aa 0) Ag))) [vl (.z0 (ns.map T.int)),iv k]=.ok (decide ((k:Int)<((ns.map T.int).length:Int))) [vl (.z0 (ns.map T.int)),iv k]:=rfl;unfold AM Be;show(match Dj [vl (.z0 (ns.map T.int)),iv k]with|.nx τ=>_|.ret (.t t) τ=>_|.ret (.nw o) τ=>_|.ret (.n i) τ=>_|.exc c τ=>_|_=>_)=_;have e:Dj [vl (.z0 (ns.map T.int)),iv k]=.ret (.t (.int (ns.getD k 0))) [vl (.z0 (ns.map T.int)),iv k]:=by
  unfold Dj;by_cases h:(k:Int)<((ns.map T.int).length:Int)
  .rw[qP h]at hl;have h':k<ns.length:=by rw[qe]at h;lia
   have e2:retS (Ae Az (Aa 0) (fz (Aa 1))) [vl (.z0 (ns.map T.int)),iv k]=.ret (.t (.int (ns.getD k 0))) [vl (.z0 (ns.map T.int)),iv k]:=by have:=AI (fa:=Aa 0) (fb:=fz (Aa 1)) (fs:=[vl (.z0 (ns.map T.int)),iv k]) (As rfl) (Nl (As rfl)) (XX (ns:=ns) (i:=(k:Int)) (.inl rfl) (by lia) (by lia));unfold retS;rw[this,rD];rfl
   unfold Ak;rw[PN hl e2]
  .rw[qK h]at hl;have h':ns.length<=k:=by rw[qe]at h;lia
   rw[Ji (M7 (h:=nxS) (fs:=[vl (.z0 (ns.map T.int)),iv k]) (r:=.nx [vl (.z0 (ns.map T.int)),iv k]) hl rfl)];have:ns.getD k 0=0:=by simp[List.getD,h']
   rw[this];rfl
 rw[e];rfl
theorem BK{f:FS->Out Rv}{g:FS->Out (List Rv)}{fs af ay:FS}{t:T}{rs:List Rv}(h1:f fs=.ok (.t t) af)(h2:g af=.ok rs ay):Ab f g fs=.ok (.t t::rs) ay:=by unfold Ab;rw[h1];show(g af).bind _=_;rw[h2];rfl
theorem U0{g:List T->FS->Out Rv}{fa:FS->Out (List Rv)}{fs af:FS}{rs:List Rv}{ts:List T}{r:Out Rv}(h:fa fs=.ok rs af)(h2:LI rs=some ts)(h3:ts.length<=big)(e:g ts af=r):An g fa fs=r:=by unfold An;rw[h];show(match LI rs with|some ts=>_|none=>_)=_;rw[h2];exact(if_pos h3).trans e
theorem Cv{f:FS->Out Rv}{fs af:FS}{r:Rv}(h:f fs=.ok r af):retS f fs=.ret r af:=by unfold retS;rw[h];rfl
theorem EH{g h:FS->SO}{fs ar:FS}{r:Rv}(e:g fs=.ret r ar):Ak g h fs=.ret r ar:=by unfold Ak;rw[e]
theorem FH:∀bs:List Bool,CQ (bs.map T.v)=some bs
 | []=>rfl
 |b::bs=>by simp[CQ,FH bs]
theorem Qz(h1:f fs=.ok r af)(h2:g af=.ok rs ay):Ad f g fs=.ok (r::rs) ay:=by unfold Ad;rw[h1];show(g af).bind _=_;rw[h2];rfl
theorem KN(ha:fa fs=.ok rs af)(hp:rs.length=p)(hn:(Dk af (rs.map AK)).Nodup)(hf:Fn (Bx af (rs.map AK))=.ok (.t t) τ)(hb:Dl (rs.map AK) τ af=some ar):
  Ac (Ai p Fn) fa fs=.ok (.t t) ar:=by
 unfold Ac;rw[ha];show Ai p Fn rs af=_;unfold Ai;rw[if_pos hp];unfold Gx;rw[if_pos hn,hf];dsimp only;rw[hb]
theorem QN(ha:fa fs=.ok rs af)(hp:rs.length=p)(hn:(Dk af (rs.map AK)).Nodup)(hf:Fn (Bx af (rs.map AK))=.ok (.nw o) τ)(hb:Dl (rs.map AK) τ af=some ar):
  Ac (Ai p Fn) fa fs=.ok (.nw o) ar:=by
 unfold Ac;rw[ha];show Ai p Fn rs af=_;unfold Ai;rw[if_pos hp];unfold Gx;rw[if_pos hn,hf];dsimp only;rw[hb]
theorem Za(h0:fs[i]?=some (some (.own (.lst us))))(h:f fs=.ok (.t t) af)(i9:af[i]?=some (some (.own (.lst ts))))(hl:ts.length<big)(e:af.set i (some (.own (.lst (ts++[t]))))=ar):Bb (Cz GZ (Aa i) (Ab f Ag)) fs=.nx ar:=by
 have h1:Aa i fs=.ok (.n i) fs:=by unfold Aa;rw[h0]
 have h2:FL.AF fs i=some (.lst us):=by unfold FL.AF;rw[h0]
 have kR:FL.AF af i=some (.lst ts):=by unfold FL.AF;rw[i9]
 have h3:Du fs (.n i)=some us:=by simp only[Du,h2]
 have h4:Ab f Ag fs=.ok [.t t] af:=BK h rfl;have h5:GZ (.n i) [.t t] af=.ok (.t .l) ar:=by
  simp only[GZ,kR];rw[if_pos hl];have:FL.putAt af i (.lst (ts++[t]))=ar:=by unfold FL.putAt;rw[i9];exact e
  rw[this]
 have h6:Cz GZ (Aa i) (Ab f Ag) fs=.ok (.t .l) ar:=by unfold Cz;rw[h1];show(if(Du fs (.n i)).isSome=true then _ else _)=_;rw[h3,if_pos (show(some us).isSome=true from rfl),h4];exact h5
 unfold Bb;rw[h6];rfl
def Dv:Str×List Str->T:=λr=>.tup [.str r.1,.tup (r.2.map T.str)]
def Bq:Str×List (Str×List Str)->T:=λk=>.tup [.str k.1,.lst (k.2.map Dv)]
theorem Mo{j:Int}{fs af:FS}{fa:FS->Out (List Rv)}(e:fa fs=.ok [.t (.int j)] af)(h:-(2^62)<=j/\j<2^62):LM fa fs=.ok (FL.upTo 0 j.toNat) af:=by unfold LM;rw[e];simp only[Out.bind];exact if_pos h
abbrev Kd:=List (Str×List (Str×List Str))
theorem Wr(h0:fs[o]?=some (some (.own (.o ks ts))))(hv:fv fs=.ok (.t v) fs)(hi:fi fs=.ok (.t (.str k)) fs)(hn:(ks.any λk'=>decide (k'=(.inr k:Key)))=false)(hl:ks.length<big)
  (e:fs.set o (some (.own (.o (ks++[.inr k]) (ts++[v]))))=ar):Cm fv (Aa o) fi fs=.nx ar:=by
 have h1:Aa o fs=.ok (.n o) fs:=by unfold Aa;rw[h0]
 have h2:FL.AF fs o=some (.o ks ts):=by unfold FL.AF;rw[h0]
 have h3:D8 ks ts (.inr k:Key) v=(ks++[.inr k],ts++[v]):=by unfold D8;rw[hn];rfl
 have h4:FL.putAt fs o (.o (ks++[.inr k]) (ts++[v]))=ar:=by unfold FL.putAt;rw[h0];exact e
 have h5:Qa (.n o) (.t (.str k)) (.t v) fs=.bad:=rfl;have h6:Nc (.n o) (.t (.str k)) (.t v) fs=.nx ar:=by simp only[Nc,h2,FN,hl,if_true,h3,h4]
 unfold Cm;rw[hv];simp only[Out.bnd,Out.bind];rw[h1];simp only;rw[hi];simp only[SO.of];unfold Uo;rw[h5];exact h6
theorem LZ(h1:tgN i x fs=some af)(h2:tgN j y af=some ay):Aw 2 (Af (tgN i) (Af (tgN j) Au)) (.tup [x,y]) fs=some ay:=by have e:Aw 2 (Af (tgN i) (Af (tgN j) Au)) (.tup [x,y]) fs=Af (tgN i) (Af (tgN j) Au) [x,y] fs:=rfl;rw[e];simp only[Af,h1,h2,rg,Au]
def EC(K:Kd):List Key:=K.map λkd=>(.inr kd.1:Key)
theorem any_false{ks:List Key}(h:k∉ks):(ks.any λk'=>decide (k'=k))=false:=by rw[List.any_eq_false];intro x hx;rw[decide_eq_true_eq];intro e;exact h (e▸hx)
theorem sq(e:g fs=.nx ar)(e2:h ar=r):Ak g h fs=r:=(Ji e).trans e2
theorem KW(h:f fs=.ok (.t (.v b)) af):asB f fs=.ok b af:=by unfold asB;rw[h];rfl
theorem TL(h:f fs=.ok b af):FQ f fs=.ok (!b) af:=by unfold FQ;rw[h];rfl
theorem So(h:f fs=.ok (.t (.v b)) af):K8 f fs=.ok b af:=by unfold K8;rw[h];rfl
theorem M6(hc:c fs=.ok false af)(e:h af=r):ifS c g h fs=r:=by unfold ifS;rwa[hc]
theorem M4(hc:c fs=.ok true af)(e:g af=r):ifS c g h fs=r:=by unfold ifS;rwa[hc]
theorem GX(h:fs[i]?=some (some (.own o))):Aa i fs=.ok (.n i) fs:=by unfold Aa;rw[h]
theorem PV(h:fs[i]?=some (some (.bor o))):Aa i fs=.ok (.n i) fs:=by unfold Aa;rw[h]
theorem Jb3(h:fs[i]?=some (some (.own o))):FL.AF fs i=some o:=by unfold FL.AF;rw[h]
theorem Rp(h:fs[i]?=some (some (.bor o))):FL.AF fs i=some o:=by unfold FL.AF;rw[h]
theorem NK(h:f fs=.ok r af):Bb f fs=.nx af:=by unfold Bb;rw[h];rfl
theorem BY [DecidableEq κ]:∀{ks:List κ}{ts:List T}{k:κ},k∉ks->By ks ts k=none
 | [],_,_,_=>by unfold By;rfl
 |k'::ks,[],k,_=>by unfold By;rfl
 |k'::ks,t::ts,k,h=>by
  have h1:k'≠k:=λe=>h (e▸qB)
  simp only[By,if_neg h1,BY (λm=>h (qf _ m))]
theorem Cj{κ α:Type}[DecidableEq κ]{f:α->κ}{g:α->T}:∀{xs:List α}{x:α},x∈xs->(xs.map f).Nodup->By (xs.map f) (xs.map g) (f x)=some (g x)
 |y::ys,x,m,nd=>by
  rw[qi,qi];unfold By;rw[qi,qR]at nd;by_cases e:f y=f x
  .rw[if_pos e];rcases qA.mp m with rfl|m
   .rfl
   .exact(nd.1 (qm.mpr ⟨x,m,e.symm⟩)).elim
  .rw[if_neg e];rcases qA.mp m with rfl|m
   .exact(e rfl).elim
   .exact Cj m nd.2
theorem XC(h:FL.AF fs i=some (.o ks ts)):CS neg (.t (.str k)) (.n i) fs=.ok (.t (.v (if neg then !(By ks ts (.inr k:Key)).isSome else(By ks ts (.inr k:Key)).isSome))) fs:=by
 unfold CS orG;have e:Ut neg (.t (.str k)) (.n i) fs=.ok (.t (.v (if neg then !(By ks ts (.inr k:Key)).isSome else(By ks ts (.inr k:Key)).isSome))) fs:=by simp only[Ut,RT,h,FN];rfl
 rw[e]
theorem Jb5:CS neg (.t (.str k)) (.t (.o ks ts)) fs=.ok (.t (.v (if neg then !(By ks ts (.inr k:Key)).isSome else(By ks ts (.inr k:Key)).isSome))) fs:=rfl
theorem GK:∀xs:List Str,S3 (xs.map T.str)=some (xs.map V.str)
 | []=>rfl
 |x::xs=>by simp only[qi,S3,plV,rg,GK xs,Option.map_some]
theorem JB(k:Str):∀xs:List Str,inV (.str k) (xs.map V.str)=decide (k∈xs)
 | []=>by simp[inV]
 |x::xs=>by
  have:=JB k xs;unfold inV at this ⊢;rw[qi,sI,this];have e:eqV (.str x) (.str k)=decide (k=x):=by
   by_cases h:k=x
   .subst h;simp[eqV]
   .have h':x≠k:=λe=>h e.symm
    simp[eqV,h,h']
  rw[e,rp];simp
theorem Rz{xs:List Str}:CS neg (.t (.str k)) (.t (.lst (xs.map T.str))) fs=.ok (.t (.v (if neg then !decide (k∈xs)else decide (k∈xs)))) fs:=by
 have e:gIn neg (.t (.str k)) (.t (.lst (xs.map T.str))) fs=.ok (.t (.v (if neg then !decide (k∈xs)else decide (k∈xs)))) fs:=by simp only[gIn,plV,Du,GK,okT,JB]
 exact e
theorem XB{xs:List Str}(h:FL.AF fs i=some (.lst (xs.map T.str))):CS neg (.t (.str k)) (.n i) fs=.ok (.t (.v (if neg then !decide (k∈xs)else decide (k∈xs)))) fs:=by
 have e:gIn neg (.t (.str k)) (.n i) fs=.ok (.t (.v (if neg then !decide (k∈xs)else decide (k∈xs)))) fs:=by simp only[gIn,plV,Du,h,GK,okT,JB]
 have e1:Ut neg (.t (.str k)) (.n i) fs=.bad:=by simp only[Ut,RT,h]
 unfold CS orG;rw[e1];exact e
theorem QD{a b c:Int}(ha:fa fs=.ok (.t (.int a)) fs)(hb:fb fs=.ok (.t (.int b)) fs)(hc:fc fs=.ok (.t (.int c)) fs)(h1:a<=b)(h2:b<=c):FQ (asB (chain gLe gLe fa fb fc)) fs=.ok false fs:=by
 have e1:gLe (.t (.int a)) (.t (.int b)) fs=.ok (.t (.v true)) fs:=by show okT (.v (decide (a<=b))) _=_;rw[qP h1];rfl
 have e2:gLe (.t (.int b)) (.t (.int c)) fs=.ok (.t (.v true)) fs:=by show okT (.v (decide (b<=c))) _=_;rw[qP h2];rfl
 simp only[FQ,asB,chain,Out.bnd,Out.bind,ha,hb,hc,e1,e2,Bool.not_true]
theorem TZ(h:f fs=.ok (.t x) af)(hs:x=.lst ts\/x=.tup ts):Ac Ax (Ab f Ag) fs=.ok (.t (.int ts.length)) af:=by unfold Ac;rw[BK h (show Ag af=.ok [] af from rfl)];rcases hs with rfl|rfl<;>rfl
theorem Dn:Ag fs=.ok [] fs:=rfl
theorem Ur:gEq false (.t (.str x)) (.t (.str y)) fs=.ok (.t (.v (decide (x=y)))) fs:=by
 have q:decide (V.str x=V.str y)=decide (x=y):=by
  by_cases h:x=y
  .subst h;simp
  .rw[qK h,qK (by intro z;cases z;exact h rfl)]
 show(if SG (V.str x) (V.str y)=true then okT (.v (if false=true then _ else decide (V.str x=V.str y))) fs else .bad)=_;rw[if_pos (show SG (V.str x) (V.str y)=true from rfl),q];rfl
theorem RM(h1:fa fs=.ok (.t (.str x)) fs)(h2:fb fs=.ok (.t (.str y)) fs):asB (Ae (gEq false) fa fb) fs=.ok (decide (x=y)) fs:=KW (AI h1 h2 Ur)
def mks(K:Kd):List Str:=K.flatMap λkd=>kd.2.map (·.1)
def BC(K:Kd):List Key:=(mks K).map λm=>(.inr m:Key)
structure Well(K:Kd):Prop where
 lo:1<=K.length
 hi:K.length<=4
 nd:(K.map (·.1)).Nodup
 nm:∀kd∈K,A5 [vl (.str kd.1)]=.ok (.t (.v true)) [vl (.str kd.1)]
 rw:∀kd∈K,1<=kd.2.length/\kd.2.length<=4
 yH:(mks K).Nodup
 xV:∀m∈mks K,A5 [vl (.str m)]=.ok (.t (.v true)) [vl (.str m)]
 xU:∀m∈mks K,m.length<=12
 two:∀kd∈K,∀r∈kd.2,r.2.length<=2
 zd:∀kd∈K,∀r∈kd.2,∀x∈r.2,x∈K.map (·.1)
 gr:∀D kd R,K=D++kd::R->∀r,kd.2[0]?=some r->∀x∈r.2,x∈D.map (·.1)
theorem Ed(h1:kd∈K)(h2:r∈kd.2):r.1∈mks K:=rA.mpr ⟨kd,h1,qm.mpr ⟨r,h2,rfl⟩⟩
theorem Jq(h4:K.length<=4)(hr:∀kd∈K,kd.2.length<=4):(mks K).length<=16:=by
 have:∀K:Kd,(∀kd∈K,kd.2.length<=4)->(mks K).length<=4*K.length:=by
  intro K
  induction K with
  |nil=>intro _;simp[mks]
  |cons kd K ih =>
   intro h;have:=ih λkd m=>h kd (qf _ m)
   have h1:=h kd qB;unfold mks at this ⊢;rw[List.flatMap_cons,qv,qe,qL]
   lia
 have:=this K hr
 lia
theorem GR(D R:Kd):mks (D++R)=mks D++mks R:=by unfold mks;rw[List.flatMap_append]
theorem EK(kd:Str×List (Str×List Str))(R:Kd):mks (kd::R)=kd.2.map (·.1)++mks R:=by unfold mks;rw[List.flatMap_cons]
theorem OS{rs:List (Str×List Str)}(h:(rs.map (·.1)).Nodup)(m:r∈rs)(m':r'∈rs)(e:r.1=r'.1):r=r':=by
 induction rs with
 |nil=>cases m
 |cons a rs ih =>
  rw[qi,qR]at h;rcases qA.mp m with q|q
  .rcases qA.mp m' with q'|q'
   .rw[q,q']
   .exact(h.1 (qm.mpr ⟨r',q',by rw[<- e,q]⟩)).elim
  .rcases qA.mp m' with q'|q'
   .exact(h.1 (qm.mpr ⟨r,q,by rw[e,q']⟩)).elim
   .exact ih h.2 q q'
def Oj(r:Str×List Str):Key:=.inr r.1
theorem Eb(D:Kd)(kd:Str×List (Str×List Str)):BC (D++[kd])=BC D++kd.2.map Oj:=by unfold BC;simp[mks,Oj]
theorem B3{xs:List Str}(h:xs.Nodup):(xs.map λm=>(.inr m:Key)).Nodup:=by
 induction xs with
 |nil=>simp
 |cons x xs ih =>
  rw[qR]at h;rw[qi,qR];refine⟨λm=>?_,ih h.2⟩;rw[qm]at m;obtain⟨y,my,e⟩:=m;have:y=x:=by simpa using e
  exact h.1 (this▸my)
theorem Well.part(W:Well K)(e:D++kd::R=K):(BC D++kd.2.map Oj).Nodup/\(BC D).length+kd.2.length<1000/\kd∈K/\(kd.2.map (·.1)).Nodup:=by
 have h:=W.yH;have hl:=Jq W.hi λkd m=>(W.rw kd m).2
 rw[<- e,GR,EK]at h hl;refine⟨?_,?_,by rw[<- e];simp,?_⟩
 .rw[<- Eb];refine B3 ?_;rw[GR,EK];simp only[mks,List.flatMap_nil,qS];rw[<- qU]at h;exact(qc.mp h).1
 .unfold BC;rw[qe];simp at hl
  lia
 .exact(qc.mp (qc.mp h).2.1).1
theorem UZ{os:List FO}{ks:List Key}{ts:List T}{k:Str}{t:T}(hv:fv fs=.ok (.t t) af)(h0:af[i]?=some (some (.bor (.ins C gs os))))(hj:af[j]?=some (vl (.str k)))(hf:Bw gs os f=some (.o ks ts))(hn:(.inr k:Key)∉ks)(hl:ks.length<big)
  (e:af.set i (some (.bor (.ins C gs (BZ gs os f (.o (ks++[.inr k]) (ts++[t]))))))=ar):C6 C f i j fv fs=.nx ar:=by
 have h3:D8 ks ts (.inr k:Key) t=(ks++[.inr k],ts++[t]):=by unfold D8;rw[any_false hn];rfl
 unfold C6;rw[hv];simp only[SO.of,Rp h0,hj,FN,hf,if_true,hl,h3];unfold FL.putAt;rw[h0];simp only[Sl.put,e]
def Vo(rows:List (Str×List Str)):List T:=rows.map λr=>T.tup (r.2.map T.str)
def Mv(K:Kd):List T:=K.flatMap λkd=>Vo kd.2
def Lv(k:Str)(rows:List (Str×List Str)):List T:=rows.map λ_=>T.str k
def Dz(K:Kd):List T:=K.flatMap λkd=>Lv kd.1 kd.2
def HZ(K:Kd):List T:=K.map λkd=>T.lst ((kd.2.map (·.1)).map T.str)
theorem Mt(D:Kd)(kd:Str×List (Str×List Str)):Mv (D++[kd])=Mv D++Vo kd.2:=by unfold Mv;simp
theorem Po:("makers_by_kind":Str)≠("parts_by_maker":Str)/\("makers_by_kind":Str)≠("home_by_maker":Str)/\("parts_by_maker":Str)≠("home_by_maker":Str):=by decide +kernel
def Q3(C:Addr)(K:Kd)(hs:List T):FO:=.ins C ["makers_by_kind","parts_by_maker","home_by_maker"] [.o (EC K) (HZ K),.o (BC K) (Mv K),.o (BC K) hs]
def CM(C:Addr)(K:Kd)(hs:List T):T:=.ins C ["makers_by_kind","parts_by_maker","home_by_maker"] [.o (EC K) (HZ K),.o (BC K) (Mv K),.o (BC K) hs]
theorem Jx(W:Well K):(K.map λkd=>(.inr kd.1:Key)).Nodup:=by have:=B3 W.nd;rwa[qO]at this
theorem val_mk(W:Well K)(m:kd∈K):By (EC K) (HZ K) (.inr kd.1:Key)=some (.lst ((kd.2.map (·.1)).map T.str)) :=
 Cj m (Jx W)
def allR(K:Kd):List (Str×List Str):=K.flatMap (·.2)
theorem E7(K:Kd):BC K=(allR K).map Oj:=by unfold BC mks allR;rw[sr,sr];simp only[qO];rfl
theorem O3(K:Kd):Mv K=(allR K).map λr=>T.tup (r.2.map T.str):=by unfold Mv Vo allR;rw[sr]
theorem Ht(W:Well K)(m:kd∈K)(m2:r∈kd.2):By (BC K) (Mv K) (.inr r.1:Key)=some (.tup (r.2.map T.str)):=by have h:=B3 W.yH;have h2:=E7 K;unfold BC at h2;rw[h2]at h;rw[E7,O3];exact Cj (rA.mpr ⟨kd,m,m2⟩) h
theorem XS(h:By ks ts (.inr k:Key)=some t):Az (.t (.o ks ts)) (.t (.str k)) fs=.ok (.t t) fs:=by
 have e:JG (.t (.o ks ts)) (.t (.str k)) fs=.ok (.t t) fs:=by simp only[JG,RT,FN,Option.map_some,h,okT]
 exact e
theorem PL{mt:Str}(h:(["makers_by_kind","parts_by_maker","home_by_maker"]:List Str).any (·==mt)=false):GW C mt fs (.t (CM C K hs))=true:=by unfold GW CM;simp only[h];simp
theorem Nr{gt:T->FS->Option FS}{body:FS->SO}{t:T}{ts:List T}{fs af ay:FS}(h1:gt t fs=some af)(h2:body af=.nx ay):DJ gt body (t::ts) fs=DJ gt body ts ay:=by simp only[DJ,h1,h2]
theorem Uw{gt:T->FS->Option FS}{body:FS->SO}{t:T}{ts:List T}{fs af ay:FS}{r:Rv}(h1:gt t fs=some af)(h2:body af=.ret r ay):DJ gt body (t::ts) fs=.ret r ay:=by simp only[DJ,h1,h2]
theorem CH{g:List Rv->FS->Out Rv}{fa:FS->Out (List Rv)}{fs af:FS}{rs:List Rv}{r:Out Rv}(h:fa fs=.ok rs af)(h2:g rs af=r):Ac g fa fs=r:=by unfold Ac;rw[h];exact h2
theorem KD{gt:T->FS->Option FS}{fe:FS->Out Rv}{t v:T}{ts av:List T}{τ iY cj:FS}(h1:gt t τ=some iY)(h2:fe iY=.ok (.t v) cj)(hl:av.length<big):Bn gt D5 fe (t::ts) τ av=Bn gt D5 fe ts cj (av++[v]):=by simp only[Bn,h1,D5,h2,if_pos hl]
theorem Wa{fs:FS}{i:Nat}{ts:List T}(h:fs[i]?=some (some (.own (.lst ts)))):Du fs (.n i)=some ts:=by simp only[Du,Jb3 h]
theorem JT{f g:FS->Out Bool}{fs:FS}{a b:Bool}(h1:f fs=.ok a fs)(h2:g fs=.ok b fs):JU f g fs=.ok (a&&b) fs:=by
 unfold JU;rw[h1];cases a
 .rfl
 .show g fs=_;rw[h2];rfl
theorem Y3{ps us:List T}{fs:FS}(h:ps.length+us.length<=big):Ao (.t (.tup ps)) (.t (.tup us)) fs=.ok (.t (.tup (ps++us))) fs:=by cases ps with|nil=>rfl|cons p ps =>have:Nk (.t (.tup (p::ps))) (.t (.tup us)) fs=.ok (.t (.tup (p::ps++us))) fs:=if_pos ⟨by simp,h⟩;show(match Nk (.t (.tup (p::ps))) (.t (.tup us)) fs with|.bad=>_|o=>o)=_;rw[this]
open PySem.Builtin.Int (intBits)
theorem JO{x:Int}{n:Nat}:intBits x<=n↔x.natAbs<2^n:=by
 unfold intBits;by_cases h:x=0
 .subst h;simp[Nat.two_pow_pos]
 .have h':(x==0)=false:=by simpa using h
  rw[h'];have hn:x.natAbs≠0:=by lia
  have:=Nat.log2_lt hn (k:=n);simp only[sL,if_false]
  lia
theorem bits_add{x y:Int}{n:Nat}(h1:intBits x<=n)(h2:intBits y<=n):intBits (x+y)<=n+1:=by
 rw[JO]at h1 h2 ⊢;rw[Nat.pow_succ];generalize 2^n=m at *
 lia
theorem bits_mul{x y:Int}{n m:Nat}(h1:intBits x<=n)(h2:intBits y<=m):intBits (x*y)<=n+m:=by
 rw[JO]at h1 h2 ⊢;rw[Int.natAbs_mul,Nat.pow_add];have hp:0<2^n:=Nat.two_pow_pos n
 calc x.natAbs*y.natAbs<=2^n*y.natAbs:=Nat.mul_le_mul_right _ (by lia)
  _<2^n*2^m:=Nat.mul_lt_mul_of_pos_left h2 hp
theorem Ek{x:Int}{n:Nat}(h:x.natAbs<2^n):intBits x<=n:=JO.mpr h
theorem TU{C:Addr}{p:Nat}{Fn:FS->Out Rv}{fa:FS->Out (List Rv)}{fs af τ:FS}{rs:List Rv}{o:FO}(ha:fa fs=.ok rs af)(hp:rs.length+1=p)(hl:Dk af (rs.map AK)=[])(hf:Fn (some (.bor (.ins C [] []))::Bx af (rs.map AK))=.ok (.t .l) (some (.bor o)::τ)):Ac (GU C p Fn) fa fs=.ok (.nw o) af:=by unfold Ac;rw[ha];show GU C p Fn rs af=_;unfold GU;rw[if_pos ⟨by rw[hl];exact qM,hp⟩,hf];dsimp only;rw[Bv hl]
theorem Vc{xs ys:List T}{fs:FS}(h:xs.length+ys.length<=big):Ao (.t (.lst xs)) (.t (.lst ys)) fs=.ok (.nw (.lst (xs++ys))) fs:=by
 have:Lz (.t (.lst xs)) (.t (.lst ys)) fs=.ok (.nw (.lst (xs++ys))) fs:=by simp only[Lz,exL];exact if_pos h
 show(match Lz (.t (.lst xs)) (.t (.lst ys)) fs with|.bad=>_|o=>o)=_;rw[this]
theorem Q4(e:fs[i]?=some x)(h:Fre x):Jg i (.nw o) fs=some (fs.set i (some (.own o))):=by unfold Jg;rw[e];cases x with|none=>rfl|some s=>cases s with|val t=>rfl|own o=>rfl|bor o=>exact h.elim
theorem HD(h:g (args++List.replicate n none)=.ret (.t t) τ):Be n g args=.ok (.t t) (τ.take args.length):=by unfold Be;rw[h]
theorem Ub(h:f fs=.ok (.t (.lst ts)) fs):itU f fs=.ok ts fs:=by unfold itU;rw[h];rfl
theorem OQ(h:g (args++List.replicate n none)=.ret (.n i) τ)(hi:τ[i]?=some (some (.own o))):Be n g args=.ok (.nw o) ((τ.set i none).take args.length):=by unfold Be;rw[h];simp only[hi]
theorem SH(h:g (args++List.replicate n none)=.ret (.nw o) τ):Be n g args=.ok (.nw o) (τ.take args.length):=by unfold Be;rw[h]
def exN(s:Str):T:=.tup [.str "name",.str s]
def exP(h s:Str)(ts:List T):T:=.tup [.str h,.str s,.tup ts]
theorem UU(m:Nat)(a b:Str):eqT m (.str a) (.str b)=some (a==b):=by cases m<;>rfl
theorem UT(m:Nat)(xs ys:List T):eqT (m+1) (.tup xs) (.tup ys)=(Oo (eqT m) xs ys).map (·&&xs.length==ys.length):=rfl
theorem OO(e:g fs=.exc c ar):Ak g h fs=.exc c ar:=by unfold Ak;rw[e]
theorem OR(h:g (args++List.replicate n none)=.exc c τ):Be n g args=.exc c (τ.take args.length):=by unfold Be;rw[h]
theorem C7(ha:fa fs=.ok rs af)(hp:rs.length=p)(hn:Dk af (rs.map AK)=[])(hf:Fn (Bx af (rs.map AK))=.exc c τ):Ac (Ai p Fn) fa fs=.exc c af:=by unfold Ac;rw[ha];show Ai p Fn rs af=_;unfold Ai;rw[if_pos hp];unfold Gx;rw[if_pos (by rw[hn];exact qM),hf];simp only[(Bv hn)]
theorem Fo(h:f fs=.exc c af):Bb f fs=.exc c af:=by unfold Bb;rw[h];rfl
def Nn:Rv->Prop
 |.nw _=>False
 |_=>True
section
variable{α:Type}{f fa fb:FS->Out Rv}{ga:FS->Out (List Rv)}{c ct:FS->Out Bool}{it:FS->Out (List T)}{s s' h:FS->SO}{fs af ay ar τ:FS}{x y r:Rv}{rs:List Rv}{o:Out Rv}{so:SO}{b b':Bool}{t u:T}{ts us:List T}{i j p:Nat}{g:Rv->Rv->FS->Out Rv}{gt:T->FS->Option FS}{gs:List T->FS->Option FS}{Fn:FS->Out Rv}{C:Addr}{m:Str}
theorem Bu{k:Rv->FS->Out α}(n:Nn x):(Out.ok x fs).bnd k=k x fs:=by cases x<;>first|rfl|exact n.elim
theorem Z8(h1:fa fs=.ok x af)(n1:Nn x)(h2:fb af=.ok y ay)(n2:Nn y)(h3:g x y ay=o):Ae g fa fb fs=o:=by unfold Ae;rw[h1,Bu n1];show(fb af).bnd _=_;rw[h2,Bu n2];exact h3
theorem LU(h1:f fs=.ok x af)(n1:Nn x)(h2:ga af=.ok rs ay):Ab f ga fs=.ok (x::rs) ay:=by unfold Ab;rw[h1,Bu n1];show(ga af).bind _=_;rw[h2];rfl
def fzR:Rv->FS->Out Rv
 |.t t,fs=>.ok (.t t) fs
 |.nw o,fs=>.ok (.t (toT o)) fs
 |.n i,fs=>match fs[i]? with|some (some (.own o))=>.ok (.t (toT o)) (fs.set i (some (.val (toT o))))|_=>.bad
theorem Zc(h:f fs=.ok r af)(e:fzR r af=o):fz f fs=o:=by unfold fz;rw[h];show _=_;cases r<;>exact e
theorem x_call(h0:ga fs=.ok rs af)(hp:rs.length=p)(hl:Dk af (rs.map AK)=[])(hf:Fn (Bx af (rs.map AK))=.ok r τ)(hr:r=.t t\/∃o,r=.nw o):Ac (Ai p Fn) ga fs=.ok r af:=by
 rcases hr with rfl|⟨o,rfl⟩
 .exact KN h0 hp (by rw[hl];exact qM) hf (Bv hl)
 .exact QN h0 hp (by rw[hl];exact qM) hf (Bv hl)
theorem Sk(h0:ga fs=.ok rs af)(hp:rs.length=p)(hl:Dk af (rs.map AK)=[])(hf:Fn (Bx af (rs.map AK))=.ok (.t t) τ):Ac (Ai p Fn) ga fs=.ok (.t t) af:=x_call h0 hp hl hf (.inl rfl)
theorem Sj{o:FO}(h0:ga fs=.ok rs af)(hp:rs.length=p)(hl:Dk af (rs.map AK)=[])(hf:Fn (Bx af (rs.map AK))=.ok (.nw o) τ):Ac (Ai p Fn) ga fs=.ok (.nw o) af:=x_call (t:=.l) h0 hp hl hf (.inr ⟨o,rfl⟩)
theorem Jaa(h:f fs=.ok (.t (.v b)) af):asB f fs=.ok b af:=KW h
theorem VG(e:s fs=.nx af)(e2:h af=so):Ak s h fs=so:=sq e e2
theorem Sb(hc:c fs=.ok b af)(e:(bif b then Ak s h af else Ak s' h af)=so):Ak (ifS c s s') h fs=so:=by unfold Ak ifS;rw[hc];cases b<;>exact e
theorem Jcm(hc:c fs=.ok b af)(e:(bif b then s af else s' af)=so):ifS c s s' fs=so:=by unfold ifS;rw[hc];cases b<;>exact e
theorem VQ(hc:c fs=.ok b af)(hb:b=false)(e:s' af=so):ifS c (λ_=>.bad) s' fs=so:=by subst hb;unfold ifS;rwa[hc]
theorem ZE:Ak nxS h fs=h fs:=rfl
theorem QV(e:f fs=.ok r af):Ak (retS f) h fs=.ret r af:=EH (Cv e)
theorem Ox(h:f fs=.ok r af)(e:Jg i r af=some ay):Av i f fs=.nx ay:=by unfold Av;rw[h];show(match Jg i r af with|some fs=>SO.nx fs|none=>.bad)=_;rw[e]
theorem Z9(h:f fs=.ok (.t t) af)(e:gt t af=some ay):D3 f gt fs=.nx ay:=by unfold D3;rw[h];show(match gt t af with|some fs=>SO.nx fs|none=>.bad)=_;rw[e]
theorem Zv(h:ts.length=i)(e:gs ts fs=some ar):Aw i gs (.tup ts) fs=some ar:=(if_pos h).trans e
theorem Vy(h:ts.length=i)(e:gs ts fs=some ar):K9 i gs (.lst ts) fs=some ar:=(if_pos h).trans e
theorem Zx(e:gt t fs=some af)(e2:gs ts af=some ay):Af gt gs (t::ts) fs=some ay:=by show(gt t fs).bind _=_;rwa[e]
theorem FR(e:fs[i]?=some z)(h:Fre z):tgN i t fs=some (fs.set i (vl t)):=by unfold tgN;exact J0 e h
theorem GC(h:it fs=.ok ts af)(e:DJ gt s ts af=so):BR it gt s fs=so:=by unfold BR;rwa[h]
theorem Oy(h:f fs=.ok (.t t) af)(e:t=.lst ts\/t=.tup ts\/t=.z0 ts):itU f fs=.ok ts af:=by unfold itU;rw[h];rcases e with rfl|rfl|rfl<;>rfl
theorem ZW(h1:fa fs=.ok (.t t) af)(e1:IZ t=some ts)(h2:fb af=.ok (.t u) ay)(e2:IZ u=some us):itZ fa fb fs=.ok (FL.pairs ts us) ay:=by unfold itZ;rw[h1,Bu (x:=.t t) True.intro];show(fb af).bnd _=_;rw[h2,Bu (x:=.t u) True.intro];show(match IZ t,IZ u with|some xs,some ys=>Out.ok (FL.pairs xs ys) ay|_,_=>.bad)=_;rw[e1,e2]
theorem ZY(h1:fa fs=.ok (.t t) af)(e1:IZ t=some ts):itE fa fs=.ok (DX 0 ts) af:=by unfold itE;rw[h1,Bu (x:=.t t) True.intro];show(match IZ t with|some xs=>Out.ok (DX 0 xs) af|none=>.bad)=_;rw[e1]
theorem VP(h:ga fs=.ok rs af)(h2:LI rs=some ts)(h3:ts.length<=big)(e:d ts af=o):An d ga fs=o:=U0 h h2 h3 e
theorem ZT(h:f fs=.ok (.t t) af)(e:t=.lst ts\/t=.tup ts):Ac Ax (Ab f Ag) fs=.ok (.t (.int ts.length)) af:=TZ h e
theorem CT(h1:c fs=.ok b af)(h2:b=true->ct af=.ok b' af):JU c ct fs=.ok (b&&b') af:=by unfold JU;rw[h1];cases b with|true=>exact h2 rfl|false=>rfl
theorem VR(h1:c fs=.ok b af)(hb:b=false):JU c ct fs=.ok false af:=by subst hb;exact CT (b':=false) h1 (λh=>by cases h)
theorem ZN(h1:c fs=.ok b af)(h2:b=false->ct af=.ok b' af):orT c ct fs=.ok (b||b') af:=by unfold orT;rw[h1];cases b with|false=>exact h2 rfl|true=>rfl
theorem Jbe{i j:Int}:gLt (.t (.int i)) (.t (.int j)) fs=.ok (.t (.v (decide (i<j)))) fs:=rfl
theorem Jbg{i j:Int}:gLe (.t (.int i)) (.t (.int j)) fs=.ok (.t (.v (decide (i<=j)))) fs:=rfl
theorem Jb9{i j:Int}:gEq false (.t (.int i)) (.t (.int j)) fs=.ok (.t (.v (decide (i=j)))) fs:=by
 have:=RN (fa:=gc (.int i)) (fb:=gc (.int j)) (fs:=fs) BU BU;unfold asB at this;rw[show Ae (gEq false) (gc (.int i)) (gc (.int j)) fs=gEq false (.t (.int i)) (.t (.int j)) fs from rfl]at this;cases e:gEq false (.t (.int i)) (.t (.int j)) fs with
 |ok r ay =>rw[e]at this;cases r with|t t=>cases t<;>simp_all[Out.bind]|nw o=>simp[Out.bind]at this|n i=>simp[Out.bind]at this
 |exc c ay=>rw[e]at this;simp[Out.bind]at this
 |bad=>rw[e]at this;simp[Out.bind]at this
theorem QW(hc:c fs=.ok b af)(hb:b=false)(e:Ak s' h af=so):Ak (ifS c (λ_=>.bad) s') h fs=so:=by subst hb;exact Sb hc e
def Rt:Rv->Prop
 |.n _=>False
 |_=>True
theorem Si(h0:ga fs=.ok rs af)(hp:rs.length=p)(hl:Dk af (rs.map AK)=[])(ha:Bx af (rs.map AK)=as)(hf:Fn as=.ok r τ)(hr:Rt r):Ac (Ai p Fn) ga fs=.ok r af:=by subst ha;cases r with|t t=>exact Sk h0 hp hl hf|nw o=>exact Sj h0 hp hl hf|n i=>exact hr.elim
theorem x_c1(h0:ga fs=.ok [.t a1] af)(hf:Fn [vl a1]=.ok r τ)(hr:Rt r):Ac (Ai 1 Fn) ga fs=.ok r af:=Si h0 rfl rfl rfl hf hr
theorem x_c2(h0:ga fs=.ok [.t a1,.t a2] af)(hf:Fn [vl a1,vl a2]=.ok r τ)(hr:Rt r):Ac (Ai 2 Fn) ga fs=.ok r af:=Si h0 rfl rfl rfl hf hr
theorem x_c3(h0:ga fs=.ok [.t a1,.t a2,.t a3] af)(hf:Fn [vl a1,vl a2,vl a3]=.ok r τ)(hr:Rt r):Ac (Ai 3 Fn) ga fs=.ok r af:=Si h0 rfl rfl rfl hf hr
theorem x_c4(h0:ga fs=.ok [.t a1,.t a2,.t a3,.t a4] af)(hf:Fn [vl a1,vl a2,vl a3,vl a4]=.ok r τ)(hr:Rt r):Ac (Ai 4 Fn) ga fs=.ok r af:=Si h0 rfl rfl rfl hf hr
theorem x_c5(h0:ga fs=.ok [.t a1,.t a2,.t a3,.t a4,.t a5] af)(hf:Fn [vl a1,vl a2,vl a3,vl a4,vl a5]=.ok r τ)(hr:Rt r):Ac (Ai 5 Fn) ga fs=.ok r af:=Si h0 rfl rfl rfl hf hr
theorem x_c6(h0:ga fs=.ok [.t a1,.t a2,.t a3,.t a4,.t a5,.t a6] af)(hf:Fn [vl a1,vl a2,vl a3,vl a4,vl a5,vl a6]=.ok r τ)(hr:Rt r):Ac (Ai 6 Fn) ga fs=.ok r af:=Si h0 rfl rfl rfl hf hr
theorem Jci(h1:f fs=.ok (.t a0) af)(h2:ga af=.ok [.t a1] ay)(hf:Fn [vl a0,vl a1]=.ok r τ)(hr:Rt r)(hi:GW C m af (.t a0)=true):Ec C m 2 Fn f ga fs=.ok r ay:=by unfold Ec;rw[h1,Bu (x:=.t a0) True.intro];show(if _ then _ else _)=_;rw[if_pos hi,h2];exact Si rfl rfl rfl rfl hf hr
theorem Jcj{o:FO}(h1:f fs=.ok (.t a0) af)(hf:Fn [vl a0]=.ok (.nw o) τ)(hi:GW C m af (.t a0)=true):Ln C m 1 Fn f Ag fs=.ok (.nw o) af:=by unfold Ln;rw[h1,Bu (x:=.t a0) True.intro];show(if _ then _ else _)=_;rw[if_pos hi];show N4 1 Fn [.t a0] af=_;unfold N4 QM;rw[if_pos (show [Rv.t a0].length=1 from rfl),show Dk af ([Rv.t a0].map AK)=[]from rfl,if_pos qM,show Bx af ([Rv.t a0].map AK)=[vl a0]from rfl,hf];show(match Dl ([Rv.t a0].map AK) τ af with|some ar=>Out.ok (Rv.nw o) ar|none=>.bad)=_;rw[Bv rfl]
theorem Z7{gs:List Str}(h:f fs=.ok (.t (.ins C gs ts)) af)(hv:FK gs ts n=some t):EM C n f fs=.ok (.t t) af:=by unfold EM;rw[h,Bu (x:=.t (.ins C gs ts)) True.intro];show(if _ then _ else _)=_;rw[if_pos rfl,hv];rfl
theorem gNe(h:gEq false x y fs=.ok (.t (.v b)) fs):gEq true x y fs=.ok (.t (.v (!b))) fs:=by unfold gEq at *;split at h<;>simp_all;split at h<;>simp_all[okT];split at h<;>simp_all
theorem Jbc{x y:Str}:gEq true (.t (.str x)) (.t (.str y)) fs=.ok (.t (.v (!decide (x=y)))) fs:=gNe Ur
theorem Jbd{x y:Int}:gEq true (.t (.int x)) (.t (.int y)) fs=.ok (.t (.v (!decide (x=y)))) fs:=gNe Jb9
theorem OA:fzR (.t t) fs=.ok (.t t) fs:=rfl
theorem Z2:fzR (.nw (.lst ts)) fs=.ok (.t (.lst ts)) fs:=rfl
theorem Z1(h:fs[i]?=some (some (.own (.lst ts)))):fzR (.n i) fs=.ok (.t (.lst ts)) (fs.set i (vl (.lst ts))):=by simp only[fzR,h];rfl
theorem VB:nxS fs=.nx fs:=rfl
theorem Zy:Au [] fs=some fs:=rfl
theorem x_dt:AD ts fs=.ok (.t (.tup ts)) fs:=rfl
theorem x_dl:Bj ts fs=.ok (.t (.lst ts)) fs:=rfl
theorem x_dn:DS ts fs=.ok (.nw (.lst ts)) fs:=rfl
theorem Jae:LI []=some []:=rfl
theorem Jad(h:LI rs=some ts):LI (.t t::rs)=some (t::ts):=by unfold LI;rw[h];rfl
theorem ZC:IZ (.tup ts)=some ts:=rfl
theorem ZU{k:Int}(h:atI ts k=some t):Az (.t (.tup ts)) (.t (.int k)) fs=.ok (.t t) fs:=by
 have e:gIx (.t (.tup ts)) (.t (.int k)) fs=.ok (.t t) fs:=by simp only[gIx,Du,h];rfl
 show(match gIx (.t (.tup ts)) (.t (.int k)) fs with|.bad=>_|o=>o)=_;rw[e]
theorem ZV{k:Int}(h:atI ts k=some t):Az (.t (.lst ts)) (.t (.int k)) fs=.ok (.t t) fs:=Kq rfl h
end
def Sat(Q:SO->Prop)(so:SO):Prop:=Q so
section
variable{Q:SO->Prop}{f:FS->Out Rv}{c:FS->Out Bool}{it:FS->Out (List T)}{s s' h:FS->SO}{fs af:FS}{r:Rv}{b:Bool}{ts:List T}{gt:T->FS->Option FS}{P:List T->FS->Prop}{R:FS->SO->Prop}{n:Nat}{args τ:FS}{A:Rv->Prop}
theorem A2(e:s fs=.nx af)(k:Sat Q (h af)):Sat Q (Ak s h fs):=by unfold Sat;rwa[Ji e]
theorem CP(hc:c fs=.ok b af)(k1:b=true->Sat Q (Ak s h af))(k2:b=false->Sat Q (Ak s' h af)):Sat Q (Ak (ifS c s s') h fs):=by unfold Sat;rw[Sb hc rfl];cases b;exact k2 rfl;exact k1 rfl
theorem JaA(hc:c fs=.ok b af)(k1:b=true->Sat Q (s af))(k2:b=false->Sat Q (s' af)):Sat Q (ifS c s s' fs):=by unfold Sat;rw[Jcm hc rfl];cases b;exact k2 rfl;exact k1 rfl
theorem Wk(hc:c fs=.ok b af)(hb:b=false)(k:Sat Q (Ak s' h af)):Sat Q (Ak (ifS c (λ_=>.bad) s') h fs):=by unfold Sat;rwa[QW hc hb rfl]
theorem JaC(hc:c fs=.ok b af)(hb:b=false)(k:Sat Q (s' af)):Sat Q (ifS c (λ_=>.bad) s' fs):=by unfold Sat;rwa[VQ hc hb rfl]
theorem Wl(e:f fs=.ok r af)(k:Sat Q (.ret r af)):Sat Q (retS f fs):=by unfold Sat;rwa[Cv e]
theorem Wj(e:f fs=.ok r af)(k:Sat Q (.ret r af)):Sat Q (Ak (retS f) h fs):=by unfold Sat;rwa[QV e]
theorem D7(k:Sat Q (h fs)):Sat Q (Ak nxS h fs):=k
theorem q_ss(k:Sat Q (Ak s (Ak s' h) fs)):Sat Q (Ak (Ak s s') h fs):=by unfold Ak at *;cases e:s fs<;>simp only[e]at k ⊢<;>exact k
theorem Wn(e:s fs=.nx af)(k:Sat Q (.nx af)):Sat Q (s fs):=by unfold Sat;rwa[e]
theorem Nq(st:∀t ts fs,P (t::ts) fs->∃af,gt t fs=some af/\Sat (λso=>∃ay,so=.nx ay/\P ts ay) (s af)):∀(ts:List T)(fs:FS),P ts fs->∃ar,DJ gt s ts fs=.nx ar/\P [] ar :=
 Nt P λt ts fs p=>let⟨af,a,ay,b,c⟩:=st t ts fs p;⟨af,ay,a,b,c⟩
theorem JaB(hi:it fs=.ok ts af)(P:List T->FS->Prop)(h0:P ts af)(st:∀t ts fs,P (t::ts) fs->∃af,gt t fs=some af/\Sat (λso=>∃ay,so=.nx ay/\P ts ay) (s af))(k:∀ar,P [] ar->Sat Q (.nx ar)):Sat Q (BR it gt s fs):=by obtain⟨ar,e,p⟩:=Nq st ts af h0;rw[GC hi e];exact k ar p
theorem Ra(hi:it fs=.ok ts af)(Pe:T->Prop)(I:FS->Prop)(h0:∀u∈ts,Pe u)(h1:I af)(st:∀t fs,Pe t->I fs->∃af,gt t fs=some af/\Sat (λso=>∃ay,so=.nx ay/\I ay) (s af))(k:∀ar,I ar->Sat Q (.nx ar)):Sat Q (BR it gt s fs) :=
 JaB hi (λus fs=>(∀u∈us,Pe u)/\I fs) ⟨h0,h1⟩ (λt us fs ⟨a,b⟩=>let⟨af,e,ay,e2,i⟩:=st t fs (a t qB) b;⟨af,e,ay,e2,λu m=>a u (qf _ m),i⟩) (λfs p=>k fs p.2)
theorem X5{α:Type}{p:α->T}{xs:List α}{I:List α->FS->Prop}(h0:I [] fs)(st:∀D a R fs,D++a::R=xs->I D fs->∃af,gt (p a) fs=some af/\Sat (λso=>∃ay,so=.nx ay/\I (D++[a]) ay) (s af)):∃ar,DJ gt s (xs.map p) fs=.nx ar/\I xs ar:=by
 obtain⟨ar,e,D,R,h1,h2,h3⟩:=Nq (P:=λus fs=>∃D R,D++R=xs/\us=R.map p/\I D fs) (gt:=gt) (s:=s) (λt us fs ⟨D,R,h1,h2,h3⟩=>by cases R with|nil=>cases h2|cons a R =>obtain⟨rfl,rfl⟩:=List.cons.inj h2;obtain⟨af,e,ay,e2,i⟩:=st D a R fs h1 h3;exact⟨af,e,ay,e2,D++[a],R,by rw[<- h1];simp,rfl,i⟩) (xs.map p) fs ⟨[],xs,rfl,rfl,h0⟩;have:R=[]:=by cases R with|nil=>rfl|cons a R=>cases h2
 subst this;rw[qS]at h1;exact⟨ar,e,h1▸h3⟩
theorem BQ{α:Type}{p:α->T}{xs:List α}(hi:it fs=.ok (xs.map p) af)(I:List α->FS->Prop)(h0:I [] af)(st:∀D a R fs,D++a::R=xs->I D fs->∃af,gt (p a) fs=some af/\Sat (λso=>∃ay,so=.nx ay/\I (D++[a]) ay) (s af))(k:∀ar,I xs ar->Sat Q (h ar)):Sat Q (Ak (BR it gt s) h fs):=by obtain⟨ar,e,p⟩:=X5 h0 st;exact A2 (GC hi e) (k ar p)
theorem HG{α:Type}{p:α->T}{xs:List α}(hi:it fs=.ok (xs.map p) af)(I:List α->FS->Prop)(h0:I [] af)(st:∀D a R fs,D++a::R=xs->I D fs->∃af,gt (p a) fs=some af/\Sat (λso=>∃ay,so=.nx ay/\I (D++[a]) ay) (s af))(k:∀ar,I xs ar->Sat Q (.nx ar)):Sat Q (BR it gt s fs):=by obtain⟨ar,e,p⟩:=X5 h0 st;rw[GC hi e];exact k ar p
theorem Q8{R:SO->Prop}(e:gt t fs=some af)(k:Sat R (s af)):∃af,gt t fs=some af/\Sat R (s af):=⟨af,e,k⟩
def Rr(A:Rv->Prop)(so:SO):Prop:=∃r τ,so=.ret r τ/\Rt r/\A r
theorem E3(k:Sat (Rr A) (s (args++List.replicate n none))):∃r τ,Be n s args=.ok r τ/\A r:=by obtain⟨r,τ,e,hr,a⟩:=k;cases r with|t t=>exact⟨_,_,HD e,a⟩|nw o=>exact⟨_,_,SH e,a⟩|n i=>exact hr.elim
theorem OV(hr:Rt r)(a:A r):Sat (Rr A) (.ret r fs):=⟨r,fs,rfl,hr,a⟩
theorem SN{P:FS->Prop}(p:P fs):Sat (λso=>∃ay,so=.nx ay/\P ay) (.nx fs):=⟨fs,rfl,p⟩
theorem Jaw:Sat (λso=>∃τ,so=.nx τ) (.nx fs):=⟨fs,rfl⟩
theorem AU(k:Sat (Rr (·=.t t)) (s (args++List.replicate n none))):∃τ,Be n s args=.ok (.t t) τ:=by obtain⟨r,τ,e,rfl⟩:=E3 k;exact⟨τ,e⟩
theorem HF(k:Sat (λso=>∃τ,so=.nx τ) (s (args++List.replicate n none))):∃τ,Be n s args=.ok (.t .l) τ:=by obtain⟨τ,e⟩:=k;exact⟨τ.take args.length,by unfold Be;rw[e]⟩
end
theorem keys_map:∀xs:List Str,FU (xs.map T.str)=some (xs.map λx=>(.inr x:Key))
 | []=>rfl
 |x::xs=>by simp only[qi,FU,keys_map xs,FN,rg,Option.map_some]
section
variable{α:Type}{f fv fi:FS->Out Rv}{ga:FS->Out (List Rv)}{it:FS->Out (List T)}{ft:FS->Out Bool}{fs af ay bQ τ rest:FS}{x:Option Sl}{p q p1 p2:α->T}{b:α->Bool}{xs:List α}{ts us:List T}{t u:T}{i:Nat}{gt:T->FS->Option FS}{src:List (Option Nat)}{fe:FS->Out Rv}{ks:List Key}{k:Str}{r:Rv}{o:Out Rv}{lo hi:Option Int}{l h:FS->Out (Option Int)}
def Cf(p:α->T):List α->Option Sl->Option Sl
 | [],x=>x
 |a::xs,_=>Cf p xs (vl (p a))
theorem YW:∀(xs:List α)(x:Option Sl)(av:List T),Fre x->(∀a∈xs,ft (vl (p a)::rest)=.ok (b a) (vl (p a)::rest))->(∀a∈xs,b a=true->fe (vl (p a)::rest)=.ok (.t (q a)) (vl (p a)::rest))->av.length+xs.length<=big->Bn (tgN 0) ft fe (xs.map p) (x::rest) av=some (av++(xs.filter b).map q,Cf p xs x::rest)
 | [],x,av,_,_,_,_=>by simp[Bn,Cf]
 |a::xs,x,av,hx,ht,he,hl=>by
  rw[qL]at hl;have h1:tgN 0 (p a) (x::rest)=some (vl (p a)::rest):=FR rfl hx;have h2:=ht a qB;have g:=λav hl=>YW xs (vl (p a)) av Al (λa m=>ht a (qf _ m)) (λa m=>he a (qf _ m)) hl
  cases e:b a with|true =>rw[e]at h2;simp only[qi,Bn,h1,h2,(he a qB) e,if_pos (show av.length<big by lia),g (av++[q a]) (by simp;lia),tj,e,Cf];simp|false =>rw[e]at h2;simp only[qi,Bn,h1,h2,g av (by lia),tj,e,Cf];simp
theorem KH(hx:Fre x)(ht:∀a∈xs,ft (vl (p a)::rest)=.ok (b a) (vl (p a)::rest))(he:∀a∈xs,b a=true->fe (vl (p a)::rest)=.ok (.t (q a)) (vl (p a)::rest))(hl:xs.length<=1000):Bn (tgN 0) ft fe (xs.map p) (x::rest) []=some ((xs.filter b).map q,Cf p xs x::rest):=YW xs x [] hx ht he (by show 0+_<=1000000;lia)
theorem NV(hx:Fre x)(he:∀a∈xs,fe (vl (p a)::rest)=.ok (.t (q a)) (vl (p a)::rest))(hl:xs.length<=1000):Bn (tgN 0) D5 fe (xs.map p) (x::rest) []=some (xs.map q,Cf p xs x::rest):=by have:=KH (b:=λ_=>true) hx (λ_ _=>rfl) (λa m _=>he a m) hl;rwa[List.filter_eq_self.mpr λ_ _=>rfl]at this
theorem RX:∀(xs:List α)(x y:Option Sl)(av:List T),Fre x->Fre y->(∀a,p a=.tup [p1 a,p2 a])->(∀a∈xs,ft (vl (p1 a)::vl (p2 a)::rest)=.ok (b a) (vl (p1 a)::vl (p2 a)::rest))->(∀a∈xs,b a=true->fe (vl (p1 a)::vl (p2 a)::rest)=.ok (.t (q a)) (vl (p1 a)::vl (p2 a)::rest))->av.length+xs.length<=big->Bn (Aw 2 (Af (tgN 0) (Af (tgN 1) Au))) ft fe (xs.map p) (x::y::rest) av=some (av++(xs.filter b).map q,Cf p1 xs x::Cf p2 xs y::rest)
 | [],x,y,av,_,_,_,_,_,_=>by simp[Bn,Cf]
 |a::xs,x,y,av,hx,hy,hp,ht,he,hl=>by
  rw[qL]at hl;have h1:Aw 2 (Af (tgN 0) (Af (tgN 1) Au)) (p a) (x::y::rest)=some (vl (p1 a)::vl (p2 a)::rest):=by rw[hp];exact LZ (FR rfl hx) (FR rfl hy)
  have h2:=ht a qB;have g:=λav hl=>RX xs (vl (p1 a)) (vl (p2 a)) av Al Al hp (λa m=>ht a (qf _ m)) (λa m=>he a (qf _ m)) hl
  cases e:b a with|true =>rw[e]at h2;simp only[qi,Bn,h1,h2,(he a qB) e,if_pos (show av.length<big by lia),g (av++[q a]) (by simp;lia),tj,e,Cf];simp|false =>rw[e]at h2;simp only[qi,Bn,h1,h2,g av (by lia),tj,e,Cf];simp
theorem JN(hx:Fre x)(hy:Fre y)(hp:∀a,p a=.tup [p1 a,p2 a])(ht:∀a∈xs,ft (vl (p1 a)::vl (p2 a)::rest)=.ok (b a) (vl (p1 a)::vl (p2 a)::rest))(he:∀a∈xs,b a=true->fe (vl (p1 a)::vl (p2 a)::rest)=.ok (.t (q a)) (vl (p1 a)::vl (p2 a)::rest))(hl:xs.length<=1000):Bn (Aw 2 (Af (tgN 0) (Af (tgN 1) Au))) ft fe (xs.map p) (x::y::rest) []=some ((xs.filter b).map q,Cf p1 xs x::Cf p2 xs y::rest):=RX xs x y [] hx hy hp ht he (by show 0+_<=1000000;lia)
theorem Hc(hx:Fre x)(hy:Fre y)(hp:∀a,p a=.tup [p1 a,p2 a])(he:∀a∈xs,fe (vl (p1 a)::vl (p2 a)::rest)=.ok (.t (q a)) (vl (p1 a)::vl (p2 a)::rest))(hl:xs.length<=1000):Bn (Aw 2 (Af (tgN 0) (Af (tgN 1) Au))) D5 fe (xs.map p) (x::y::rest) []=some (xs.map q,Cf p1 xs x::Cf p2 xs y::rest):=by have:=JN (b:=λ_=>true) hx hy hp (λ_ _=>rfl) (λa m _=>he a m) hl;rwa[List.filter_eq_self.mpr λ_ _=>rfl]at this
theorem at0:atI (t::ts) 0=some t:=A6 rfl
theorem at1:atI (t::u::ts) 1=some u:=A6 rfl
theorem at2:atI (t::u::v::ts) 2=some v:=A6 rfl
theorem Jcd:BO (t::ts) (some 1) none=ts:=Fv (by decide) (by simp)
def Src(fs:FS)(src:List (Option Nat)):Prop:=Dk fs (src.map λo=>o.elim Ini.no Ini.slot)=[]/\(src.all λo=>o.elim true λj=>decide (j<fs.length))=true
theorem so0:Src fs []:=⟨rfl,rfl⟩
theorem so1(h:Src fs src):Src fs (none::src):=h
theorem so2(h0:fs[j]?=some (vl t))(h:Src fs src):Src fs (some j::src):=by
 refine⟨?_,?_⟩
 .show List.filterMap (A4 fs) (Ini.slot j::src.map _)=[];rw[List.filterMap_cons_none (by show(if(FL.AF fs j).isSome=true then some j else none)=none;unfold FL.AF;rw[h0];rfl)];exact h.1
 .rw[sZ,h.2,Bool.and_true];exact qP (ql.mp h0).1
theorem EW(h1:it fs=.ok ts af)(hs:Src af src)(hc:Bn gt ft fe ts (Bx af (src.map λo=>o.elim Ini.no Ini.slot)) []=some (us,τ)):Bo false src it gt ft fe fs=.ok (.t (.lst us)) af:=by unfold Bo;rw[h1];show(if _ then _ else _)=_;rw[if_pos ⟨by rw[hs.1];exact qM,hs.2⟩,hc];show(match Dl _ τ af with|some ar=>_|none=>_)=_;rw[Bv hs.1];rfl
theorem ZM{o:Nat}(hv:fv fs=.ok (.t t) fs)(h0:fs[o]?=some (some (.own (.o ks ts))))(hi:fi fs=.ok (.t (.str k)) fs)(hn:(.inr k:Key)∉ks)(hl:ks.length<1000000):Cm fv (Aa o) fi fs=.nx (fs.set o (some (.own (.o (ks++[.inr k]) (ts++[t]))))):=Wr h0 hv hi (any_false hn) hl rfl
theorem VI:Fi fs=.ok (.nw (.o [] [])) fs:=rfl
theorem Z3:fzR (.nw (.o ks ts)) fs=.ok (.t (.o ks ts)) fs:=rfl
theorem Sg{xs:List Str}(h:ga fs=.ok [.t t,.t u] af)(hx:IZ t=some (xs.map T.str))(hy:IZ u=some us)(nd:xs.Nodup)(hl:xs.length=us.length):JL ga fs=.ok (.nw (.o (xs.map λx=>(.inr x:Key)) us)) af:=by unfold JL;rw[h];simp only[Out.bind,hx,hy,keys_map];rw[if_pos ⟨B3 nd,by rw[qe];exact hl⟩]
theorem ZS(h:f fs=.ok (.t t) af)(e:t=.lst ts\/t=.tup ts):Ac Bf (Ab f Ag) fs=.ok (.nw (.lst ts)) af:=by refine CH (BK h Dn) ?_;rcases e with rfl|rfl<;>rfl
theorem VL(h:f fs=.ok (.t (.o ks ts)) af):Ac Bf (Ab f Ag) fs=.ok (.nw (.lst (ks.map Oi))) af:=CH (BK h Dn) rfl
theorem Vx(h:f fs=.ok (.t t) af)(e:t=.lst ts\/t=.tup ts):Ac AW (Ab f Ag) fs=.ok (.t (.tup ts)) af:=by refine CH (BK h Dn) ?_;rcases e with rfl|rfl<;>rfl
theorem Jac(h:f fs=.ok (.t (.lst us)) af)(e:us=xs.map λa=>T.v (b a)):Ac Vp (Ab f Ag) fs=.ok (.t (.v (xs.any b))) af:=by subst e;refine CH (BK h Dn) ?_;have:=FH (xs.map b);rw[qO]at this;simp only[Vp,Du,rg];rw[show(λa=>T.v (b a))=T.v∘b from rfl,this];show okT _ af=_;rw[List.any_map];rfl
theorem Vw(h:fs[i]?=some (some (.own (.lst ts)))):Ac AW (Ab (Aa i) Ag) fs=.ok (.t (.tup ts)) fs:=by refine CH (LU (GX h) True.intro Dn) ?_;simp only[AW,Wa h];rfl
theorem ZK(h1:f fs=.ok r af)(n:Nn r)(h2:l af=.ok lo ay)(h3:h ay=.ok hi bQ)(e:Gs r lo hi bQ=o):slF f l h fs=o:=by unfold slF;rw[h1,Bu n];show(l af).bind _=_;rw[h2];show(h ay).bind _=_;rw[h3];exact e
theorem ZO:noP fs=.ok none fs:=rfl
theorem R9{j:Int}(h:f fs=.ok (.t (.int j)) af):AB f fs=.ok (some j) af:=by unfold AB;rw[h];rfl
theorem ZH:Gs (.t (.lst ts)) lo hi fs=.ok (.t (.lst (BO ts lo hi))) fs:=rfl
theorem VD:Gs (.t (.tup (t::ts))) (some 1) none fs=.ok (.t (.tup ts)) fs:=congrArg (λl=>Out.ok (Rv.t (.tup l)) fs) Jcd
theorem VE:Gs (.t (.lst (t::ts))) (some 1) none fs=.ok (.t (.lst ts)) fs:=congrArg (λl=>Out.ok (Rv.t (.lst l)) fs) Jcd
theorem ZF:Gs (.t (.tup ts)) lo hi fs=.ok (.t (.tup (BO ts lo hi))) fs:=rfl
theorem Jab(h0:fs[i]?=some (some (.own (.lst us))))(h:f fs=.ok (.t t) af)(i9:af[i]?=some (some (.own (.lst ts))))(hl:ts.length<1000000):Bb (Cz GZ (Aa i) (Ab f Ag)) fs=.nx (af.set i (some (.own (.lst (ts++[t]))))):=Za h0 h i9 hl rfl
end
theorem HI:∀{gs:List Str}{os:List FO}{f:Str},gs.length=os.length->f∉gs->HJ gs os f o=some (gs++[f],os++[o])
 | [],[],f,_,_=>rfl
 |g::gs,o'::os,f,hl,hn=>by
  have h1:¬g=f:=λe=>hn (e▸qB)
  have:=HI (o:=o) (f:=f) (by simpa using hl) (λm=>hn (qf _ m));simp[HJ,h1,this]
section
variable{f fv:FS->Out Rv}{fs af τ:FS}{t:T}{i j z:Nat}{C:Addr}{n:Str}{gs:List Str}{os dy ds:List FO}{o:FO}{ks dQ:List Key}{ts dS:List T}{k k2:Str}{s:FS->SO}{args:FS}{m:Nat}{a:Option Sl}
theorem VN(hv:fv fs=.ok r af)(ha:JbQ r=some o)(h0:af[i]?=some (some (.bor (.ins C gs os))))(hl:gs.length=os.length/\gs.length<900)(hn:n∉gs):Iq C n i fv fs=.nx (af.set i (some (.bor (.ins C (gs++[n]) (os++[o]))))):=by unfold Iq;rw[hv];simp only[SO.of,ha,Rp h0];rw[if_pos ⟨True.intro,hl.2⟩,HI hl.1 hn];unfold FL.putAt;rw[h0];rfl
theorem Jay(k:Sat (λso=>∃τ,so=.nx (some (.bor o)::τ)) (s ((a::args)++List.replicate m none))):∃τ,Be m s (a::args)=.ok (.t .l) (some (.bor o)::τ):=by obtain⟨τ,e⟩:=k;exact⟨τ.take args.length,by unfold Be;rw[e];rfl⟩
theorem Wm:Sat (λso=>∃τ,so=.nx (some (.bor o)::τ)) (.nx (some (.bor o)::fs)):=⟨fs,rfl⟩
theorem ZP(ha:fa fs=.ok [.t a1,.t a2,.t a3,.t a4,.t a5] af)(hf:Fn [some (.bor (.ins C [] [])),vl a1,vl a2,vl a3,vl a4,vl a5]=.ok (.t .l) (some (.bor o)::τ)):Ac (GU C 6 Fn) fa fs=.ok (.nw o) af:=TU ha rfl rfl hf
theorem Z5:fzR (.nw (.ins C gs [.val a1,.val a2,.val a3,.val a4,.val a5])) fs=.ok (.t (.ins C gs [a1,a2,a3,a4,a5])) fs:=rfl
theorem QX(h0:fs[j]?=some (some (.bor o)))(hf:f ((AX fs).set j (vl (toT o)))=.ok (.t .l) τ):Bb (FV j f) fs=.nx fs:=by refine NK (r:=.t .l) ?_;unfold FV;rw[Rp h0];simp only[hf];rfl
theorem VO(hv:fv fs=.ok (.t t) af)(h0:af[i]?=some (some (.bor (.ins C gs os))))(hj:af[j]?=some (vl (.str k)))(hf:Bw gs os n=some (.o ks ts))(hn:(.inr k:Key)∉ks)(hl:ks.length<1000000)(hs:BZ gs os n (.o (ks++[.inr k]) (ts++[t]))=dy):C6 C n i j fv fs=.nx (af.set i (some (.bor (.ins C gs dy)))):=UZ hv h0 hj hf hn hl (by rw[hs])
theorem Sd(h0:fs[i]?=some (some (.bor (.ins C gs os))))(hj:fs[j]?=some (vl (.str k)))(hf:Bw gs os n=some o)(ho:Y9 o=some (ks,ds))(hn:(.inr k:Key)∉ks)(hl:ks.length<1000000)(hs:BZ gs os n (.dO (ks++[.inr k]) (ds++[.o [] []]))=dy):JK C n i j fs=.nx (fs.set i (some (.bor (.ins C gs dy)))):=by subst hs;unfold JK;simp only[Rp h0,hj,hf,if_true,FN,ho];rw[if_pos ⟨hl,any_false hn⟩];unfold FL.putAt;rw[h0];rfl
theorem F9:∀{ks:List Key}{ds:List FO},ks.length=ds.length->kk∉ks->GF (ks++[kk]) (ds++[d]) kk=some d
 | [],[],_,_=>by simp[GF]
 |a::ks,b::ds,h,n=>by simp only[sv,GF];rw[if_neg λz=>n (by simp[z])];exact F9 (by simpa using h) λm=>n (qf _ m)
theorem Ge:∀{ks:List Key}{ds:List FO},ks.length=ds.length->kk∉ks->GI (ks++[kk]) (ds++[d]) kk x=ds++[x]
 | [],[],_,_=>by simp[GI]
 |a::ks,b::ds,h,n=>by simp only[sv,GI];rw[if_neg λz=>n (by simp[z]),Ge (by simpa using h) λm=>n (qf _ m)]
theorem Se(hv:fv fs=.ok (.t t) af)(h0:af[i]?=some (some (.bor (.ins C gs os))))(hj:af[j]?=some (vl (.str k)))(hz:af[z]?=some (vl (.str k2)))(hf:Bw gs os n=some (.dO (ks++[.inr k]) (ds++[.o dQ dS])))(hl:ks.length=ds.length)(hn:(.inr k:Key)∉ks)(eX:(.inr k2:Key)∉dQ)(eW:dQ.length<1000000)(hs:BZ gs os n (.dO (ks++[.inr k]) (ds++[.o (dQ++[.inr k2]) (dS++[t])]))=dy):dput2 C n i j z fv fs=.nx (af.set i (some (.bor (.ins C gs dy)))):=by
 subst hs;have h3:D8 dQ dS (.inr k2:Key) t=(dQ++[.inr k2],dS++[t]):=by unfold D8;rw[any_false eX];rfl
 unfold dput2;rw[hv];simp only[SO.of,Rp h0,hj,hz,hf,if_true,FN,F9 hl hn,Ge hl hn,h3];rw[if_pos (show dQ.length<big from eW)];unfold FL.putAt;rw[h0];rfl
end
section
variable{Q:SO->Prop}{f:FS->Out Rv}{c ct:FS->Out Bool}{s s' h:FS->SO}{fs af:FS}{b b':Bool}{α β:Type}{ks:List Key}{ts:List T}{t:T}{k:Str}
theorem Gh{J:β->FS}{P:β->Prop}(hc:c fs=.ok b af)(h1:b=true->∃x,P x/\s af=.nx (J x))(h2:b=false->∃x,P x/\s' af=.nx (J x))(k:∀x,P x->Sat Q (h (J x))):Sat Q (Ak (ifS c s s') h fs):=by cases b with|true=>obtain⟨x,p,e⟩:=h1 rfl;exact A2 (M4 hc e) (k x p)|false=>obtain⟨x,p,e⟩:=h2 rfl;exact A2 (M6 hc e) (k x p)
theorem Et(h1:c fs=.ok b fs)(h2:ct fs=.ok b' fs):orT c ct fs=.ok (b||b') fs:=ZN h1 λ_=>h2
theorem ZZ{p:α->Str}{N:List α}(h:f fs=.ok (.t (.dF (N.map λa=>(.inr (p a):Key)) ts)) af):itD f fs=.ok (N.map λa=>.str (p a)) af:=by unfold itD;rw[h,Bu (x:=.t (.dF _ ts)) True.intro];show Out.ok _ af=_;rw[qO];rfl
theorem Jbb(h:By ks ts (.inr k:Key)=some t):Az (.t (.dF ks ts)) (.t (.str k)) fs=.ok (.t t) fs:=by show(match JG (.t (.dF ks ts)) (.t (.str k)) fs with|o=>o)=_;unfold JG;simp only[RT,FN,Option.map_some,h];rfl
theorem B2{L:List α}(hL:L≠[])(p:α->T)(x:Int):∃a∈L,atI (L.map p) (x%((L.map p).length:Int))=some (p a):=by
 have hl:=rC.mpr hL;rw[qe];have h1:=sJ x (show(L.length:Int)≠0 by lia);have h2:=sd x (show(0:Int)<L.length by lia);have hi:(x%(L.length:Int)).toNat<L.length:=by lia
 refine⟨L[(x%(L.length:Int)).toNat],su hi,?_⟩;have:=A6 (xs:=L.map p) (by rw[qH,qb hi];rfl);rwa[show(((x%(L.length:Int)).toNat:Nat):Int)=x%(L.length:Int) by lia]at this
inductive F2(R:α->β->Prop):List α->List β->Prop
 |nil:F2 R [] []
 |cons {a b as bs}:R a b->F2 R as bs->F2 R (a::as) (b::bs)
section
variable{R S:α->β->Prop}{as:List α}{bs:List β}
theorem F2.len(h:F2 R as bs):as.length=bs.length:=by induction h with|nil=>rfl|cons _ _ i=>simp[i]
theorem F2.imp(h:F2 R as bs)(i:∀a b,R a b->S a b):F2 S as bs:=by induction h with|nil=>exact .nil|cons h _ ih=>exact .cons (i _ _ h) ih
theorem F2.flip(h:F2 R as bs):F2 (λb a=>R a b) bs as:=by induction h with|nil=>exact .nil|cons h _ ih=>exact .cons h ih
theorem F2.snoc{a:α}{b:β}(h:F2 R as bs)(r:R a b):F2 R (as++[a]) (bs++[b]):=by induction h with|nil=>exact .cons r .nil|cons h _ ih=>exact .cons h ih
theorem UQ:∀{as:List α},(∀a∈as,∃b,R a b)->∃bs,F2 R as bs
 | [],_=>⟨[],.nil⟩
 |a::as,h=>let⟨b,r⟩:=h a qB;let⟨bs,rs⟩:=UQ λa m=>h a (qf _ m);⟨b::bs,.cons r rs⟩
end
theorem QC{p:α->T}{xs:List α}{vs:List T}{rest:FS}{x:Option Sl}(hx:Fre x)(hv:F2 (λa v=>fe (vl (p a)::rest)=.ok (.t v) (vl (p a)::rest)) xs vs)(hl:xs.length<=1000):Bn (tgN 0) D5 fe (xs.map p) (x::rest) []=some (vs,Cf p xs x::rest):=by
 have go:∀(xs:List α)(vs:List T)(x:Option Sl)(av:List T),Fre x->F2 (λa v=>fe (vl (p a)::rest)=.ok (.t v) (vl (p a)::rest)) xs vs->av.length+xs.length<=big->Bn (tgN 0) D5 fe (xs.map p) (x::rest) av=some (av++vs,Cf p xs x::rest):=by
  intro xs vs x av hx h
  induction h generalizing x av with|nil=>intro _;simp[Bn,Cf]|@cons a v xs vs h _ ih =>intro hl;rw[qL]at hl;rw[qi,KD (FR (z:=x) rfl hx) h (by lia),ih (vl (p a)) (av++[v]) Al (by simp;lia)];simp[Cf]
 exact go xs vs x [] hx hv (by show 0+_<=1000000;lia)
end
section
variable{f:FS->Out Rv}{fs af:FS}{b:Bool}{ts:List T}{n:Nat}{ks:List Key}
theorem VM(h:f fs=.ok (.t (.v b)) af):Ac Fj (Ab f Ag) fs=.ok (.t (.int (if b=true then 1 else 0))) af:=CH (BK h Dn) rfl
theorem Sa(h:n<=ts.length):Gs (.t (.lst ts)) none (some (n:Int)) fs=.ok (.t (.lst (ts.take n))) fs:=by have:=Ft (v:=(n:Int)) (by lia) (by simpa using h);rw[rD]at this;show Out.ok (Rv.t (.lst (BO ts none (some (n:Int))))) fs=_;rw[this]
theorem YX{rest:FS}(hx:Fre x)(hv:F2 (λa v=>fe (vl a::rest)=.ok (.t v) (vl a::rest)) ts vs)(hl:ts.length<=1000):Bn (tgN 0) D5 fe ts (x::rest) []=some (vs,Cf id ts x::rest):=by have:=QC (p:=id) hx hv hl;rwa[List.map_id]at this
theorem Sh(h:f fs=.ok (.t (.dF ks ts)) af):Ac Ip (Ab f Ag) fs=.ok (.nw (.o ks ts)) af:=CH (BK h Dn) rfl
theorem Z6(h:fs[i]?=some (some (.own (.o ks ts)))):fzD (Aa i) fs=.ok (.t (.dF ks ts)) (fs.set i (vl (.dF ks ts))):=by unfold fzD;rw[GX h,Bu (x:=.n i) True.intro];simp only[h]
end
section
variable{f:FS->Out Rv}{ga:FS->Out (List Rv)}{fs af:FS}{ts:List T}{n m:Nat}{a b j:Int}{α β γ:Type}
theorem ZX(h:ga fs=.ok [.t (.int j)] af)(hj:j=(n:Int))(hn:n<1000):LM ga fs=.ok ((List.range n).map λi=>T.int (i:Nat)) af:=by subst hj;rw[Mo h ⟨by lia,by lia⟩,rD];unfold FL.upTo;simp
theorem ZG(ha:a=(n:Int))(hb:b=(m:Int))(h:n<=m/\m<=ts.length):Gs (.t (.lst ts)) (some a) (some b) fs=.ok (.t (.lst ((ts.drop n).take (m-n)))) fs:=by subst ha hb;show Out.ok (Rv.t (.lst (BO ts (some (n:Int)) (some (m:Int))))) fs=_;unfold BO;rw[HT.Cu,HT.Cu,sP h.2,sP (by lia)]
theorem Us(h:0<b/\b.natAbs.log2<9000):Qe (.t (.int a)) (.t (.int b)) fs=.ok (.t (.int (a/b))) fs:=if_pos h
theorem F2.JaV{S:α->β->Prop}{f:γ->β}{as:List α}{cs:List γ}(h:F2 (λa c=>S a (f c)) as cs):F2 S as (cs.map f):=by induction h with|nil=>exact .nil|cons h _ ih=>exact .cons h ih
theorem ES(p:α->T):∀(L:List α)(i:Nat),DX (i:Int) (L.map p)=(L.zipIdx i).map λq=>.tup [.int q.2,p q.1]
 | [],_=>rfl
 |a::L,i=>by have:=ES p L (i+1);simp only[qi,DX,List.zipIdx_cons];rw[<- this];simp
end
theorem Ih{xs:List Str}(h:k∉xs):(.inr k:Key)∉xs.map λm=>(.inr m:Key):=λm=>by obtain⟨x,hm,e⟩:=qm.mp m;exact h (Sum.inr.inj e▸hm)
section
variable{f fk fv:FS->Out Rv}{fs af ay τ:FS}{ts:List T}{t u:T}{n j:Nat}{a:Int}{ks:List Key}{k:Str}{s:FS->SO}{args:FS}{A:FO->Prop}{o:FO}{r:Rv}
theorem ZJ(h:n<=ts.length)(ha:a=(n:Int)):Gs (.t (.lst ts)) (some a) none fs=.ok (.t (.lst (ts.drop n))) fs:=by subst ha;have:=Fv (v:=(n:Int)) (by lia) (by simpa using h);unfold Gs;simp only[Du,this];rfl
theorem Sf(hk:fk fs=.ok (.t (.str k)) af)(hv:fv af=.ok (.t u) ay):Iz fk fv fs=.ok (.nw (.o [.inr k] [u])) ay:=by unfold Iz;rw[hk];show(match fv af with|.ok (.t y) ay=>_|_=>_)=_;rw[hv];rfl
theorem R8(h0:fs[j]?=some (some (.own (.o ks ts))))(hf:f ((AX fs).set j (vl (.dF ks ts)))=.ok (.t t) τ)(hn:noD t=true):GG j f fs=.ok (.t t) fs:=by unfold GG;rw[h0];simp only[hf,hn,if_true]
def Ro(A:FO->Prop)(so:SO):Prop:=∃i τ o,so=.ret (.n i) τ/\τ[i]?=some (some (.own o))/\A o
theorem J3(k:Sat (Ro A) (s (args++List.replicate n none))):∃o τ,Be n s args=.ok (.nw o) τ/\A o:=by obtain⟨i,τ,o,e,h,a⟩:=k;exact⟨o,_,OQ e h,a⟩
theorem Zh(h:fs[i]?=some (some (.own o)))(a:A o):Sat (Ro A) (.ret (.n i) fs):=by unfold Sat;exact⟨i,fs,o,rfl,h,a⟩
end
section
variable{Q:SO->Prop}{f:FS->Out Rv}{ga:FS->Out (List Rv)}{s g h:FS->SO}{fs af ay bQ args τ:FS}{i j n p:Nat}{c z y m:Str}{C:Addr}{Fn:FS->Out Rv}{a0 a1 a2 t:T}{cW:Str->Bool}{neg:Bool}{xs ts:List T}{r:Rv}
theorem Cn(k:Sat (λso=>∃τ,so=.exc c τ) (s (args++List.replicate n none))):∃τ,Be n s args=.exc c τ:=by obtain⟨τ,e⟩:=k;exact⟨_,OR e⟩
theorem Zg:Sat (λso=>∃τ,so=.exc c τ) (.exc c fs):=⟨fs,rfl⟩
theorem Zw(hg:g fs=.exc c af)(hc:cW c=true)(hs:Jg i (.t (.zI c)) af=some ay)(hh:h ay=.nx bQ)(hv:bQ[i]?=some (vl t)):Q1 i cW g h fs=.nx (bQ.set i none):=by unfold Q1;rw[hg];show Vm i cW h c af=_;unfold Vm;rw[if_pos hc,hs];simp only[hh,hv]
end
section
variable{f:FS->Out Rv}{fs τ:FS}{i j:Nat}{ts:List T}{o:FO}{C:Addr}{K:Kd}{hs:List T}{G:List Fd}
theorem Z4:fzR (.nw (Q3 C K hs)) fs=.ok (.t (CM C K hs)) fs:=rfl
end
theorem Jax(e:fs=ar)(k:Sat Q (Ak s h ar)):Sat Q (Ak s h fs):=by rwa[e]
abbrev cds(s:Str):List Nat:=s.cps.toList
theorem Ej(x y:Str):cds (x++y)=cds x++cds y:=by show(x.cps++y.cps).toList=_;simp
theorem AO(x:Str):x.length=(cds x).length:=by show x.cps.size=_;simp
structure Lw(s:Str):Prop where
 lo:1<=(cds s).length
 hi:(cds s).length<=12
 al:∀c∈cds s,97<=c/\c<=122
abbrev ch(c:Nat):Str:=⟨#[c]⟩
abbrev LL:Str:="abcdefghijklmnopqrstuvwxyz"
def sgn(c:Nat):Str:=⟨#[c]⟩
def isL(c:Nat):Bool:=!(Builtin.Str.occurrences LL (sgn c) 0 LL.length 1).isEmpty
def isNm(z:Str):Bool:=decide (1<=z.length/\z.length<=12)&&z.cps.toList.all isL
theorem Ry:CS neg (.t (.str (sgn c))) (.t (.str LL)) fs=.ok (.t (.v (if neg then !isL c else isL c))) fs:=rfl
theorem KG:∀(cs:List Nat)(x:Option Sl)(av:List T),Fre x->(∀c∈cs,fe [vl (.str (sgn c))]=.ok (.t (h c)) [vl (.str (sgn c))])->av.length+cs.length<=1000->∃y,Bn (tgN 0) D5 fe (cs.map λc=>T.str (sgn c)) [x] av=some (av++cs.map h,[y])
 | [],x,av,_,_,_=>⟨x,by simp[Bn]⟩
 |c::cs,x,av,fx,he,hl=>by rw[qL]at hl;obtain⟨y,e⟩:=KG cs (vl (.str (sgn c))) (av++[h c]) Al (λc m=>he c (qf _ m)) (by rw[qv];simp;lia);refine⟨y,?_⟩;rw[qi,KD (by unfold tgN;exact J0 rfl fx) (he c (by simp)) (by show _<1000000;lia),e];simp
theorem len_str(h:fs[i]?=some (vl (.str z)))(hz:z.length<=3000):Ac Ax (Ab (Aa i) Ag) fs=.ok (.t (.int z.length)) fs:=by have e:Nh [.t (.str z)] fs=.ok (.t (.int z.length)) fs:=if_pos (show z.length<=1000000 by lia);refine KO (KA (As h) rfl) ?_;show(match orC Nh Qd [.t (.str z)] fs with|o=>o)=_;unfold orC;rw[e]
theorem between{n:Nat}{m:Int}(h:f fs=.ok (.t (.int n)) fs):FQ (asB (chain gLe gLe (gc (.int 1)) f (gc (.int m)))) fs=.ok (!decide (1<=n/\(n:Int)<=m)) fs:=by
 have e1:gLe (.t (.int 1)) (.t (.int n)) fs=.ok (.t (.v (decide ((1:Int)<=n)))) fs:=rfl;have e2:gLe (.t (.int n)) (.t (.int m)) fs=.ok (.t (.v (decide ((n:Int)<=m)))) fs:=rfl;by_cases h1:(1:Int)<=n
 .rw[qP h1]at e1;simp only[FQ,asB,chain,gc,Out.bnd,Out.bind,h,e1,e2];congr 2;rw[decide_eq_decide];constructor
  .exact λz=>⟨by lia,z⟩
  .exact λz=>z.2
 .rw[qK h1]at e1;simp only[FQ,asB,chain,gc,Out.bnd,Out.bind,h,e1];rw[qK (by lia)]
theorem EL{z:Str}(hz:z.length<=3000):A5 [vl (.str z)]=.ok (.t (.v (isNm z))) [vl (.str z)]:=by
 have hc:=between (m:=12) (len_str (i:=0) (fs:=[vl (.str z)]) rfl hz);refine(HD (n:=0) (g:=FC) (args:=[vl (.str z)]) (τ:=[vl (.str z)]) ?_).trans rfl;unfold FC;by_cases h:1<=z.length/\(z.length:Int)<=12
 .rw[qP h]at hc;refine sq (M7 hc rfl) ?_;obtain⟨y,e2⟩:=KG (fe:=Ae (CS false) (fz (Aa 0)) (gc (.str LL))) (h:=λc=>.v (isL c)) z.cps.toList none [] CB (λc m=>AI (Nl (As rfl)) BU Ry) (by rw[rT];show 0+z.length<=1000;lia);have e3:=U5 (src:=[none]) (fi:=itU (fz (Aa 0))) (fs:=[vl (.str z)]) (ts:=signs z) rfl ⟨by rw[show Dk [vl (.str z)] _=[]from rfl];exact qM,by rfl⟩ e2 (Bv rfl);rw[sQ,show z.cps.toList.map (λc=>T.v (isL c))=(z.cps.toList.map isL).map T.v by rw[qO];rfl]at e3;refine Cv (KO (KA e3 rfl) ?_);simp only[XZ,Du,rg,FH,okT];congr 3;unfold isNm;rw[qP (show 1<=z.length/\z.length<=12 by lia),List.all_map];rfl
 .rw[qK h]at hc;have:isNm z=false:=by unfold isNm;rw[qK (show ¬(1<=z.length/\z.length<=12) by lia)];rfl
  rw[this];exact EH (PN hc (Cv BU))
theorem MY(c:Nat):isL c=decide (97<=c/\c<=122):=by
 unfold isL sgn;rw[StrLaws.found_one,show LL.cps.toList=List.range' 97 26 from by decide +kernel,decide_eq_decide,List.mem_range'_1]
 lia
theorem Xg(z:Str):isNm z=true↔Lw z:=by
 unfold isNm;rw[qE,decide_eq_true_iff,qZ];constructor
 .exact λh=>⟨by rw[<- AO];exact h.1.1,by rw[<- AO];exact h.1.2,λc m=>by have:=h.2 c m;rw[MY]at this;exact qG this⟩
 .exact λh=>⟨⟨by rw[AO];exact h.lo,by rw[AO];exact h.hi⟩,λc m=>by rw[MY];exact qP (h.al c m)⟩
abbrev mkS(l:List Nat):Str:=⟨l.toArray⟩
theorem Gd(h1:f fs=.ok (.t (.str z)) fs)(h2:l fs=.ok lo fs)(h3:h fs=.ok hi fs)(hz:z.length<=1000):slS f l h fs=.ok (.t (.str (Txt.slice z lo hi))) fs:=by unfold slS;rw[h1];show(l fs).bind _=_;rw[h2];show(h fs).bind _=_;rw[h3];show(if(Txt.slice z lo hi).length<=big then okT (.str (Txt.slice z lo hi)) fs else .bad)=_;rw[if_pos (qF (Txt.slice_le z lo hi) (qF hz (by decide)))];rfl
theorem De{i:Int}(h:g fs=.ok (.t (.int i)) fs):AB g fs=.ok (some i) fs:=by unfold AB;rw[h];rfl
theorem ixS{i c:Nat}(hz:(cds z).length<=1000)(h:(cds z)[i]?=some c):Az (.t (.str z)) (.t (.int i)) fs=.ok (.t (.str (ch c))) fs:=by
 have:gIx (.t (.str z)) (.t (.int i)) fs=.ok (.t (.str (ch c))) fs:=by show(if z.length<=big then match atI z.cps.toList i with|some c=>okT (.str ⟨#[c]⟩) fs|none=>.bad else .bad)=_;rw[if_pos (by rw[AO];exact qF hz (by decide)),A6 h];rfl
 show(match gIx (.t (.str z)) (.t (.int i)) fs with|.bad=>_|o=>o)=_;rw[this]
theorem Jar{i:Nat}(h1:f fs=.ok (.t (.str z)) fs)(h2:g fs=.ok (.t (.int i)) fs)(hi:i<=(cds z).length)(hz:(cds z).length<=1000):
  slS f noP (AB g) fs=.ok (.t (.str (mkS ((cds z).take i)))) fs:=by
 rw[Gd (l:=noP) h1 rfl (De h2) (by rw[AO];exact hz),beq_iff_eq.mp (PyProof.Rows.slice_closes_to ⟨by lia,Int.ofNat_le.mpr hi⟩)];rfl
theorem Jas{i:Nat}(h1:f fs=.ok (.t (.str z)) fs)(h2:g fs=.ok (.t (.int i)) fs)(hz:(cds z).length<=1000):
  slS f (AB g) noP fs=.ok (.t (.str (mkS ((cds z).drop i)))) fs:=by
 rw[Gd (h:=noP) h1 (De h2) rfl (by rw[AO];exact hz)];have hl:=AO z;rcases Nat.lt_or_ge (cds z).length i with q|q
 .rw[PyProof.Rows.slice_beyond (by lia),rZ (by lia)];rfl
 .rw[PyProof.Rows.slice_from_eq (b:=(z.length:Int)) (by lia) (by lia) rfl];congr 4;show(((cds z).drop (i:Int).toNat).take _).toArray=((cds z).drop i).toArray;rw[rD,rY (by rw[rV];lia)]
open PySem.Builtin.Int (intBits)
theorem E5(m:Nat)(hm:m<=1000000):Ae JC (gc (.int 10)) (gc (.int m)) fs=.ok (.t (.int (10^m))) fs:=by refine AI BU BU ?_;show(if(0:Int)<=m/\(m:Int)<=1000000/\(10:Int).natAbs<2^64 then okT (.int (10^(m:Int).toNat)) fs else .bad)=_;rw[if_pos ⟨by lia,by lia,by decide⟩];rfl
theorem Kg{x q:Int}{n:Nat}(h0:0<q)(h:q.natAbs<=2^n):intBits (x%q)<=n:=Ek (by
 have h1:=sJ x (show q≠0 by lia);have h2:=sd x h0
 lia)
theorem mix(c:Int){k:Nat}(hk:k<=100):∃(v:Int)(τ:FS),BS [iv c,iv k]=.ok (.t (.int v)) τ:=by
 have run:∀{v:Int}{τ:FS},RY [iv c,iv k,none]=.ret (.t (.int v)) τ->∃(v:Int)(τ:FS),BS [iv c,iv k]=.ok (.t (.int v)) τ:=λ{v τ} h=>⟨v,_,HD h⟩
 have c2:asB (Ae gGt (Aa 0) (Ae JC (gc (.int 10)) (gc (.int 30)))) [iv c,iv k,none]=.ok (decide ((10:Int)^30<c)) [iv c,iv k,none]:=KW (AI (As rfl) (E5 30 (by decide)) rfl);have cc:=JT (RN (fa:=Ae BD (Aa 0) (gc (.int 2))) (fb:=gc (.int 1)) (fs:=[iv c,iv k,none]) (i:=c%2) (AI (As rfl) BU (Gu (by decide))) BU) c2;cases hb:(decide (c%2=1)&&decide ((10:Int)^30<c))with
 |true =>rw[hb]at cc;exact run (EH (PN cc (Cv (AI (As rfl) BU (Ni ⟨by decide,by decide⟩)))))
 |false =>
  rw[hb]at cc;have mC:(0:Int)<10^60:=by decide
  have s1:Av 2 (Ae BD (Aa 0) (Ae JC (gc (.int 10)) (gc (.int 60)))) [iv c,iv k,none]=.nx [iv c,iv k,iv (c%10^60)]:=Mf (AI (As rfl) (E5 60 (by decide)) (Gu mC)) rfl;have b0:intBits (c%10^60)<=200:=Kg mC (by decide);generalize c%10^60=x at s1 b0;have bk:intBits (k:Int)<=7:=Ek (by show k<2^7;lia);have m1:Ae Bi (Ae Bi (gc (.int 40503)) (Aa 1)) (Aa 1) [iv c,iv k,iv x]=.ok (.t (.int (40503*k*k))) [iv c,iv k,iv x]:=AI (AI BU (As rfl) (JE ⟨by decide,by decide⟩)) (As rfl) (JD ⟨by lia,by lia⟩);have m2:Ae Bi (Ae Ao (Ae Ao (Ae Bi (Aa 2) (Aa 2)) (Ae Bi (Ae Bi (gc (.int 40503)) (Aa 1)) (Aa 1))) (gc (.int 7919))) (gc (.int 1812433253982451697)) [iv c,iv k,iv x]=.ok (.t (.int ((x*x+40503*k*k+7919)*1812433253982451697))) [iv c,iv k,iv x] :=
   AI (AI (AI (AI (As rfl) (As rfl) (JF ⟨by lia,by lia⟩)) m1 Eg) BU Eg) BU (JD ⟨by decide,by decide⟩)
  generalize (x*x+40503*k*k+7919)*1812433253982451697=y at m2;have mB:(0:Int)<10^18+9:=by decide
  have oK:((10:Int)^18+9).natAbs<=2^61:=by decide
  have s2:Av 2 (Ae BD (Ae Bi (Ae Ao (Ae Ao (Ae Bi (Aa 2) (Aa 2)) (Ae Bi (Ae Bi (gc (.int 40503)) (Aa 1)) (Aa 1))) (gc (.int 7919))) (gc (.int 1812433253982451697))) (Ae Ao (Ae JC (gc (.int 10)) (gc (.int 18))) (gc (.int 9)))) [iv c,iv k,iv x]=.nx [iv c,iv k,iv (y%(10^18+9))] :=
   Mf (AI m2 (AI (E5 18 (by decide)) BU Eg) (Gu mB)) rfl
  have b1:intBits (y%(10^18+9))<=61:=Kg mB oK;generalize y%(10^18+9)=z at s2 b1;have b2:intBits (z*z+k)<=61+61+1:=bits_add (bits_mul b1 b1) (by lia);have bc:intBits 739108512309184756019283746561<=100:=Ek (by decide);have m3:Ae Bi (Ae Ao (Ae Bi (Aa 2) (Aa 2)) (Aa 1)) (gc (.int 739108512309184756019283746561)) [iv c,iv k,iv z]=.ok (.t (.int ((z*z+k)*739108512309184756019283746561))) [iv c,iv k,iv z] :=
   AI (AI (AI (As rfl) (As rfl) (JF ⟨by lia,by lia⟩)) (As rfl) Eg) BU (JF ⟨by lia,by lia⟩)
  have oX:(0:Int)<10^40+121:=by decide
  exact run (sq (M7 cc rfl) (sq s1 (sq s2 (Cv (AI m3 (AI (E5 40 (by decide)) BU Eg) (Gu oX))))))
section
variable{fa fb f:FS->Out Rv}{ga:FS->Out (List Rv)}{fs af ay bQ τ:FS}{c m k:Str}{g:Rv->Rv->FS->Out Rv}{ct:FS->Out Bool}{s s' h:FS->SO}{i n:Nat}{gt:T->FS->Option FS}{d:List T->FS->Out Rv}{Fn:FS->Out Rv}{a0 a1 a2 a3 a4 a5 a6 t u:T}{C:Addr}{Q:SO->Prop}{ts:List T}{ks:List Key}{r:Rv}{b:Bool}
theorem YO(h:fa fs=.exc c af):Ae g fa fb fs=.exc c af:=by unfold Ae;rw[h];rfl
theorem Zm(h:f fs=.exc c af):fz f fs=.exc c af:=by unfold fz;rw[h];rfl
theorem YQ(h:f fs=.exc c af):asB f fs=.exc c af:=by unfold asB;rw[h];rfl
theorem Jcb(h:ct fs=.exc c af):ifS ct s s' fs=.exc c af:=by unfold ifS;rw[h];rfl
theorem YM(h:f fs=.exc c af):retS f fs=.exc c af:=by unfold retS;rw[h];rfl
theorem JbJ(h:f fs=.exc c af):D3 f gt fs=.exc c af:=by unfold D3;rw[h];rfl
theorem UX(h:f fs=.exc c af):Ab f ga fs=.exc c af:=by unfold Ab;rw[h];rfl
theorem YN(h:ga fs=.exc c af):An d ga fs=.exc c af:=by unfold An;rw[h];rfl
theorem JbI(h0:ga fs=.ok [.t a1,.t a2] af)(hf:Fn [vl a1,vl a2]=.exc c τ):Ac (Ai 2 Fn) ga fs=.exc c af:=C7 h0 rfl rfl hf
theorem Jcc(h0:ga fs=.ok [.t a1,.t a2,.t a3] af)(hf:Fn [vl a1,vl a2,vl a3]=.exc c τ):Ac (Ai 3 Fn) ga fs=.exc c af:=C7 h0 rfl rfl hf
theorem e_m1(h1:f fs=.ok (.t a0) af)(h2:ga af=.ok [.t a1] ay)(hf:Fn [vl a0,vl a1]=.exc c τ)(hi:GW C m af (.t a0)=true):Ec C m 2 Fn f ga fs=.exc c ay:=by unfold Ec;rw[h1,Bu (x:=.t a0) True.intro];show(if _ then _ else _)=_;rw[if_pos hi,h2];exact C7 rfl rfl rfl hf
theorem q_X(e:s fs=.exc c af)(k:Sat Q (.exc c af)):Sat Q (s fs):=by unfold Sat;rwa[e]
theorem SM(e:s fs=.exc c af)(k:Sat Q (.exc c af)):Sat Q (Ak s h fs):=q_X (OO e) k
theorem in_f:CS neg (.t (.str k)) (.t (.dF ks ts)) fs=.ok (.t (.v (if neg then !(By ks ts (.inr k:Key)).isSome else(By ks ts (.inr k:Key)).isSome))) fs:=rfl
theorem Ja2:RD false (.t .l) (.t .l) fs=.ok (.t (.v true)) fs:=rfl
theorem Ja1:RD false (.t (.tup ts)) (.t .l) fs=.ok (.t (.v false)) fs:=rfl
theorem VC:Gs (.t (.tup (t::u::ts))) none (some 2) fs=.ok (.t (.tup [t,u])) fs:=by have:=Ft (xs:=t::u::ts) (v:=2) (by decide) (by simp);exact congrArg (λl=>Out.ok (Rv.t (.tup l)) fs) this
theorem ZA{j:Int}(hj:j=(n:Int))(h:n<=ts.length):Gs (.t (.tup ts)) none (some j) fs=.ok (.t (.tup (ts.take n))) fs:=by subst hj;have:=Ft (v:=(n:Int)) (by lia) (by simpa using h);exact congrArg (λl=>Out.ok (Rv.t (.tup l)) fs) this
theorem VA{j:Int}(hj:j=(n:Int)):Gs (.t (.tup ts)) (some j) none fs=.ok (.t (.tup (ts.drop n))) fs:=by
 subst hj;have:BO ts (some (n:Int)) none=ts.drop n:=by
  by_cases h:n<=ts.length
  .have:=Fv (v:=(n:Int)) (by lia) (by simpa using h);rwa[rD]at this
  .unfold BO;rw[HT.Cu,Nat.min_eq_right (by lia),rZ (by lia),rZ (by lia),List.take_nil]
 exact congrArg (λl=>Out.ok (Rv.t (.tup l)) fs) this
theorem VH(h:f fs=.ok (.t (.tup ts)) af):Zf f fs=.ok (.t (.tup ts.reverse)) af:=by unfold Zf;rw[h,Bu (x:=.t (.tup ts)) True.intro];rfl
theorem LW(h:f fs=.ok (.t (.v b)) af)(hb:b=true)(h2:fa af=.ok r ay):Vi f fa fs=.ok r ay:=by subst hb;unfold Vi;rwa[h,Bu (x:=.t (.v true)) True.intro]
def Stop:SO->Prop
 |.ret _ _=>True
 |.exc _ _=>True
 |_=>False
theorem Stop.seq(h:Stop (s fs)):Ak s s' fs=s fs:=by unfold Ak;cases e:s fs<;>rw[e]at h<;>first|rfl|exact h.elim
section
variable{α:Type}{p:α->T}{ok:α->Option Str}{I:FS->Prop}{E:Str->SO->Prop}
theorem Ux(hE:∀c so,E c so->Stop so):∀(xs:List α),(∀a∈xs,ok a=none->∀fs,I fs->∃af,gt (p a) fs=some af/\Sat (λso=>∃ay,so=.nx ay/\I ay) (s af))->(∀a∈xs,∀c,ok a=some c->∀fs,I fs->∃af,gt (p a) fs=some af/\Sat (E c) (s af))->∀fs,I fs->(xs.findSome? ok=none/\∃ar,DJ gt s (xs.map p) fs=.nx ar/\I ar)\/∃c,xs.findSome? ok=some c/\E c (DJ gt s (xs.map p) fs)
 | [],_,_,fs,h=>.inl ⟨rfl,fs,rfl,h⟩
 |a::xs,s0,s1,fs,h=>by
  rw[List.findSome?_cons];cases e:ok a with
  |none =>obtain⟨af,h1,ay,h2,h3⟩:=s0 a qB e fs h;rw[qi,Nr h1 h2];exact Ux hE xs (λa m=>s0 a (qf _ m)) (λa m=>s1 a (qf _ m)) ay h3
  |some c =>
   obtain⟨af,h1,h2⟩:=s1 a qB c e fs h;have h2:=h2;have hs:=hE _ _ h2;refine .inr ⟨c,rfl,?_⟩;rw[qi];have:DJ gt s (p a::xs.map p) fs=s af:=by rw[DJ,h1];cases e2:s af<;>rw[e2]at hs<;>first|exact hs.elim|simp only[e2]
   rw[this];exact h2
theorem E4{xs:List α}(hi:it fs=.ok (xs.map p) af)(ok:α->Option Str)(I:FS->Prop)(E:Str->SO->Prop)(hE:∀c so,E c so->Stop so)(h1:I af)(s0:∀a∈xs,ok a=none->∀fs,I fs->∃af,gt (p a) fs=some af/\Sat (λso=>∃ay,so=.nx ay/\I ay) (s af))(s1:∀a∈xs,∀c,ok a=some c->∀fs,I fs->∃af,gt (p a) fs=some af/\Sat (E c) (s af))(k0:xs.findSome? ok=none->∀fs,I fs->Sat Q (h fs))(k1:∀c,xs.findSome? ok=some c->∀so,E c so->Q so):Sat Q (Ak (BR it gt s) h fs):=by
 have ef:BR it gt s fs=DJ gt s (xs.map p) af:=GC hi rfl;rcases Ux hE xs s0 s1 af h1 with⟨e,ar,e1,e2⟩|⟨c,e,e1⟩
 .exact A2 (ef.trans e1) (k0 e ar e2)
 .have e1:=ef▸e1;rw[(hE _ _ e1).seq];exact k1 c e _ e1
theorem Q9{xs:List α}(hi:it fs=.ok (xs.map p) af)(ok:α->Option Str)(I:FS->Prop)(E:Str->SO->Prop)(hE:∀c so,E c so->Stop so)(h1:I af)(s0:∀a∈xs,ok a=none->∀fs,I fs->∃af,gt (p a) fs=some af/\Sat (λso=>∃ay,so=.nx ay/\I ay) (s af))(s1:∀a∈xs,∀c,ok a=some c->∀fs,I fs->∃af,gt (p a) fs=some af/\Sat (E c) (s af))(k0:xs.findSome? ok=none->∀fs,I fs->Q (.nx fs))(k1:∀c,xs.findSome? ok=some c->∀so,E c so->Q so):Sat Q (BR it gt s fs):=by
 have ef:BR it gt s fs=DJ gt s (xs.map p) af:=GC hi rfl;rcases Ux hE xs s0 s1 af h1 with⟨e,ar,e1,e2⟩|⟨c,e,e1⟩
 .rw[ef,e1];exact k0 e ar e2
 .exact k1 c e _ (ef▸e1)
end
end
theorem q_i(h:Q so):Sat Q so:=h
theorem Gg(h:Sat P so)(i:∀so,P so->Q so):Sat Q so:=i _ h
theorem q_o(h:Sat Q so):Q so:=h
inductive LK(fs:FS):List (FS->Out Rv)->Prop
 |nil:LK fs []
 |c {a:Str} {gs:List (FS->Out Rv)} (h:a.length<=1000) (r:LK fs gs):LK fs (gc (.str a)::gs)
 |r {i:Nat} {z:Str} {gs:List (FS->Out Rv)} (h:fs[i]?=some (vl (.str z))) (hz:A9 z=true) (r:LK fs gs):LK fs (Es (Aa i)::gs)
theorem LK.go(h:LK fs gs):∀av:Str,av.length+41000*gs.length<=900000->∃z,jsF gs av fs=.ok (.t (.str z)) fs:=by
 have ap:∀x y:Str,(x++y).length=x.length+y.length:=λx y=>by rw[AO,Ej,qv,<- AO,<- AO]
 induction h with
 |nil=>exact λav h=>⟨av,if_pos (show av.length<=1000000 by lia)⟩
 |@c a gs ha r ih =>intro av h;rw[qL]at h;have e:=ap av a;obtain⟨z,ez⟩:=ih (av++a) (by lia);exact⟨z,(if_pos (show(av++a).length<=1000000 by lia)).trans ez⟩
 |@r i y gs hi hy r ih =>
  intro av h;rw[qL]at h;have e:=ap av (reprText y);have hr:=HX hy;obtain⟨z,ez⟩:=ih (av++reprText y) (by lia);refine⟨z,?_⟩;have er:Es (Aa i) fs=.ok (.t (.str (reprText y))) fs:=by unfold Es;rw[As hi,Bu (x:=.t (.str y)) True.intro];exact if_pos hy
  unfold jsF;rw[er,Bu (x:=.t (.str (reprText y))) True.intro];exact(if_pos (show(av++reprText y).length<=1000000 by lia)).trans ez
section
variable{Q:SO->Prop}{fs:FS}{c:Str}{gs:List (FS->Out Rv)}{h:FS->SO}
theorem Jca(j:LK fs gs)(l:gs.length<=10):A0 c (Ab (jsF gs Str.empty) Ag) fs=.exc c fs:=by obtain⟨z,e⟩:=j.go Str.empty (by show 0+_<=_;lia);unfold A0;rw[BK e Dn];rfl
theorem q_js(j:LK fs gs)(l:gs.length<=10)(k:Sat Q (.exc c fs)):Sat Q (Ak (A0 c (Ab (jsF gs Str.empty) Ag)) h fs):=SM (Jca j l) k
theorem Jaz(j:LK fs gs)(l:gs.length<=10)(k:Sat Q (.exc c fs)):Sat Q (A0 c (Ab (jsF gs Str.empty) Ag) fs):=q_X (Jca j l) k
end
def Qs:List Str:=["NoName","NoMaker","NoFunction","BadCount","NotLess","BadKind"]
theorem Uc:CS false (.t (.str c)) (.t (.lst [.str "NoName",.str "NoMaker",.str "NoFunction",.str "BadCount",.str "NotLess",.str "BadKind"])) fs=.ok (.t (.v (decide (c∈Qs)))) fs:=Rz (xs:=Qs)
theorem MM(h:Lw c):c∉Qs:=λm=>by
 have key:∀c∈Qs,¬ ∀x∈cds c,97<=x/\x<=122:=by decide +kernel
 exact key c m h.al
theorem Ls(h:Lw x):A9 x=true:=by
 unfold A9;rw[qE];refine⟨qP (by rw[AO];have:=h.hi;lia),qZ.mpr λc m=>qP ?_⟩;have:=(h.al c m).2
 lia
def Om:List Str:=Qs++(["BadName","Twice","NoKind"]:List Str)
theorem NU(h:c∈Om):G6 [vl (.zI c)]=.ok (.t (.str c)) [vl (.zI c)]/\(xrs.contains c&&GA c "SayError")=true:=by simp only[Om,Qs,sv,sQ,qA,qW,or_false]at h;rcases h with rfl|rfl|rfl|rfl|rfl|rfl|rfl|rfl|rfl<;>exact⟨by rfl,by decide +kernel⟩
theorem ZI{α:Type}{xs:List α}{p:α->T}{n:Nat}{j:Int}{fs:FS}(hj:j=(n:Int))(h:n<=xs.length):Gs (.t (.lst (xs.map p))) none (some j) fs=.ok (.t (.lst ((xs.take n).map p))) fs:=by rw[hj,Sa (by rw[qe];exact h),sY]
theorem Vv(hg:g fs=.nx af):Q1 i cW g h fs=.nx af:=by unfold Q1;rw[hg]
section
variable{f fa:FS->Out Rv}{ga:FS->Out (List Rv)}{fs af ay bQ:FS}{i j:Nat}{ks:List Key}{ts:List T}{N:List (Str×Str)}{z:Str}{n:Int}{a b:T}{gt:T->FS->Option FS}{s h:FS->SO}{Q:SO->Prop}{c:FS->Out Bool}
section
variable{α:Type}{p:α->T}{I:List α->FS->Prop}{E:Str->SO->Prop}
def Ci(ok:List α->α->Option Str):List α->List α->Option Str
 |_,[]=>none
 |D,a::R=>match ok D a with|some c=>some c|none=>Ci ok (D++[a]) R
theorem Nu{ok:List α->α->Option Str}(hE:∀c so,E c so->Stop so){xs:List α}(s0:∀D a R fs,D++a::R=xs->ok D a=none->I D fs->∃af,gt (p a) fs=some af/\Sat (λso=>∃ay,so=.nx ay/\I (D++[a]) ay) (s af))(s1:∀D a R c fs,D++a::R=xs->ok D a=some c->I D fs->∃af,gt (p a) fs=some af/\Sat (E c) (s af)):∀(R D:List α)(fs:FS),D++R=xs->I D fs->(Ci ok D R=none/\∃ar,DJ gt s (R.map p) fs=.nx ar/\I xs ar)\/∃c,Ci ok D R=some c/\E c (DJ gt s (R.map p) fs)
 | [],D,fs,e,h=>.inl ⟨rfl,fs,rfl,by rw[qS]at e;exact e▸h⟩
 |a::R,D,fs,e,h=>by
  unfold Ci;cases eo:ok D a with
  |none =>obtain⟨af,h1,ay,h2,h3⟩:=s0 D a R fs e eo h;rw[qi,Nr h1 h2];exact Nu hE s0 s1 R (D++[a]) ay (by rw[qU];exact e) h3
  |some c =>
   obtain⟨af,h1,h2⟩:=s1 D a R c fs e eo h;have h2:=h2;have hs:=hE _ _ h2;refine .inr ⟨c,rfl,?_⟩;rw[qi];have:DJ gt s (p a::R.map p) fs=s af:=by rw[DJ,h1];cases e2:s af<;>rw[e2]at hs<;>first|exact hs.elim|simp only[e2]
   rw[this];exact h2
theorem J4{xs:List α}(hi:it fs=.ok (xs.map p) af)(ok:List α->α->Option Str)(I:List α->FS->Prop)(E:Str->SO->Prop)(hE:∀c so,E c so->Stop so)(h1:I [] af)(s0:∀D a R fs,D++a::R=xs->ok D a=none->I D fs->∃af,gt (p a) fs=some af/\Sat (λso=>∃ay,so=.nx ay/\I (D++[a]) ay) (s af))(s1:∀D a R c fs,D++a::R=xs->ok D a=some c->I D fs->∃af,gt (p a) fs=some af/\Sat (E c) (s af))(k0:Ci ok [] xs=none->∀fs,I xs fs->Sat Q (h fs))(k1:∀c,Ci ok [] xs=some c->∀so,E c so->Q so):Sat Q (Ak (BR it gt s) h fs):=by
 have ef:BR it gt s fs=DJ gt s (xs.map p) af:=GC hi rfl;rcases Nu hE s0 s1 xs [] af rfl h1 with⟨e,ar,e1,e2⟩|⟨c,e,e1⟩
 .exact A2 (ef.trans e1) (k0 e ar e2)
 .have e1:=ef▸e1;rw[(hE _ _ e1).seq];exact k1 c e _ e1
theorem Jj{xs:List α}(hi:it fs=.ok (xs.map p) af)(ok:List α->α->Option Str)(I:List α->FS->Prop)(E:Str->SO->Prop)(hE:∀c so,E c so->Stop so)(h1:I [] af)(s0:∀D a R fs,D++a::R=xs->ok D a=none->I D fs->∃af,gt (p a) fs=some af/\Sat (λso=>∃ay,so=.nx ay/\I (D++[a]) ay) (s af))(s1:∀D a R c fs,D++a::R=xs->ok D a=some c->I D fs->∃af,gt (p a) fs=some af/\Sat (E c) (s af))(k0:Ci ok [] xs=none->∀fs,I xs fs->Q (.nx fs))(k1:∀c,Ci ok [] xs=some c->∀so,E c so->Q so):Sat Q (BR it gt s fs):=by
 have ef:BR it gt s fs=DJ gt s (xs.map p) af:=GC hi rfl;rcases Nu hE s0 s1 xs [] af rfl h1 with⟨e,ar,e1,e2⟩|⟨c,e,e1⟩
 .rw[ef,e1];exact k0 e ar e2
 .exact k1 c e _ (ef▸e1)
end
end
theorem N8{i k:Nat}(hp:∀j,FL.placeOf fs j is 0=if j=i then some k else none)(ht:τ[k]?=some (some (.bor o))):∀(gs:FS)(j:Nat),(∀n s,gs[n]?=some s->j+n=i->s=some (.own o))->Hi fs is τ j gs=some gs
 | [],_,_=>by simp[Hi]
 |s::gs,j,h=>by
  have b1:FL.JP fs is τ j s=some s:=by
   unfold FL.JP;rw[hp j];by_cases q:j=i
   .rw[if_pos q,h 0 s rfl (by lia)];simp only[ht,FL.Sl.put]
   .rw[if_neg q]
  simp only[Hi,b1,(N8 hp ht gs (j+1) λn s e1 e2=>h (n+1) s (by simpa using e1) (by lia))]
theorem QY(h0:ga fs=.ok rs af)(hp:rs.length=p)(hi:af[i]?=some (some (.own o)))(hl:Dk af (rs.map AK)=[i])(hk:∀j,FL.placeOf af j (rs.map AK) 0=if j=i then some k else none)(hf:Fn (Bx af (rs.map AK))=.ok (.t t) τ)(ht:τ[k]?=some (some (.bor o))):Ac (Ai p Fn) ga fs=.ok (.t t) af :=
 KN h0 hp (by rw[hl];simp) hf (N8 hk ht af 0 λn s e1 e2=>by rw[Nat.zero_add]at e2;subst e2;rw[hi]at e1;exact(Option.some.inj e1).symm)
section
variable{i:Nat}{Fn:FS->Out Rv}{ga:FS->Out (List Rv)}{fs af τ:FS}{t a1 a2 a4:T}{o:FO}
theorem Rg(hi:af[i]?=some (some (.own o))):A4 af (.slot i)=some i:=by simp only[FL.A4,FL.AF,hi];rfl
theorem Jck(h0:ga fs=.ok [.t a1,.t a2,.n i,.t a4] af)(hi:af[i]?=some (some (.own o)))(hf:Fn [vl a1,vl a2,some (.bor o),vl a4]=.ok (.t t) τ)(ht:τ[2]?=some (some (.bor o))):Ac (Ai 4 Fn) ga fs=.ok (.t t) af:=by
 have e:=Rg hi;refine QY h0 rfl hi ?_ (λj=>?_) ?_ ht
 .show List.filterMap (A4 af) [.val a1,.val a2,.slot i,.val a4]=_;simp[e,show ∀a,A4 af (.val a)=none from λ_=>rfl]
 .show FL.placeOf af j [.val a1,.val a2,.slot i,.val a4] 0=_;simp[FL.placeOf,e,show ∀a,A4 af (.val a)=none from λ_=>rfl,eq_comm]
 .show Fn [vl a1,vl a2,PM af (.slot i),vl a4]=_;rw[show PM af (.slot i)=some (.bor o) by simp only[FL.PM,hi]];exact hf
theorem Jcl(h0:ga fs=.ok [.t a1,.t a2,.n i] af)(hi:af[i]?=some (some (.own o)))(hf:Fn [vl a1,vl a2,some (.bor o)]=.ok (.t t) τ)(ht:τ[2]?=some (some (.bor o))):Ac (Ai 3 Fn) ga fs=.ok (.t t) af:=by
 have e:=Rg hi;refine QY h0 rfl hi ?_ (λj=>?_) ?_ ht
 .show List.filterMap (A4 af) [.val a1,.val a2,.slot i]=_;simp[e,show ∀a,A4 af (.val a)=none from λ_=>rfl]
 .show FL.placeOf af j [.val a1,.val a2,.slot i] 0=_;simp[FL.placeOf,e,show ∀a,A4 af (.val a)=none from λ_=>rfl,eq_comm]
 .show Fn [vl a1,vl a2,PM af (.slot i)]=_;rw[show PM af (.slot i)=some (.bor o) by simp only[FL.PM,hi]];exact hf
end
section
seal Sat jsF Es A0 Rr Src Ak Av ifS retS Bb BR D3 Ae Aa gc fz Ad Ab Ag Ac Ai An Cz Ec Ln Bo asB FQ K8 JU orT tgN Aw Af K9 Au itU itZ itE itD LM EM slF chain DJ gEq Az CS BD C0 Ik Ao Bi fzR Jg JL GU Iq Cm C6 JK dput2 FV fzD Gs AD Bj DS GG slS
set_option hygiene false
nonrec def Zz7(y:String):Lean.MacroM Lean.Term:=match y with
|"!"=>`(by assumption)|"%"=>`(hr.mono (by first | decide | omega))|"&"=>`(by decide)|"#"=>`(by omega)|"$"=>`(by first | exact lk.lk | exact Lks.no)|"^"=>`(by decide +kernel)|"~"=>`(Rp rfl)|"="=>`(⟨by omega,by omega⟩)|"+"=>`(by first | exact T.zW | exact T.zL | exact T.zQ | exact T.zN | exact T.zK)|"*"=>`(by first | exact Or.inl rfl | exact Or.inr rfl)|"@"=>`(T.xt.t1 (by decide +kernel))|"<"=>`(Jb6 hr)|"?"=>`(?_)|"_"=>`(_)|_=>return Lean.mkIdent y.toName
nonrec def Zz8(x:String):Lean.MacroM (Lean.TSyntax `Lean.Parser.Tactic.tacticSeq):=do
 let a<-((x.drop 1).toString.splitOn ",").toArray.mapM Zz7
 let t:=Lean.Syntax.mkApp a[0]! (a.extract 1)
 match x.front with
 |'a'=>`(Lean.Parser.Tactic.tacticSeq|apply $t)|'e'=>`(Lean.Parser.Tactic.tacticSeq|exact $t)|_=>`(Lean.Parser.Tactic.tacticSeq|refine $t)
nonrec def Zz9(s:String):Lean.MacroM Lean.Syntax:=do
 let l<-(s.splitOn " ").toArray.mapM Zz8
 `(tactic|first $[|$l]*)
local macro_rules|`(tactic|infer_instance)=>`(tactic|(first|(refine(?_:¬ _);focus (decide +kernel))|(refine(?_:((_:Nat):Int)<=_);focus (first | lia | (simp;lia)))|(refine(?_:By _ _ _=_);assumption)|(refine(?_:_=Out.ok _ _);assumption)))
local macro_rules|`(tactic|infer_instance)=>Zz9 "es_k0 es_k1 es_k2"
local macro_rules|`(tactic|infer_instance)=>`(tactic|exact(rfl:D5 _=_))
local macro_rules|`(tactic|infer_instance)=>Zz9 "aZW aZY aZZ"
local macro_rules|`(tactic|infer_instance)=>`(tactic|(first|(refine(?_:JbQ _=_);rfl)|(refine(?_:_/\List.length _ < 900);exact⟨rfl,Nat.le_of_ble_eq_true rfl⟩)|(refine(?_:List.Nodup (List.map Prod.fst _));assumption)))
local macro_rules|`(tactic|infer_instance)=>Zz9 "eLK.nil aLK.c,& aLK.r,rfl"
local macro_rules|`(tactic|infer_instance)=>`(tactic|(first|(refine(?_:¬ _∈([]:List Str));exact qW)|(refine(?_:¬ _);assumption)))
local macro_rules|`(tactic|infer_instance)=>Zz9 "aZX"
local macro_rules|`(tactic|infer_instance)=>`(tactic|(refine(?_:List.map _ _=List.map _ _);rfl))
local macro_rules|`(tactic|infer_instance)=>Zz9 "eZO aR9"
local macro_rules|`(tactic|infer_instance)=>`(tactic|(first|exact .inr (.inl rfl)|(refine(?_:List.length _<=List.length _);focus (first | lia | (simp;lia)))|(refine(?_:_<=big);focus (show _<=1000000;first | lia | (simp;lia)))|(refine(?_:_<=((_:Nat):Int));focus (first | lia | (simp;lia)))))
local macro_rules|`(tactic|infer_instance)=>Zz9 "eso0 aso1 aso2,rfl"
local macro_rules|`(tactic|infer_instance)=>`(tactic|(refine(?_:(_:Bool)=false);focus (first | rfl | (simp [h1];done) | (simp [h];done) | (simp [hl];done))))
local macro_rules|`(tactic|infer_instance)=>Zz9 "ePL,^"
local macro_rules|`(tactic|infer_instance)=>`(tactic|(refine(?_:List.length _=_);first | rfl | focus (simp;done)))
local macro_rules|`(tactic|infer_instance)=>Zz9 "aQ8"
local macro_rules|`(tactic|infer_instance)=>`(tactic|(first|(refine(?_:_ < 1000000);focus (first | omega | (simp;omega)))|exact .inr rfl))
local macro_rules|`(tactic|infer_instance)=>Zz9 "aOy"
local macro_rules|`(tactic|infer_instance)=>`(tactic|exact .inl rfl)
local macro_rules|`(tactic|infer_instance)=>`(tactic|(refine(?_:_=_->Sat _ _);first | (focus (intro hb;exfalso;simp [ED] at hb;first | done | contradiction | omega)) | (focus (intro hb;exfalso;simp [h] at hb;done)) | (focus (intro hb;exfalso;simp [h1] at hb;done)) | (focus (intro hb;exfalso;simp [hv] at hb;done)) | intro hb))
local macro_rules|`(tactic|infer_instance)=>Zz9 "eNat.le_of_ble_eq_true,rfl"
local macro_rules|`(tactic|infer_instance)=>do
 let w1<-Zz9 "aVy eQ4,rfl,! ev_s0 ev_s1 ev_s2 ev_s3 ev_s4 ev_k0 ev_k1 ew_k0 ew_k1 ew_k2"
 `(tactic|(refine(?_:(_:Option _)=_);first|(refine(?_:atI _ _=_);assumption)|$(⟨w1⟩):tactic))
local macro_rules|`(tactic|infer_instance)=>do
 let w1<-Zz9 "eJae aJad eat0 aZx"
 let w2<-Zz9 "eFR,rfl,True.intro eFR,rfl,! eJ0,rfl,True.intro eat1 eat2 eJ0,rfl,! eQ4,rfl,True.intro aZv eZy"
 let w3<-Zz9 "eZC"
 `(tactic|(refine(?_:(_:Option _)=_);first|$(⟨w1⟩):tactic|(refine(?_:(_:FS)[(_:Nat)]?=_);rfl)|$(⟨w2⟩):tactic|(refine(?_:atI _ _=_);with_unfolding_all rfl)|$(⟨w3⟩):tactic))
local macro_rules|`(tactic|infer_instance)=>do
 let w1<-Zz9 "aVO aSd aSe"
 `(tactic|(refine(?_:(_:SO)=_);$(⟨w1⟩):tactic))
local macro_rules|`(tactic|infer_instance)=>do
 let w1<-Zz9 "aOx aJab,rfl aZ9 aZM eVB aQW aSb aQV aVG aVQ aCv aQX,rfl aNK aGC aVN aQX,rfl"
 `(tactic|(refine(?_:(_:SO)=_);$(⟨w1⟩):tactic))
local macro_rules|`(tactic|infer_instance)=>do
 let w1<-Zz9 "eJbg eJa2 eJa1 eninT,!"
 `(tactic|(refine(?_:(_:Out Rv)=_);first|exact JD ⟨by split <;> decide,by split <;> decide⟩|exact Us ⟨by decide,by decide +kernel⟩|$(⟨w1⟩):tactic))
local macro_rules|`(tactic|infer_instance)=>do
 let w1<-Zz9 "eVA,hj eVz,hj eVE eZD eZL aVF aSa aZR aZQ aZP aZ7 aY3 eNi,& eNi,="
 let w2<-Zz9 "eJE,="
 `(tactic|(refine(?_:(_:Out Rv)=_);first|$(⟨w1⟩):tactic|exact JE ⟨by decide,by decide⟩|$(⟨w2⟩):tactic))
local macro_rules|`(tactic|infer_instance)=>do
 let w1<-Zz9 "aJac eTY aXS aJbb eZ5 eZ4 aVH eZ6,rfl aSf aR8,rfl aJar aV7 eVD eVC eZI,hq,# eZA,hj,#"
 `(tactic|(refine(?_:(_:Out Rv)=_);$(⟨w1⟩):tactic))
local macro_rules|`(tactic|infer_instance)=>do
 let w1<-Zz9 "eJbc eJbd eJb5 ein_f eRy eUc"
 let w2<-Zz9 "eXC,~ eXB,~ eRz eVI aZK aSg eZ1,rfl eZ3 aVx"
 `(tactic|(refine(?_:(_:Out Rv)=_);first|$(⟨w1⟩):tactic|exact XC (Jb3 rfl)|$(⟨w2⟩):tactic))
local macro_rules|`(tactic|infer_instance)=>do
 let w1<-Zz9 "ex_dn aZV eGu,& eGu,# aJcj aJci aVM aSh aZS aVw,rfl eT4,rfl,! eUm,rfl,! ePC,rfl,! aEW eEg aVc"
 `(tactic|(refine(?_:(_:Out Rv)=_);$(⟨w1⟩):tactic))
local macro_rules|`(tactic|infer_instance)=>do
 let w1<-Zz9 "ax_c1 ax_c2 ax_c3 ax_c4 ax_c5 ax_c6 elen_str,rfl,! aZT ex_dt eGX,rfl eXT ePV,rfl eJbe ex_dl"
 `(tactic|(refine(?_:(_:Out Rv)=_);first|(refine(?_:Ac (Ai 4 BW) _ _=_);apply Jck)|(refine(?_:Ac (Ai 3 BH) _ _=_);apply Jcl)|$(⟨w1⟩):tactic))
local macro_rules|`(tactic|infer_instance)=>do
 let w1<-Zz9 "aJaa aSo aQD aTL"
 `(tactic|(refine(?_:(_:Out Bool)=_);$(⟨w1⟩):tactic))
local macro_rules|`(tactic|infer_instance)=>do
 let w1<-Zz9 "aWk"
 let w2<-Zz9 "aWj aD7 aq_js aJaz aq_ss"
 let w3<-Zz9 "aJaC aJaA aWl eZg"
 `(tactic|(refine(?_:Sat _ _);first|(refine(?_:Sat _ (Ak _ _ (List.set _ _ _)));apply Jax;focus (dsimp only [List.set_cons_zero,List.set_cons_succ,List.cons_append,List.nil_append,List.replicate_succ,List.replicate_zero,List.append_nil];try exact rfl))|$(⟨w1⟩):tactic|((first | refine(?_:Sat _ (Ak (ifS (asB _) _ _) _ _)) | refine(?_:Sat _ (Ak (ifS (FQ _) _ _) _ _)));apply CP)|$(⟨w2⟩):tactic|((first | refine(?_:Sat _ (Ak (Av _ _) _ _)) | refine(?_:Sat _ (Ak (Bb _) _ _)) | refine(?_:Sat _ (Ak (D3 _ _) _ _)) | refine(?_:Sat _ (Ak (Cm _ _ _) _ _)) | refine(?_:Sat _ (Ak (Iq _ _ _ _) _ _)) | refine(?_:Sat _ (Ak (C6 _ _ _ _ _) _ _)) | refine(?_:Sat _ (Ak (JK _ _ _ _) _ _)));apply A2)|$(⟨w3⟩):tactic|(refine(?_:Sat _ (.ret _ _));first | exact OV True.intro rfl | (apply OV;exact True.intro))|(refine(?_:Sat _ (.nx _));first | exact Jaw | exact Wm | apply SN)|((first | refine(?_:Sat _ (Av _ _ _)) | refine(?_:Sat _ (Bb _ _)) | refine(?_:Sat _ (D3 _ _ _)) | refine(?_:Sat _ (Cm _ _ _ _)) | refine(?_:Sat _ (Iq _ _ _ _ _)) | refine(?_:Sat _ (C6 _ _ _ _ _ _)) | refine(?_:Sat _ (dput2 _ _ _ _ _ _ _)));apply Wn)))
local macro_rules|`(tactic|infer_instance)=>`(tactic|(refine(?_:(_:Out (List Rv))=_);first | apply Qz | exact Dn | apply LU))
local macro_rules|`(tactic|infer_instance)=>do
 let w1<-Zz9 "eAs,rfl epow7"
 let w2<-Zz9 "aZ8 aZc eBU eOA aZU aVP eJb9 eUr eZ2"
 `(tactic|(refine(?_:(_:Out Rv)=_);first|$(⟨w1⟩):tactic|exact E5 18 (by decide)|exact E5 40 (by decide)|exact E5 41 (by decide)|$(⟨w2⟩):tactic))
local macro_rules|`(tactic|infer_instance)=>`(tactic|(refine(?_:_=_);with_reducible assumption))
local macro_rules|`(tactic|infer_instance)=>Zz9 "eTrue.intro"
local macro_rules|`(tactic|trivial)=>`(tactic|repeat infer_instance)
theorem CW(e:D++a::R=List.range c):a=D.length/\D.length<c:=by have h:=congrArg List.length e;simp at h;have:=congrArg (λl:List Nat=>l[D.length]?) e;simp only[rK (qz _),Nat.sub_self,sH]at this;rw[List.getElem?_range (by lia)]at this;exact⟨Option.some.inj this,by lia⟩
def lt:Nat->Int->List Nat
 |0,_=>[]
 |k+1,n=>(97+(n%26).toNat)::lt k (n/26)
theorem Gn:∀(k:Nat)(n:Int),(lt k n).length=k
 |0,_=>rfl
 |k+1,n=>by simp[lt,Gn k]
theorem Xn:∀(k:Nat)(n:Int),∀c∈lt k n,97<=c/\c<=122
 |0,_,_,m=>nomatch m
 |k+1,n,c,m=>by
  rcases qA.mp m with rfl|m
  .lia
  .exact Xn k _ c m
theorem TY{n:Int}:Az (.t (.str ("abcdefghijklmnopqrstuvwxyz":Str))) (.t (.int (n%26))) fs=.ok (.t (.str (ch (97+(n%26).toNat)))) fs:=by
 have key:∀j∈List.range 26,(cds ("abcdefghijklmnopqrstuvwxyz":Str))[j]?=some (97+j):=by decide +kernel
 have:=ixS (fs:=fs) (i:=(n%26).toNat) (by decide +kernel) (key _ (rX.mpr (by lia)));rwa[show(((n%26).toNat:Nat):Int)=n%26 by lia]at this
theorem TN(a b:List Nat):mkS a++mkS b=mkS (a++b):=Md ((Ej _ _).trans rfl)
theorem TX{n:Int}{k:Nat}(hk:k<=100):∃τ,Dh [iv n,iv k]=.ok (.t (.str (mkS (lt k n)))) τ:=by
 apply AU;trivial;apply BQ (I:=λ(D:List Nat) fs=>∃(m:Int)(z:List Nat)(y:Option Sl),fs=[iv m,iv k,vl (.str (mkS z)),y]/\Fre y/\z.length=D.length/\∀c,z++lt c m=lt (D.length+c) n) (xs:=List.range k) (p:=λi=>.int (i:Nat))
 case hi =>
  trivial
  .rfl
  .lia
 case h0=>exact⟨n,[],none,by rw[show mkS []=("":Str)from NH.symm],True.intro,rfl,λc=>by simp⟩
 case st =>
  rintro D i R _ e ⟨m,z,y,rfl,f,lz,hz⟩
  have:=CW e;trivial
  .apply G3;show z.length+1<=1000000
   lia
  trivial;exact⟨m/26,z++[97+(m%26).toNat],_,by rw[<- TN];rfl,Al,by simp[lz],λc=>by have:=hz (c+1);rw[qU,qv,qT,Nat.add_assoc,Nat.add_comm 1 c];exact this⟩
 case k =>
  rintro _ ⟨m,z,y,rfl,f,lz,hz⟩
  have:=hz 0;rw[lt,qS,rH]at this;subst this;trivial
theorem JR{α:Type}{P:Nat->α->Prop}{l:List α}{x:α}(h:∀(j:Nat) t,l[j]?=some t->P j t)(hx:P l.length x):∀(j:Nat) t,(l++[x])[j]?=some t->P j t:=λj t ht=>by
 rcases Nat.lt_trichotomy j l.length with q|q|q
 .rw[sk q]at ht;exact h j t ht
 .subst q;rw[List.getElem?_concat_length]at ht;cases ht;exact hx
 .rw[rN (by simp;lia)]at ht;cases ht
structure Wd1(p q:Nat)(s:Str):Prop where
 lw:Lw s
 at_:(cds s)[p]?=some q
theorem Jaf{p i j:Nat}{n:Int}(h1:Wd1 p (97+(((i:Int)+n)%26).toNat) s)(h2:Wd1 p (97+(((j:Int)+n)%26).toNat) t)(hi:i<26)(hj:j<26)(h:i≠j):s≠t:=λe=>by
 subst e;have:=h1.at_.symm.trans h2.at_;simp only[Option.some.injEq]at this
 lia
theorem V7{i:Nat}{j:Int}(h1:f fs=.ok (.t (.str z)) fs)(h2:g fs=.ok (.t (.int j)) fs)(hj:j=(i:Int))(hz:(cds z).length<=1000):slS f (AB g) noP fs=.ok (.t (.str (mkS ((cds z).drop i)))) fs:=Jas h1 (hj▸h2) hz
theorem pow7:Ae JC (gc (.int 7919)) (gc (.int 4)) fs=.ok (.t (.int (7919^4))) fs:=by unfold Ae gc;show(if 0<=(4:Int)/\(4:Int)<=1000000/\(7919:Int).natAbs<2^64 then okT (.int (7919^(4:Int).toNat)) fs else .bad)=_;rfl
theorem words(n:Int){c:Nat}(hc:c<=100):∃(p:Nat)(vs:List Str)(τ:FS),vs.length=c/\(∀(j:Nat) s,vs[j]?=some s->Wd1 p (97+(((j:Int)+n)%26).toNat) s)/\BI [iv n,iv c]=.ok (.nw (.lst (vs.map T.str))) τ:=by
 obtain⟨p,hp⟩:∃p:Nat,n%8=(p:Int):=⟨(n%8).toNat,by lia⟩
 obtain⟨m,fD,cL⟩:∃m:Nat,n/24%(12-(p:Int))=(m:Int)/\p+1+m<=12:=by have h1:=sJ (n/24) (show(12-(p:Int))≠0 by lia);have h2:=sd (n/24) (show 0<(12-(p:Int)) by lia);exact⟨(n/24%(12-(p:Int))).toNat,by lia,by lia⟩
 suffices h:∃o τ,BI [iv n,iv c]=.ok (.nw o) τ/\∃vs:List Str,o=.lst (vs.map .str)/\vs.length=c/\∀(j:Nat) s,vs[j]?=some s->Wd1 p (97+(((j:Int)+n)%26).toNat) s by obtain⟨_,τ,e,vs,rfl,a,b⟩:=h;exact⟨p,vs,τ,a,b,e⟩
 have oJ:∀o:Int,∃τ,Dh [iv o,iv ((p:Int)+1+n/24%(12-(p:Int)))]=.ok (.t (.str (mkS (lt (p+1+m) o)))) τ:=λo=>by rw[fD,show(p:Int)+1+(m:Int)=((p+1+m:Nat):Int) by lia];exact TX (by lia)
 apply J3;unfold KQ;trivial;apply BQ (I:=λ(D:List Nat) fs=>∃(vs:List Str)(y4 y5 y6 y7:Option Sl),fs=[iv n,iv c,iv p,some (.own (.lst (vs.map .str))),y4,y5,y6,y7]/\Fre y4/\Fre y5/\Fre y6/\Fre y7/\vs.length=D.length/\∀(j:Nat) s,vs[j]?=some s->Wd1 p (97+(((j:Int)+n)%26).toNat) s) (xs:=List.range c) (p:=λi=>.int (i:Nat))
 case hi =>
  trivial
  .rfl
  .lia
 case h0=>exact⟨[],none,none,none,none,by rw[hp];rfl,True.intro,True.intro,True.intro,True.intro,rfl,λj s h=>by simp at h⟩
 case st =>
  rintro D k R _ e ⟨vs,y4,y5,y6,y7,rfl,f4,f5,f6,f7,lv,hv⟩
  have rm:=CW e;have lj:(k:Int)*k<10000:=by
   have:k*k<=99*99:=Nat.mul_le_mul (by lia) (by lia);have e:(k:Int)*k=((k*k:Nat):Int):=by simp
   lia
  have pL:0<=(k:Int)*k:=Int.mul_nonneg (by lia) (by lia);have ln:∀l:List Nat,(mkS l).length=l.length:=λl=>AO (mkS l)
  trivial
  .exact(λo=>(oJ o).choose_spec) _
  trivial
  .show p<=(lt (p+1+m) _).length;rw[Gn];lia
  .show(lt (p+1+m) _).length<=_;rw[Gn];lia
  trivial
  .apply G3;rw[ln,ln,qY];show _+1<=1000000;lia
  trivial
  .show(p:Int)+1=((p+1:Nat):Int);lia
  .show(lt (p+1+m) _).length<=_;rw[Gn];lia
  trivial
  .apply G3;rw[AO,Ej,qv,ln,rV];show(List.take p _).length+1+((lt (p+1+m) _).length-_)<=1000000;rw[qY,Gn];lia
  trivial;generalize hw:lt (p+1+m) _=w;have lw:w.length=p+1+m:=by rw[<- hw,Gn]
  have al:∀c∈w,97<=c/\c<=122:=by rw[<- hw];exact Xn _ _
  have ht:(w.take p).length=p:=by rw[qY];lia
  refine⟨vs++[mkS (w.take p)++mkS [97+((k+n)%26).toNat]++mkS (w.drop (p+1))],_,_,_,_,by rw[qh];rfl,Al,Al,Al,Al,by simp[lv],JR hv ?_⟩;rw[lv,<- rm.1];have cs:cds (mkS (w.take p)++mkS [97+((k+n)%26).toNat]++mkS (w.drop (p+1)))=w.take p++[97+((k+n)%26).toNat]++w.drop (p+1):=by rw[Ej,Ej]
  refine⟨⟨?_,?_,λc hc=>?_⟩,?_⟩
  .rw[cs];simp;lia
  .rw[cs,qv,qv,ht,rV];show p+1+_<=12;lia
  .rw[cs]at hc;rcases qd.mp hc with hc|hc
   .rcases qd.mp hc with hc|hc
    .exact al c (rq hc)
    .rw[qj.mp hc];lia
   .exact al c (rQ hc)
  .rw[cs,qU,rK (by lia),ht,Nat.sub_self];rfl
 case k =>
  rintro _ ⟨vs,y4,y5,y6,y7,rfl,f4,f5,f6,f7,lv,hv⟩
  rw[rH]at lv;trivial;exact Zh rfl ⟨vs,rfl,lv,hv⟩
structure Rw1(ks ws:List Str)(a k:Nat)(r:Str×List Str):Prop where
 nm:ws[4*a+k]?=some r.1
 two:r.2.length<=2
 zd:∀x∈r.2,x∈ks.take (if k=0 then a else ks.length)
def Rws(ks ws:List Str)(a:Nat)(rs:List (Str×List Str)):Prop:=∀(j:Nat) r,rs[j]?=some r->Rw1 ks ws a j r
structure Kd1(ks ws:List Str)(a:Nat)(kd:Str×List (Str×List Str)):Prop where
 nm:ks[a]?=some kd.1
 lo:2<=kd.2.length
 hi:kd.2.length<=4
 rw:Rws ks ws a kd.2
structure Wds(n:Int)(vs:List Str):Prop where
 ex:∃p,∀(j:Nat) s,vs[j]?=some s->Wd1 p (97+(((j:Int)+n)%26).toNat) s
theorem WV(h1:f fs=.ok (.t (.v a)) fs)(h2:g fs=.ok (.t (.v b)) fs):orV f g fs=.ok (.t (.v (a||b))) fs:=by unfold orV;rw[h1];cases a with|true=>rfl|false=>exact h2
theorem kinds(ns:List Int):∃(K:Kd)(ks ws:List Str)(n m:Int),1<=ks.length/\ks.length<=3/\ws.length=16/\Wds n ks/\Wds m ws/\K.length=ks.length/\(∀(j:Nat) kd,K[j]?=some kd->Kd1 ks ws j kd) /\
  (∃τ,BI [iv m,iv 16]=.ok (.nw (.lst (ws.map T.str))) τ)/\(∃τ,BS [iv (ns.getD 2 0),iv 3]=.ok (.t (.int m)) τ) /\
  ∃τ,EO [vl (.z0 (ns.map T.int))]=.ok (.nw (.lst (K.map Bq))) τ:=by
 have c1:=CG ns 1;have c2:=CG ns 2;obtain⟨v,_,e1⟩:=mix (ns.getD 1 0) (k:=1) (by lia);obtain⟨n,_,e2⟩:=mix (ns.getD 2 0) (k:=2) (by lia);obtain⟨m,gU,e3⟩:=mix (ns.getD 2 0) (k:=3) (by lia);obtain⟨c,hc,evc⟩:∃c:Nat,c<3/\v%3=(c:Int):=⟨(v%3).toNat,by lia,by lia⟩
 obtain⟨p,ks,_,k1,k2,k3⟩:=words n (c:=1+c) (by lia);obtain⟨q,ws,pB,w1,w2,w3⟩:=words m (c:=16) (by lia)
 suffices h:∃o τ,EO [vl (.z0 (ns.map T.int))]=.ok (.nw o) τ/\∃K:Kd,o=.lst (K.map Bq)/\K.length=ks.length/\∀(j:Nat) kd,K[j]?=some kd->Kd1 ks ws j kd by obtain⟨_,τ,e,K,rfl,a,b⟩:=h;exact⟨K,ks,ws,n,m,by lia,by lia,w1,⟨p,k2⟩,⟨q,w2⟩,a,b,⟨pB,w3⟩,⟨gU,e3⟩,τ,e⟩
 rw[show((1+c:Nat):Int)=1+v%3 by lia]at k3;apply J3;unfold KU;trivial;apply BQ (I:=λ(D:List Nat) fs=>∃(K:Kd)(y5 y6 y7 y8 y9 aQ:Option Sl),fs=[vl (.z0 (ns.map T.int)),iv (1+v%3),vl (.lst (ks.map .str)),vl (.lst (ws.map .str)),some (.own (.lst (K.map Bq))),y5,y6,y7,y8,y9,aQ]/\(Fre y5/\Fre y6/\Fre y7/\Fre y8/\Fre y9/\Fre aQ)/\K.length=D.length/\∀(j:Nat) kd,K[j]?=some kd->Kd1 ks ws j kd) (xs:=List.range (1+c)) (p:=λi=>.int (i:Nat))
 case hi =>
  trivial
  .lia
  .lia
 case h0=>exact⟨[],none,none,none,none,none,none,rfl,⟨True.intro,True.intro,True.intro,True.intro,True.intro,True.intro⟩,rfl,λj s h=>by simp at h⟩
 case st =>
  rintro D a R _ e ⟨K,y5,y6,y7,y8,y9,aQ,rfl,⟨f5,f6,f7,f8,f9,bB⟩,lK,hK⟩
  have rm:=CW e;have ca:=CG ns (3+a);rw[show((3+a:Nat):Int)=3+(a:Int) by lia]at ca;obtain⟨nu,_,ea⟩:=mix (ns.getD (3+a) 0) (k:=4) (by lia);obtain⟨c2,cz,aU⟩:∃c:Nat,(2<=c/\c<=4)/\2+nu%3=(c:Int):=⟨(2+nu%3).toNat,by lia,by lia⟩
  trivial;apply BQ (I:=λ(Z:List Nat) fs=>∃(num:Int)(rs:List (Str×List Str))(y8 y9 aQ:Option Sl),fs=[vl (.z0 (ns.map T.int)),iv (1+v%3),vl (.lst (ks.map .str)),vl (.lst (ws.map .str)),some (.own (.lst (K.map Bq))),iv a,iv num,some (.own (.lst (rs.map Dv))),y8,y9,aQ]/\(Fre y8/\Fre y9/\Fre aQ)/\rs.length=Z.length/\Rws ks ws a rs) (xs:=List.range c2) (p:=λi=>.int (i:Nat))
  case hi =>
   trivial
   lia
  case h0=>exact⟨_,[],_,_,_,rfl,⟨f8,f9,bB⟩,rfl,λj s h=>by simp at h⟩
  case st =>
   rintro Z k R2 _ e2 ⟨num,rs,y8,y9,aQ,rfl,⟨f8,f9,bB⟩,lr,hr⟩
   have o7:=CW e2;obtain⟨c3,hc3,ec3⟩:∃c3:Nat,(c3<=2/\(a=0->k=0->c3=0))/\num/3%3*(if(decide ((0:Int)<a)||decide ((0:Int)<k))=true then 1 else 0)=(c3:Int):=by
    by_cases h:a=0/\k=0
    .exact⟨0,⟨by lia,λ_ _=>rfl⟩,by simp[h.1,h.2]⟩
    .refine⟨(num/3%3).toNat,⟨by lia,λp q=>absurd ⟨p,q⟩ h⟩,?_⟩;rw[if_pos (by rw[sg,decide_eq_true_iff,decide_eq_true_iff];lia)]
     lia
   obtain⟨m2,cL⟩:∃m2,m2=if k=0 then a else ks.length:=⟨_,rfl⟩
   have am:atI [T.int (1+v%3),T.int a] (if decide ((k:Int)=0)=true then 1 else 0)=some (.int (m2:Nat)):=by
    by_cases h:k=0
    .rw[cL,if_pos h,if_pos (by simp[h])];exact at1
    .rw[cL,if_neg h,if_neg (by simp[h]),show((ks.length:Nat):Int)=1+v%3 by lia];exact at0
   have ww:ws[4*a+k]?=some ws[4*a+k]:=qb (by lia);have aw:atI (ws.map T.str) (4*(a:Int)+k)=some (.str ws[4*a+k]):=by rw[show 4*(a:Int)+k=((4*a+k:Nat):Int) by lia];exact A6 (by rw[qH,ww];rfl)
   trivial;apply BQ (I:=λ(Y:List Nat) fs=>∃(nu:Int)(ps:List Str)(aQ:Option Sl),fs=[vl (.z0 (ns.map T.int)),iv (1+v%3),vl (.lst (ks.map .str)),vl (.lst (ws.map .str)),some (.own (.lst (K.map Bq))),iv a,iv nu,some (.own (.lst (rs.map Dv))),iv k,some (.own (.lst (ps.map .str))),aQ]/\Fre aQ/\ps.length=Y.length/\∀x∈ps,x∈ks.take m2) (xs:=List.range c3) (p:=λi=>.int (i:Nat))
   case hi =>
    trivial
    .apply WV;trivial
    trivial
    lia
   case h0=>exact⟨_,[],_,rfl,bB,rfl,λ_ h=>nomatch h⟩
   case st =>
    rintro Y i R3 _ e3 ⟨nu,ps,aQ,rfl,bB,lp,hp⟩
    have pY:=CW e3;have hm:1<=m2/\m2<=ks.length:=by rw[cL];split<;>lia
    obtain⟨x,mx,ex⟩:∃x∈ks.take m2,atI (ks.map T.str) (nu/3%(m2:Int))=some (.str x):=by
     have g1:=sJ (nu/3) (show(m2:Int)≠0 by lia);have g2:=sd (nu/3) (show(0:Int)<m2 by lia);have hi:(nu/3%(m2:Int)).toNat<ks.length:=by lia
     refine⟨ks[(nu/3%(m2:Int)).toNat],sT.mpr ⟨(nu/3%(m2:Int)).toNat,by lia,rfl⟩,?_⟩;have:=A6 (xs:=ks.map T.str) (j:=(nu/3%(m2:Int)).toNat) (by rw[qH,qb hi];rfl);rwa[show(((nu/3%(m2:Int)).toNat:Nat):Int)=nu/3%(m2:Int) by lia]at this
    trivial;exact⟨_,ps++[x],_,by rw[qh];rfl,Al,by simp[lp],λz mz=>(qd.mp mz).elim (hp z) λh=>by rw[qj.mp h];exact mx⟩
   case k =>
    rintro _ ⟨nu,ps,aQ,rfl,bB,lp,hp⟩
    rw[rH]at lp;trivial;exact⟨_,rs++[(ws[4*a+k],ps)],_,some (.own (.lst (ps.map .str))),_,by rw[qh];rfl,⟨Al,True.intro,bB⟩,by simp[lr],JR hr (by rw[lr,<- o7.1];exact⟨ww,by show ps.length<=2;lia,by rw[<- cL];exact hp⟩)⟩
  case k =>
   rintro _ ⟨num,rs,y8,y9,aQ,rfl,⟨f8,f9,bB⟩,lr,hr⟩
   rw[rH]at lr;have ha:ks[a]?=some ks[a]:=qb (by lia);have a1:atI (ks.map T.str) (a:Int)=some (.str ks[a]):=A6 (by rw[qH,ha];rfl);trivial;exact⟨K++[(ks[a],rs)],_,_,_,_,_,_,by rw[qh];rfl,⟨Al,Al,Al,f8,f9,bB⟩,by simp[lK],JR hK (by rw[lK,<- rm.1];exact⟨ha,by show 2<=rs.length;lia,by show rs.length<=4;lia,hr⟩)⟩
 case k =>
  rintro _ ⟨K,y5,y6,y7,y8,y9,aQ,rfl,⟨f5,f6,f7,f8,f9,bB⟩,lK,hK⟩
  rw[rH]at lK;trivial;exact Zh rfl ⟨K,rfl,by lia,hK⟩
theorem Q7{A:FS->Prop}(k:Sat (λso=>∃τ,so=.nx τ/\A (τ.take args.length)) (s (args++List.replicate n none))):∃τ,Be n s args=.ok (.t .l) τ/\A τ:=by unfold Sat at k;obtain⟨τ,e,a⟩:=k;exact⟨_,by unfold Be;rw[e],a⟩
section
variable{K:Kd}
theorem Xk(e:D++kd::R=K)(nd:(K.map (·.1)).Nodup):(.inr kd.1:Key)∉D.map λkd=>(.inr kd.1:Key):=λm=>by obtain⟨z,mz,ez⟩:=qm.mp m;rw[<- e,qh,qi]at nd;exact(qc.mp nd).2.2 z.1 (qm.mpr ⟨z,mz,rfl⟩) kd.1 qB (Sum.inr.inj ez)
theorem MP{α:Type}{xs D R:List α}{a:α}(e:D++a::R=xs):D.length<xs.length/\a∈xs:=by rw[<- e];simp
theorem IF(W:Well K):∃τ,CD [vl (.lst (K.map Bq))]=.ok (.t .l) τ:=by
 have h1:=W.lo;have h4:=W.hi;apply HF;trivial;apply HG (I:=λ(D:Kd) fs=>∃(vs:List T)(y2 y3:Option Sl),fs=[vl (.lst (K.map Bq)),some (.own (.o (D.map λkd=>.inr kd.1) vs)),y2,y3]/\Fre y2/\Fre y3)
 case hi=>trivial
 case h0=>exact⟨_,_,_,rfl,True.intro,True.intro⟩
 case st =>
  rintro D kd R _ e ⟨vs,y2,y3,rfl,f2,f3⟩
  have le:=MP e;have hn:=W.nm kd le.2;have hr:=W.rw kd le.2;have nk:=Xk e W.nd;have nv:=BY (ts:=vs) nk;trivial
  .simp[nv]
  trivial;exact⟨_,_,_,by rw[qh];rfl,Al,Al⟩
 case k =>intro fs h;trivial
theorem IE{ps names:List Str}(hn:A5 [vl (.str m)]=.ok (.t (.v true)) [vl (.str m)])(hk:(.inr m:Key)∉ks)(h2:ps.length<=2)(hp:∀p∈ps,p∈names):∃τ,BW [vl (.str m),vl (.tup (ps.map .str)),some (.bor (.o ks vs)),vl (.lst (names.map .str))]=.ok (.t .l) τ/\τ[2]?=some (some (.bor (.o ks vs))):=by
 apply Q7;trivial
 .simp[(BY (ts:=vs) hk)]
 trivial
 .simp;lia
 trivial;apply Ra (Pe:=λu=>∃p,u=.str p/\p∈names) (I:=λfs=>∃y4,fs=[vl (.str m),vl (.tup (ps.map .str)),some (.bor (.o ks vs)),vl (.lst (names.map .str)),y4]/\Fre y4)
 case hi=>trivial
 case h0=>exact λu mu=>let⟨p,mp,e⟩:=qm.mp mu;⟨p,e.symm,hp p mp⟩
 case h1=>exact⟨_,rfl,True.intro⟩
 case st =>
  rintro _ _ ⟨p,rfl,mp⟩ ⟨y4,rfl,f4⟩
  trivial
  .simp[mp]
  trivial;exact⟨_,rfl,Al⟩
 case k =>
  rintro _ ⟨y4,rfl,f4⟩
  apply SN;rfl
end
section
variable{K:Kd}
theorem He{ps names:List Str}(hp:∀p∈ps,p∈names):∃τ,BH [vl (.str m),vl (.tup (ps.map .str)),some (.bor (.lst (names.map .str)))]=.ok (.t .l) τ/\τ[2]?=some (some (.bor (.lst (names.map .str)))):=by
 apply Q7;apply Ra (Pe:=λu=>∃p,u=.str p/\p∈names) (I:=λfs=>∃y4,fs=[vl (.str m),vl (.tup (ps.map .str)),some (.bor (.lst (names.map .str))),y4]/\Fre y4)
 case hi=>trivial
 case h0=>exact λu mu=>let⟨p,mp,e⟩:=qm.mp mu;⟨p,e.symm,hp p mp⟩
 case h1=>exact⟨_,rfl,True.intro⟩
 case st =>
  rintro _ _ ⟨p,rfl,mp⟩ ⟨y4,rfl,f4⟩
  trivial
  .simp[mp]
  trivial;exact⟨_,rfl,Al⟩
 case k =>
  rintro _ ⟨y4,rfl,f4⟩
  apply SN;rfl
theorem Hd(W:Well K):∃τ,Cg [vl (.lst (K.map Bq))]=.ok (.t .l) τ:=by
 have h4:=W.hi;apply HF;unfold Dr;trivial
 .apply Hc
  .trivial
  .trivial
  .exact λ_=>rfl
  .intro r mr;trivial
  .lia
 rw[show(K.map λkd=>T.str kd.1)=(K.map (·.1)).map T.str by rw[qO];rfl];trivial;apply HG (I:=λ(D:Kd) fs=>∃(vs:List T)(y4 y5 y6 y7 y8:Option Sl),fs=[vl (.lst (K.map Bq)),vl (.lst ((K.map (·.1)).map .str)),some (.own (.lst ((D.map (·.1)).map .str))),some (.own (.o (BC D) vs)),y4,y5,y6,y7,y8]/\Fre y4/\Fre y5/\Fre y6/\Fre y7/\Fre y8)
 case hi=>trivial
 case h0=>exact⟨[],none,none,none,none,none,rfl,True.intro,True.intro,True.intro,True.intro,True.intro⟩
 case st =>
  rintro D kd R _ e ⟨vs,y4,y5,y6,y7,y8,rfl,f4,f5,f6,f7,f8⟩
  obtain⟨w1,w2,w3,w4⟩:=W.part e;have le:=MP e;obtain⟨r0,rt,er⟩:=List.exists_cons_of_length_pos (W.rw kd w3).1;have a0:atI (kd.2.map Dv) 0=some (Dv r0):=by rw[er];exact at0
  trivial;apply BQ (I:=λ(Z:List (Str×List Str)) fs=>∃(vs:List T)(y7 y8:Option Sl),fs=[vl (.lst (K.map Bq)),vl (.lst ((K.map (·.1)).map .str)),some (.own (.lst ((D.map (·.1)).map .str))),some (.own (.o (BC D++Z.map Oj) vs)),vl (.str kd.1),vl (.lst (kd.2.map Dv)),vl (.str r0.1),y7,y8]/\Fre y7/\Fre y8) (xs:=kd.2) (p:=Dv)
  case hi=>trivial
  case h0=>exact⟨vs,y7,y8,by rw[sf,qS],f7,f8⟩
  case st =>
   rintro Z r Y _ e2 ⟨vs,y7,y8,rfl,f7,f8⟩
   have dR:=MP e2;have nk:(.inr r.1:Key)∉BC D++Z.map Oj:=by rw[<- e2,qh,qi,<- qU]at w1;exact λm=>(qc.mp w1).2.2 _ m _ qB rfl
   obtain⟨_,c1,c2⟩:=IE (vs:=vs) (W.xV _ (Ed w3 dR.2)) nk (W.two kd w3 r dR.2) (W.zd kd w3 r dR.2);have cg:decide (r.1=r0.1)=true->_:=λh=>He (m:=r.1) (ps:=r.2) (names:=D.map (·.1)) (W.gr D kd R e.symm r (by rw[er,OS w4 dR.2 (by rw[er];exact qB) (qG h)];rfl))
   trivial
   .exact(cg hb).choose_spec.1
   .exact(cg hb).choose_spec.2
   trivial
   .exact⟨_,_,_,by rw[qh,<- qU];rfl,Al,Al⟩
   trivial;exact⟨_,_,_,by rw[qh,<- qU];rfl,Al,Al⟩
  case k =>
   rintro _ ⟨vs,y7,y8,rfl,f7,f8⟩
   trivial;exact⟨vs,_,_,_,_,_,by rw[qh,qh,Eb];rfl,Al,Al,Al,f7,f8⟩
 case k =>intro fs h;trivial
end
abbrev TF:List Str:=["makers_by_kind","parts_by_maker","home_by_maker"]
theorem Ma:(("parts_by_maker":Str) == "makers_by_kind")=false/\(("home_by_maker":Str) == "makers_by_kind")=false/\(("home_by_maker":Str) == "parts_by_maker")=false:=by decide +kernel
section
variable{a b c:T}{x y z w:FO}
theorem v_k0:FK TF [a,b,c] "makers_by_kind"=some a:=by simp[FK]
theorem v_k1:FK TF [a,b,c] "parts_by_maker"=some b:=by simp[FK,Ma]
theorem w_k0:Bw TF [x,y,z] "makers_by_kind"=some x:=by simp[Bw]
theorem w_k1:Bw TF [x,y,z] "parts_by_maker"=some y:=by simp[Bw,Ma]
theorem w_k2:Bw TF [x,y,z] "home_by_maker"=some z:=by simp[Bw,Ma]
theorem s_k0:BZ TF [x,y,z] "makers_by_kind" w=[w,y,z]:=by simp[BZ]
theorem s_k1:BZ TF [x,y,z] "parts_by_maker" w=[x,w,z]:=by simp[BZ,Ma]
theorem s_k2:BZ TF [x,y,z] "home_by_maker" w=[x,y,w]:=by simp[BZ,Ma]
end
section
variable{K:Kd}{C:Addr}
theorem Jd(W:Well K):∃τ,C3 C [some (.bor (.ins C [] [])),vl (.lst (K.map Bq))]=.ok (.t .l) (some (.bor (Q3 C K (Dz K)))::τ):=by
 obtain⟨_,k1⟩:=IF W;obtain⟨_,k2⟩:=Hd W;have h4:=W.hi;apply Jay;unfold Ex;trivial;apply HG (I:=λ(D:Kd) fs=>∃y2 y3 y4 y5,fs=[some (.bor (.ins C TF [.o (EC D) (HZ D),.o (BC D) (Mv D),.o (BC D) (Dz D)])),vl (.lst (K.map Bq)),y2,y3,y4,y5]/\Fre y2/\Fre y3/\Fre y4/\Fre y5) (p:=Bq)
 case hi=>trivial
 case h0=>exact⟨none,none,none,none,rfl,True.intro,True.intro,True.intro,True.intro⟩
 case st =>
  rintro D kd R _ e ⟨y2,y3,y4,y5,rfl,f2,f3,f4,f5⟩
  obtain⟨w1,w2,w3,w4⟩:=W.part e;have le:=MP e;have nk:(.inr kd.1:Key)∉EC D:=Xk e W.nd;have lk:(EC D).length<1000:=by unfold EC;rw[qe];lia
  trivial
  .apply Hc
   .trivial
   .trivial
   .exact λ_=>rfl
   .intro r mr;trivial
   .lia
  trivial;apply HG (I:=λ(Z:List (Str×List Str)) fs=>∃y4 y5,fs=[some (.bor (.ins C TF [.o (EC D++[.inr kd.1]) (HZ D++[.lst (kd.2.map λr=>.str r.1)]),.o (BC D++Z.map Oj) (Mv D++Vo Z),.o (BC D++Z.map Oj) (Dz D++Lv kd.1 Z)])),vl (.lst (K.map Bq)),vl (.str kd.1),vl (.lst (kd.2.map Dv)),y4,y5]/\Fre y4/\Fre y5) (xs:=kd.2) (p:=Dv)
  case hi=>trivial
  case h0=>exact⟨y4,y5,by unfold Vo Lv;rw[sf,sf,sf,qS,qS,qS];rfl,f4,f5⟩
  case st =>
   rintro Z r Y _ e2 ⟨y4,y5,rfl,f4,f5⟩
   have dR:=MP e2;have nr:(.inr r.1:Key)∉BC D++Z.map Oj:=by rw[<- e2,qh,qi,<- qU]at w1;exact λm=>(qc.mp w1).2.2 _ m _ qB rfl
   trivial;exact⟨_,_,by unfold Vo Lv;rw[qh,qh,qh,<- qU,<- qU,<- qU];rfl,Al,Al⟩
  case k =>
   rintro _ ⟨y4,y5,rfl,f4,f5⟩
   trivial;exact⟨_,_,_,_,by rw[Eb,Mt,show Dz (D++[kd])=Dz D++Lv kd.1 kd.2 by simp[Dz],show EC (D++[kd])=EC D++[.inr kd.1]from qh,show HZ (D++[kd])=HZ D++[.lst (kd.2.map λr=>.str r.1)] by unfold HZ;rw[qh];simp],Al,Al,f4,f5⟩
 case k =>
  rintro _ ⟨y2,y3,y4,y5,rfl,f2,f3,f4,f5⟩
  exact Wm
theorem Hz:∃τ,Bt C [vl (CM C K hs)]=.ok (.nw (.lst ((K.map (·.1)).map .str))) τ:=by
 obtain⟨r,τ,e,rfl⟩:∃r τ,Bt C [vl (CM C K hs)]=.ok r τ/\r=.nw (.lst ((EC K).map Oi)):=by apply E3;apply Wl;apply VL;trivial
 exact⟨τ,by rw[e];unfold EC;rw[qO,qO];rfl⟩
theorem D6(W:Well K)(m:kd∈K):∃τ,AS C [vl (CM C K hs),vl (.str kd.1)]=.ok (.nw (.lst ((kd.2.map (·.1)).map .str))) τ:=by
 have h:=val_mk W m;obtain⟨r,τ,e,rfl⟩:∃r τ,AS C [vl (CM C K hs),vl (.str kd.1)]=.ok r τ/\r=.nw (.lst ((kd.2.map (·.1)).map .str)):=by apply E3;trivial
 exact⟨τ,e⟩
theorem E1(W:Well K)(m:kd∈K)(m2:r∈kd.2):∃τ,Bs C [vl (CM C K hs),vl (.str r.1)]=.ok (.t (.tup (r.2.map .str))) τ:=by have h:=Ht W m m2;apply AU;trivial
end
theorem Wds.lw{n:Int}(h:Wds n vs)(hs:s∈vs):Lw s:=by obtain⟨p,h⟩:=h.ex;obtain⟨j,hj⟩:=rM.mp hs;exact(h j s hj).lw
theorem Wds.inj{n:Int}(h:Wds n vs)(hl:vs.length<=26){i j:Nat}(h1:vs[i]?=some s)(h2:vs[j]?=some s):i=j:=by
 obtain⟨p,h⟩:=h.ex;have l1:=(ql.mp h1).1;have l2:=(ql.mp h2).1;rcases Nat.decEq i j with z|z
 .exact absurd rfl (Jaf (h i s h1) (h j s h2) (by lia) (by lia) z)
 .exact z
theorem Jv(h:Lw s):A5 [vl (.str s)]=.ok (.t (.v true)) [vl (.str s)]:=by have:=EL (z:=s) (by rw[AO];have:=h.hi;lia);rwa[(Xg s).mpr h]at this
section
variable{K:Kd}{ks ws:List Str}{n m:Int}(k1:1<=ks.length)(k3:ks.length<=3)(iX:ws.length=16)(hk:Wds n ks)(hw:Wds m ws)(hl:K.length=ks.length)(h:∀(j:Nat) kd,K[j]?=some kd->Kd1 ks ws j kd)
include hl h in
theorem MU:K.map (·.1)=ks:=by
 apply List.ext_getElem?;intro j;rw[qH];cases e:K[j]? with
 |none =>
  have:ks.length<=j:=by rw[<- hl];exact List.getElem?_eq_none_iff.mp e
  rw[rN this];rfl
 |some kd=>exact(h j kd e).nm.symm
include h in
theorem Jy(ha:K[a]?=some kd)(hr:r∈kd.2):∃j,j<4/\kd.2[j]?=some r/\ws[4*a+j]?=some r.1:=by obtain⟨j,hj⟩:=rM.mp hr;have:=(ql.mp hj).1;have:=(h a kd ha).hi;exact⟨j,by lia,hj,((h a kd ha).rw j r hj).nm⟩
include k1 k3 iX hk hw hl h in
theorem VS:Well K:=by
 have hn:=MU hl h;have mk:∀s∈mks K,∃a j,j<4/\ws[4*a+j]?=some s:=λs hs=>by obtain⟨kd,m1,m2⟩:=rA.mp hs;obtain⟨r,m3,rfl⟩:=qm.mp m2;obtain⟨a,ha⟩:=rM.mp m1;obtain⟨j,j1,_,j2⟩:=Jy h ha m3;exact⟨a,j,j1,j2⟩
 have bJ:∀s∈mks K,Lw s:=λs hs=>by obtain⟨a,j,_,e⟩:=mk s hs;exact hw.lw (qV e)
 have at_:∀kd∈K,∃a:Nat,K[a]?=some kd:=λkd m=>rM.mp m
 refine⟨by lia,by lia,?_,λkd mk=>?_,λkd mk=>?_,?_,λs hs=>Jv (bJ s hs),λs hs=>by rw[AO];exact(bJ s hs).hi,λkd mk r mr=>?_,λkd mk r mr x mx=>?_,λD kd R e r er x mx=>?_⟩
 .rw[hn];refine rl.mpr λi j hi hj cJ e=>?_
  have:=hk.inj (by lia) (qb hi) (by rw[e];exact qb hj)
  lia
 .exact Jv (hk.lw (by rw[<- hn];exact qm.mpr ⟨kd,mk,rfl⟩))
 .obtain⟨a,ha⟩:=at_ kd mk;have g1:=(h a kd ha).lo;exact⟨by lia,(h a kd ha).hi⟩
 .refine List.pairwise_flatMap.mpr ⟨λkd m1=>?_,rl.mpr λa b ha hb fm x mx y my e=>?_⟩
  .obtain⟨a,ha⟩:=at_ kd m1;refine rl.mpr λi j hi hj cJ e=>?_
   rw[qe]at hi hj;rw[rW,rW]at e;have g1:=((h a kd ha).rw i _ (qb hi)).nm;rw[e]at g1;have:=hw.inj (by lia) g1 (((h a kd ha).rw j _ (qb hj)).nm)
   lia
  .obtain⟨r,m3,rfl⟩:=qm.mp mx;obtain⟨r2,m4,rfl⟩:=qm.mp my;obtain⟨i,i1,_,i2⟩:=Jy h (qb ha) m3;obtain⟨j,j1,_,j2⟩:=Jy h (qb hb) m4;rw[<- e]at j2;have:=hw.inj (by lia) i2 j2
   lia
 .obtain⟨a,ha⟩:=at_ kd mk;obtain⟨j,_,ej,_⟩:=Jy h ha mr;exact((h a kd ha).rw j r ej).two
 .obtain⟨a,ha⟩:=at_ kd mk;obtain⟨j,_,ej,_⟩:=Jy h ha mr;rw[hn];exact rq (((h a kd ha).rw j r ej).zd x mx)
 .have ha:K[D.length]?=some kd:=by rw[e];simp
  have:=((h D.length kd ha).rw 0 r er).zd x mx;rw[if_pos rfl,<- hn,<- sY,e]at this;simpa using this
end
theorem Xw(W:Well K)(hk:kd∈K)(mz:z∈K)(e:z.1=kd.1):z=kd:=by
 obtain⟨i,hi,rfl⟩:=sC mz;obtain⟨j,hj,rfl⟩:=sC hk;have nd:=rl.mp W.nd;rcases Nat.lt_trichotomy i j with q|q|q
 .exact absurd (by rwa[rW,rW]) (nd i j (by simpa using hi) (by simpa using hj) q)
 .subst q;rfl
 .exact absurd (by rw[rW,rW];exact e.symm) (nd j i (by simpa using hj) (by simpa using hi) q)
theorem makers(W:Well K)(hk:kd∈K):∃τ,BN [vl (.lst (K.map Bq)),vl (.str kd.1)]=.ok (.t (.lst (kd.2.map Dv))) τ:=by
 have go:∀(R:Kd)(x2 x3:Option Sl),kd∈R->(∀z∈R,z∈K)->Fre x2->Fre x3->∃τ,DJ (Aw 2 (Af (tgN 2) (Af (tgN 3) Au))) (ifS (asB (Ae (gEq false) (Aa 2) (Aa 1))) (retS (Aa 3)) nxS) (R.map Bq) [vl (.lst (K.map Bq)),vl (.str kd.1),x2,x3]=.ret (.t (.lst (kd.2.map Dv))) τ:=by
  intro R
  induction R with
  |nil=>exact λ_ _ m=>nomatch m
  |cons z R ih =>
   intro x2 x3 m u f2 f3;by_cases h:z.1=kd.1
   .rw[Xw W hk (u z qB) h];exact⟨_,Uw (LZ (FR rfl f2) (FR rfl f3)) (PN ((RM (As rfl) (As rfl)).trans (by rw[qP rfl])) (Cv (As rfl)))⟩
   .obtain⟨τ,g⟩:=ih (vl (.str z.1)) (vl (.lst (z.2.map Dv))) ((qA.mp m).resolve_left λe=>h (by rw[e])) (λz m=>u z (qf _ m)) Al Al;exact⟨τ,(Nr (LZ (FR rfl f2) (FR rfl f3)) (M7 ((RM (As rfl) (As rfl)).trans (by rw[qK h])) rfl)).trans g⟩
 obtain⟨τ,g⟩:=go K none none hk (λ_ m=>m) CB CB;exact⟨_,HD (g:=IU) (args:=[vl (.lst (K.map Bq)),vl (.str kd.1)]) (EH (GC (Ub (Nl (As rfl))) g))⟩
def Zo(K:Kd):List (Str×Str×List Str):=K.flatMap λkd=>kd.2.map λr=>(kd.1,r)
theorem ML(K:Kd):BC K=(Zo K).map λq=>Oj q.2:=by rw[E7];unfold Zo allR;rw[sr,sr];simp only[qO];rfl
theorem Ud(K:Kd):Dz K=(Zo K).map λq=>T.str q.1:=by unfold Dz Lv Zo;rw[sr];simp only[qO];rfl
theorem F8(W:Well K)(m:kd∈K)(m2:r∈kd.2):By (BC K) (Dz K) (.inr r.1:Key)=some (.str kd.1):=by have h:(BC K).Nodup:=B3 W.yH;rw[ML]at h;rw[ML,Ud];exact Cj (rA.mpr ⟨kd,m,qm.mpr ⟨r,m2,rfl⟩⟩) h
abbrev stT(C:Addr)(K:Kd):T:=CM C K (Dz K)
section
variable{C:Addr}{K:Kd}{hs:List T}
theorem RH(h:fs[i]?=some (vl (CM C K hs))):EM C "home_by_maker" (Aa i) fs=.ok (.t (.o (BC K) hs)) fs:=by unfold EM;rw[As h];obtain⟨pJ,nj,nq⟩:=Po;unfold CM;generalize ("makers_by_kind":Str)=A at *;generalize ("parts_by_maker":Str)=B at *;generalize ("home_by_maker":Str)=H at *;simp[Out.bnd,Out.bind,Jbi,FK,okT,Ne.symm nj,Ne.symm nq]
theorem Sz(W:Well K)(m:kd∈K)(m2:r∈kd.2):C4 C [vl (stT C K),vl (.str r.1)]=.ok (.t (.str kd.1)) [vl (stT C K),vl (.str r.1)]:=by
 exact(HD (args:=[vl (stT C K),vl (.str r.1)]) (by
  refine sq (M7 (KW (AI (Nl (As rfl)) (RH rfl) ?_)) rfl) ?_
  .rw[Jb5,F8 W m m2];rfl
  exact Cv (AI (RH rfl) (Nl (As rfl)) (XS (F8 W m m2))))).trans rfl
end
theorem Mq(hc:c fs=.ok b af)(hb:b=false)(k:Sat Q (Ak s' h af)):Sat Q (Ak (ifS c s s') h fs):=CP hc (λh=>absurd (h.symm.trans hb) (by decide)) λ_=>k
section
variable(K:Kd)(kn:Str->Str->Prop)(cl:Str->List Str->Str->List T->Prop)
def Ty:Nat->T->Str->Prop
 |0,_,_=>False
 |n+1,t,k=>(∃x,kn x k/\t=exN x)\/(∃m ps ts,(∃kd∈K,kd.1=k/\(m,ps)∈kd.2)/\F2 (Ty n) ts ps/\t=exP "make" m ts)\/∃f ps ts,cl f ps k ts/\F2 (Ty n) ts ps/\t=exP "call" f ts
end
theorem Ty.mono(h1:∀x k,kn x k->fY x k)(h2:∀f ps k ts,cl f ps k ts->cl' f ps k ts):∀{n m:Nat}{t:T}{k:Str},Ty K kn cl n t k->n<=m->Ty K fY cl' m t k
 |n+1,m+1,t,k,h,l=>by
  rcases h with⟨x,a,b⟩|⟨f,ps,ts,a,b,c⟩|⟨f,ps,ts,a,b,c⟩
  .exact .inl ⟨x,h1 _ _ a,b⟩
  .exact .inr (.inl ⟨f,ps,ts,a,b.imp λ_ _ q=>Ty.mono h1 h2 q (by lia),c⟩)
  .exact .inr (.inr ⟨f,ps,ts,h2 _ _ _ _ a,b.imp λ_ _ q=>Ty.mono h1 h2 q (by lia),c⟩)
theorem ED:("call":Str)≠"make"/\("make":Str)≠"name"/\("call":Str)≠"name"/\("make":Str)≠"call":=by decide +kernel
abbrev SF:List Str:=["stock","heads","kinds_by_name","own","lessers"]
theorem ON:(("heads":Str) == "stock")=false/\(("kinds_by_name":Str) == "stock")=false/\(("kinds_by_name":Str) == "heads")=false/\(("own":Str) == "stock")=false/\(("own":Str) == "heads")=false/\(("own":Str) == "kinds_by_name")=false /\
  (("lessers":Str) == "stock")=false/\(("lessers":Str) == "heads")=false/\(("lessers":Str) == "kinds_by_name")=false/\(("lessers":Str) == "own")=false:=by decide +kernel
section
variable{a b c d e:T}
theorem v_s0:FK SF [a,b,c,d,e] "stock"=some a:=by simp[FK]
theorem v_s1:FK SF [a,b,c,d,e] "heads"=some b:=by simp[FK,ON]
theorem v_s2:FK SF [a,b,c,d,e] "kinds_by_name"=some c:=by simp[FK,ON]
theorem v_s3:FK SF [a,b,c,d,e] "own"=some d:=by simp[FK,ON]
theorem v_s4:FK SF [a,b,c,d,e] "lessers"=some e:=by simp[FK,ON]
end
structure Sco where
 aA:Addr
 au:Addr
 K:Kd
 hk:List Key
 hv:List T
 xk:List Key
 xv:List T
 own:Str
 ls:List Str
structure SOk(s:Sco)(kn:Str->Str->Prop)(cl:Str->List Str->Str->List T->Prop):Prop where
 W:Well s.K
 nm:∀x k,kn x k->By s.xk s.xv (.inr x:Key)=some (.str k)
 hd:∀f ps k ts,cl f ps k ts->By s.hk s.hv (.inr f:Key)=some (.tup [.tup (ps.map .str),.str k])/\(f=s.own->∃x∈s.ls,ts[0]?=some (exN x))
section
variable{s:Sco}{kn:Str->Str->Prop}{cl:Str->List Str->Str->List T->Prop}
theorem Fh(x:Str):∀ls:List Str,Ol (exN x) (ls.map exN)=some (decide (x∈ls))
 | []=>by simp[Ol]
 |y::ls=>by
  have e:eqT 9 (exN y) (exN x)=some (decide (y=x)):=by unfold exN;rw[UT];simp only[Oo,UU];by_cases h:y=x<;>simp[h]
  rw[qi,Ol,e,Fh x ls];by_cases h:y=x
  .simp[h]
  .have h2:¬x=y:=λz=>h z.symm
   simp[h,h2]
theorem ninT{ls:List Str}(h:x∈ls):Im (.t (exN x)) (.t (.lst (ls.map exN))) fs=.ok (.t (.v false)) fs:=by unfold Im;simp only[Du,rg,Fh,h];rfl
end
abbrev IsNm(x:Str):Prop:=A5 [vl (.str x)]=.ok (.t (.v true)) [vl (.str x)]
abbrev ky(x:Str):Key:=.inr x
theorem Xj{xs D R:List Str}{a:Str}(e:D++a::R=xs)(nd:xs.Nodup):a∉D:=λm=>(qc.mp (e▸nd)).2.2 a m a qB rfl
theorem mem_mid{α:Type}{xs D R:List α}{a:α}(e:D++a::R=xs):a∈xs:=by rw[<- e];simp
theorem B1{α:Type}{xs D R:List α}{a:α}(e:D++a::R=xs):D.length<xs.length:=by rw[<- e];simp
section
variable{au:Addr}{K:Kd}(W:Well K)
include W
end
structure Fd where
 nm:Str
 ks:List Str
 k:Str
 z8:List Str
 rows:List (Str×List Str×T)
def rwT(r:Str×List Str×T):T:=.tup [.tup (r.2.1.map .str),r.2.2]
abbrev Fd.t(g:Fd):T:=.tup [.str g.nm,.tup (g.ks.map .str),.str g.k,.tup (g.z8.map .str),.tup (g.rows.map rwT)]
section
variable{au:Addr}{K:Kd}(W:Well K)
include W
end
theorem Lb{c:Addr}{A B D E F:T}:∃τ,C5 c [some (.bor (.ins c [] [])),vl A,vl B,vl D,vl E,vl F]=.ok (.t .l) (some (.bor (.ins c SF [.val A,.val B,.val D,.val E,.val F]))::τ):=by apply Jay;unfold Ey;trivial
section
variable{aA au:Addr}{K:Kd}{nm k:Str}{ks z8:List Str}{rows:List T}{hk:List Key}{hv:List T}{kd:Str×List (Str×List Str)}{m:Str}{ys ps:List Str}{body:T}{kn:Str->Str->Prop}{cl:Str->List Str->Str->List T->Prop}{kf:Str->Str}
end
abbrev PF:List Str:=["stock","heads","rows_by_function"]
section
variable{a b c:T}{x y z w:FO}
end
abbrev hkD(D:List Fd):List Key:=D.map λg=>ky g.nm
abbrev hvT(g:Fd):T:=.tup [.tup (g.ks.map .str),.str g.k]
abbrev hvD(D:List Fd):List T:=D.map hvT
def rvT(g:Fd)(r:Str×List Str×T):T:=.tup [.tup (r.2.1.map .str++g.z8.map .str),r.2.2]
structure ROk(K:Kd)(D:List Fd)(g:Fd)(kd:Str×List (Str×List Str))(ks:List Str)(r:Str×List Str×T):Prop where
 two:r.2.1.length<=2
 nd:(r.2.1++g.z8).Nodup
 nm:∀x∈r.2.1++g.z8,Lw x
 ex:∃(ps:List Str)(kn:Str->Str->Prop)(cl:Str->List Str->Str->List T->Prop)(kf:Str->Str),(r.1,ps)∈kd.2/\r.2.1.length=ps.length/\(∀aA au,SOk ⟨aA,au,K,hkD (D++[g]),hvD (D++[g]),(r.2.1++g.z8).map ky,ps.map .str++ks.map .str,g.nm,r.2.1.filter λx=>decide (kf x=kd.1)⟩ kn cl)/\(∀x∈r.2.1,By ((r.2.1++g.z8).map ky) (ps.map .str++ks.map .str) (ky x)=some (.str (kf x)))/\Ty K kn cl 12 r.2.2 g.k
structure FOk(K:Kd)(D:List Fd)(g:Fd):Prop where
 nm:IsNm g.nm
 new:g.nm∉D.map Fd.nm
 xT:g.nm∉mks K
 ind:∀x∈g.ks++[g.k],x∈K.map (·.1)
 ex:∃kd ks,kd∈K/\g.ks=kd.1::ks/\g.z8.length=ks.length/\ks.length<=2/\g.rows.map (·.1)=kd.2.map (·.1)/\∀r∈g.rows,ROk K D g kd ks r
section
variable{cP aA au:Addr}{K:Kd}{g:Fd}{D:List Fd}{x2:Option Sl}
theorem kyD(h:x∉D.map Fd.nm):ky x∉hkD D:=by have:=Ih h;rwa[qO]at this
end
section
variable{K:Kd}(W:Well K){kn:Str->Str->Prop}{cl:Str->List Str->Str->List T->Prop}
abbrev kT(K:Kd):T:=.lst (K.map Bq)
include W
theorem least:∀(d n:Nat),d<n->∀D kd R,D++kd::R=K->D.length<=d->∃t,(∃τ,DW n [vl (kT K),vl (.str kd.1)]=.ok (.t t) τ)/\Ty K kn cl (d+1) t kd.1
 |d,n+1,hn,D,kd,R,e,hd=>by
  have hk:=mem_mid e;obtain⟨_,h1⟩:=makers W hk;obtain⟨r,rs,er⟩:=List.exists_cons_of_length_pos (W.rw kd hk).1;have hr:r∈kd.2:=by rw[er];exact qB
  have h2:=W.two kd hk r hr;obtain⟨vs,hv⟩:∃vs,F2 (λp v=>(∃τ,DW n [vl (kT K),vl (.str p)]=.ok (.t v) τ)/\Ty K kn cl d v p) r.2 vs:=UQ λp mp=>by
   obtain⟨kp,mk,rfl⟩:=qm.mp (W.gr D kd R e.symm r (by rw[er];rfl) p mp);obtain⟨A,B,rfl⟩:=r8 mk;rw[qv,qL]at hd;obtain⟨d,rfl⟩:∃e,d=e+1:=⟨d-1,by lia⟩
   exact least d n (by lia) A kp (B++kd::R) (by rw[<- e];simp) (by lia)
  rw[er]at h1;refine⟨exP "make" r.1 vs,?_,.inr (.inl ⟨r.1,r.2,vs,⟨kd,hk,rfl,hr⟩,(hv.imp λ_ _ h=>h.2).flip,rfl⟩)⟩;apply AU;unfold KS;trivial
  .apply QC
   .trivial
   .exact hv.imp λp v ⟨⟨_,h⟩,_⟩=>by trivial
   .lia
  trivial
end
section
variable{K:Kd}(W:Well K){N:List (Str×Str)}{D:List Fd}
abbrev nK(N:List (Str×Str)):List Key:=N.map λp=>.inr p.1
abbrev nV(N:List (Str×Str)):List T:=N.map λp=>.str p.2
abbrev knN(N:List (Str×Str)):Str->Str->Prop:=λx k=>(x,k)∈N
abbrev clD(D:List Fd):Str->List Str->Str->List T->Prop:=λf ps k _=>∃g∈D,g.nm=f/\g.ks=ps/\g.k=k
theorem OC(nd:(N.map (·.1)).Nodup)(m:p∈N):By (nK N) (nV N) (.inr p.1:Key)=some (.str p.2) :=
 Cj m (by have:=B3 nd;rwa[qO]at this)
theorem K1(nd:(D.map Fd.nm).Nodup)(m:g∈D):By (hkD D) (hvD D) (.inr g.nm:Key)=some (hvT g) :=
 Cj m (by have:=B3 nd;rwa[qO]at this)
include W
theorem stream(n1:(N.map (·.1)).Nodup)(n2:(D.map Fd.nm).Nodup)(l1:N.length<=1000)(l2:D.length<=1000)(hN:∀p∈N,p.2∈K.map (·.1))(hD:∀g∈D,∀x∈g.ks,x∈K.map (·.1))(hK:K.length<=3)(h3:∀g∈D,g.ks.length<=100):∀(l n:Nat),l<n->∀kd∈K,∀num:Int,∃(e:T)(fI:Int),(∃τ,Co n [vl (kT K),vl (.dF (nK N) (nV N)),vl (.dF (hkD D) (hvD D)),vl (.str kd.1),iv num,iv ((l+1:Nat):Int)]=.ok (.t (.lst [e,.int fI])) τ)/\Ty K (knN N) (clD D) (l+3) e kd.1
 |l,n+1,hn,kd,hk,num=>by
  obtain⟨A,B,eK⟩:=r8 hk;obtain⟨lt,⟨_,h1⟩,ht⟩:=least W 2 8 (by lia) A kd B eK.symm (by
   have:=congrArg List.length eK;simp at this
   lia)
  obtain⟨_,h2⟩:=makers W hk;have h4:=W.rw kd hk
  suffices hs:∃r τ,Co (n+1) [vl (kT K),vl (.dF (nK N) (nV N)),vl (.dF (hkD D) (hvD D)),vl (.str kd.1),iv num,iv ((l+1:Nat):Int)]=.ok r τ/\∃(e:T)(fI:Int),r=.t (.lst [e,.int fI])/\Ty K (knN N) (clD D) (l+3) e kd.1 by obtain⟨_,τ,e,a,b,rfl,c⟩:=hs;exact⟨a,b,⟨τ,e⟩,c⟩
  apply E3;unfold IT;trivial
  .apply KH
   .trivial
   .intro p mp;have:=OC n1 mp;trivial
   .intro p mp _;trivial
   .exact l1
  trivial
  .apply KH
   .trivial
   .intro g mg;have:=K1 n2 mg;trivial
   .intro g mg _;trivial
   .exact l2
  trivial;apply CP
  .apply JT;trivial;apply Et;trivial
  .intro hb;have aI:N.filter (λp=>decide (p.2=kd.1))≠[]:=λh=>by simp[h]at hb
   have g1:=rC.mpr aI;have g2:=qF (List.length_filter_le (λp=>decide (p.2=kd.1)) N) l1;obtain⟨p,mp,hp⟩:=B2 aI (λp=>T.str p.1) (num/5);rw[<- qe (f:=λp:Str×Str=>T.str p.1)]at g1 g2;obtain⟨mp,ep⟩:=rS.mp mp;trivial;exact⟨_,_,rfl,.inl ⟨p.1,by rw[<- qG ep];exact mp,rfl⟩⟩
  .intro _;trivial
   .exact⟨_,_,rfl,ht.mono (λ_ _ h=>h) (λ_ _ _ _ h=>h) (by lia)⟩
   intro hb;have hl:=of_decide_eq_false hb;obtain⟨l,rfl⟩:∃j,l=j+1:=⟨l-1,by lia⟩
   have aI:kd.2≠[]:=λh=>by simp[h]at h4
   obtain⟨r,mr,hr⟩:=B2 aI Dv (num/5);have g1:0<(kd.2.map Dv).length:=by rw[qe];lia
   trivial;apply Gh (J:=λx:Str×Str×List Str=>[vl (kT K),vl (.dF (nK N) (nV N)),vl (.dF (hkD D) (hvD D)),vl (.str kd.1),iv (num/5),iv ((l+1+1:Nat):Int),vl (.lst ((N.filter λp=>decide (p.2=kd.1)).map λp=>T.str p.1)),vl (.lst ((D.filter λg=>decide (g.k=kd.1)).map λg=>T.str g.nm)),iv (num%5),vl (.str x.1),vl (.lst (kd.2.map Dv)),vl (.str x.2.1),vl (.tup (x.2.2.map .str)),none,none,none]) (P:=λx=>(∀p∈x.2.2,p∈K.map (·.1))/\x.2.2.length<=100/\∀vs,F2 (Ty K (knN N) (clD D) (l+3)) vs x.2.2->Ty K (knN N) (clD D) (l+1+3) (exP x.1 x.2.1 vs) kd.1)
   .apply JT;trivial
   .intro hb;have aI:D.filter (λg=>decide (g.k=kd.1))≠[]:=λh=>by simp[h]at hb
    have g1:=rC.mpr aI;obtain⟨g,mg,hg⟩:=B2 aI (λg=>T.str g.nm) (num/5);rw[<- qe (f:=λg:Fd=>T.str g.nm)]at g1;obtain⟨mg,eg⟩:=rS.mp mg;have:=K1 n2 mg;refine⟨("call",g.nm,g.ks),⟨hD g mg,?_,λvs h=>.inr (.inr ⟨g.nm,g.ks,vs,⟨g,mg,rfl,rfl,qG eg⟩,h,rfl⟩)⟩,?_⟩
    .exact h3 g mg
    .trivial
   .intro _;refine⟨("make",r.1,r.2),⟨W.zd kd hk r mr,qF (W.two kd hk r mr) (by decide),λvs h=>.inr (.inl ⟨r.1,r.2,vs,⟨kd,hk,rfl,mr⟩,h,rfl⟩)⟩,rfl⟩
   rintro⟨w,m,ps⟩ ⟨p1,p2,p3⟩
   trivial;apply BQ (I:=λZ fs=>∃(vs:List T)(nu:Int)(dm fM:Option Sl),fs=[vl (kT K),vl (.dF (nK N) (nV N)),vl (.dF (hkD D) (hvD D)),vl (.str kd.1),iv nu,iv ((l+1+1:Nat):Int),vl (.lst ((N.filter λp=>decide (p.2=kd.1)).map λp=>T.str p.1)),vl (.lst ((D.filter λg=>decide (g.k=kd.1)).map λg=>T.str g.nm)),iv (num%5),vl (.str w),vl (.lst (kd.2.map Dv)),vl (.str m),vl (.tup (ps.map .str)),some (.own (.lst vs)),dm,fM]/\Fre dm/\Fre fM/\F2 (Ty K (knN N) (clD D) (l+3)) vs Z) (xs:=ps) (p:=T.str)
   case hi=>trivial
   case h0=>exact⟨_,_,_,_,rfl,True.intro,True.intro,.nil⟩
   case st =>
    rintro Z p R _ e ⟨vs,nu,dm,fM,rfl,f14,f15,hv⟩
    obtain⟨kp,mk,rfl⟩:=qm.mp (p1 _ (mem_mid e));obtain⟨v,pX,⟨_,h⟩,ht⟩:=stream n1 n2 l1 l2 hN hD hK h3 l n (by lia) kp mk nu;rw[show((l+1:Nat):Int)=((l+1+1:Nat):Int)-1 by lia]at h;have:=hv.len;have:=B1 e;simp only at p2;trivial;exact⟨_,_,_,_,rfl,Al,Al,hv.snoc ht⟩
   case k =>
    rintro _ ⟨vs,nu,dm,fM,rfl,f14,f15,hv⟩
    trivial;exact⟨_,_,rfl,p3 vs hv⟩
end
section
variable{K:Kd}(W:Well K){N:List (Str×Str)}{D:List Fd}
include W
theorem grown(n1:(N.map (·.1)).Nodup)(n2:(D.map Fd.nm).Nodup)(l1:N.length<=1000)(l2:D.length<=1000)(hN:∀p∈N,p.2∈K.map (·.1))(hD:∀g∈D,∀x∈g.ks,x∈K.map (·.1))(hK:K.length<=3)(h3:∀g∈D,g.ks.length<=100)(hk:kd∈K)(num:Int):∃e:T,(∃τ,ER [vl (kT K),vl (.dF (nK N) (nV N)),vl (.dF (hkD D) (hvD D)),vl (.str kd.1),iv num,iv 3]=.ok (.t e) τ)/\Ty K (knN N) (clD D) 5 e kd.1:=by obtain⟨e,fI,⟨_,h⟩,ht⟩:=stream W n1 n2 l1 l2 hN hD hK h3 2 6 (by lia) kd hk num;refine⟨e,?_,ht⟩;apply AU;trivial
end
theorem put{kn fY:Str->Str->Prop}{k0:Str}{o:T}{j:Nat}(hk:∀x k,fY x k->(x=""/\k=k0)\/(x≠""/\kn x k))(hc:∀f ps k ts,cl f ps k ts->(∀fL,cl' f ps k fL)/\ps.length<=100)(h2:∀kd∈K,∀r∈kd.2,r.2.length<=2)(ho:Ty K kn cl' j o k0):∀m n,m<=n->∀t k,Ty K fY cl m t k->∃t',(∃τ,Iv n [vl t,vl (.str ""),vl o]=.ok (.t t') τ)/\Ty K kn cl' (m+j) t' k
 |m+1,n+1,hn,t,k,h=>by
  have key:(∃x,fY x k/\t=exN x)\/∃(f s:Str)(ps:List Str)(ts:List T),f≠"name"/\F2 (Ty K fY cl m) ts ps/\ps.length<=100/\(∀vs,F2 (Ty K kn cl' (m+j)) vs ps->Ty K kn cl' (m+j+1) (exP f s vs) k)/\t=exP f s ts:=by
   rcases h with h|⟨s,ps,ts,⟨kd,m1,rfl,m2⟩,b,rfl⟩|⟨f,ps,ts,a,b,rfl⟩
   .exact .inl h
   .exact .inr ⟨_,s,ps,ts,ED.2.1,b,qF (h2 kd m1 _ m2) (by decide),λvs hv=>.inr (.inl ⟨s,ps,vs,⟨kd,m1,rfl,m2⟩,hv,rfl⟩),rfl⟩
   .exact .inr ⟨_,f,ps,ts,ED.2.2.1,b,(hc _ _ _ _ a).2,λvs hv=>.inr (.inr ⟨f,ps,vs,(hc _ _ _ _ a).1 vs,hv,rfl⟩),rfl⟩
  rcases key with⟨x,a,rfl⟩|⟨f,s,ps,ts,hf,b,hl,hT,rfl⟩
  .rcases hk x k a with⟨rfl,rfl⟩|⟨hx,ib⟩
   .refine⟨o,?_,ho.mono (λ_ _ h=>h) (λ_ _ _ _ h=>h) (by lia)⟩;apply AU;unfold N9 exN;trivial
   .refine⟨exN x,?_,Ty.mono (n:=1) (λ_ _ h=>h) (λ_ _ _ _ h=>h) (.inl ⟨x,ib,rfl⟩) (by lia)⟩;apply AU;trivial
    .rw[if_neg (by simp[hx])];exact at0
    trivial
  .have go:∀{ts:List T}{ps:List Str},F2 (Ty K fY cl m) ts ps->∃vs,F2 (λt v=>∃τ,Iv n [vl t,vl (.str ""),vl o]=.ok (.t v) τ) ts vs/\F2 (Ty K kn cl' (m+j)) vs ps:=λh=>by induction h with|nil=>exact⟨[],.nil,.nil⟩|cons h _ ih =>obtain⟨vs,a,b⟩:=ih;obtain⟨v,c,d⟩:=put hk hc h2 ho m n (by lia) _ _ h;exact⟨v::vs,.cons c a,.cons d b⟩
   obtain⟨vs,hv,hw⟩:=go b;have eW:=b.len;refine⟨exP f s vs,?_,by rw[Nat.add_right_comm];exact hT vs hw⟩;apply AU;unfold N9 exP;trivial
   .apply YX
    .trivial
    .exact hv.imp λt v ⟨_,h⟩=>by trivial
    .lia
   trivial
theorem D9:∀xs ys:List Str,FL.pairs (xs.map .str) (ys.map .str)=(xs.zip ys).map λq=>.tup [.str q.1,.str q.2]
 | [],_=>by simp[FL.pairs]
 |x::xs,[]=>by simp[FL.pairs]
 |x::xs,y::ys=>by simp[FL.pairs,D9 xs ys]
def cpE(own k:Str)(q:Str×Str):T:=if q.2=k then exP "call" own [exN q.1]else exN q.1
theorem Qy{ps ws:List Str}(h1:ps.length<=ws.length)(h2:ws.length<=100):∃τ,DB [vl (.str own),vl (.str k),vl (.str m),vl (.tup (ps.map .str)),vl (.lst (ws.map .str))]=.ok (.t (.tup [.tup ((ws.take ps.length).map .str),exP "make" m ((ws.zip ps).map (cpE own k))])) τ:=by
 apply AU;trivial;apply BQ (I:=λZ fs=>∃y6 y7,fs=[vl (.str own),vl (.str k),vl (.str m),vl (.tup (ps.map .str)),vl (.lst (ws.map .str)),some (.own (.lst (Z.map (cpE own k)))),y6,y7]/\Fre y6/\Fre y7)
 case hi =>rw[<- D9];trivial
 case h0=>exact⟨_,_,rfl,True.intro,True.intro⟩
 case st =>
  rintro Z q R _ e ⟨y6,y7,rfl,f6,f7⟩
  have:=B1 e;rw[sG]at this;trivial
  .exact⟨vl (.str q.1),vl (.str q.2),by rw[qh];unfold cpE exP exN;simp at hb;simp[hb],Al,Al⟩
  trivial
  .exact⟨vl (.str q.1),vl (.str q.2),by rw[qh];unfold cpE exP exN;simp at hb;simp[hb],Al,Al⟩
 case k =>
  rintro _ ⟨y6,y7,rfl,f6,f7⟩
  trivial;rw[qe,<- sY];rfl
abbrev clO(D:List Fd)(own:Str)(ps:List Str)(k:Str)(ls:List Str):Str->List Str->Str->List T->Prop:=λf qs k' ts=>clD D f qs k' ts\/(f=own/\qs=ps/\k'=k/\∃x∈ls,ts[0]?=some (exN x))
section
variable{K:Kd}(W:Well K){N:List (Str×Str)}{D:List Fd}
include W
theorem body(n1:(N.map (·.1)).Nodup)(n2:(D.map Fd.nm).Nodup)(l1:N.length<=100)(l2:D.length<=100)(hN:∀p∈N,p.2∈K.map (·.1))(hD:∀g∈D,∀x∈g.ks,x∈K.map (·.1))(hK:K.length<=3)(h3:∀g∈D,g.ks.length<=100)(hk:kd∈K)(hw:∀x∈ws,x∈K.map (·.1))(lw:ws.length<=2)(ll:ls.length<=2)(nZ:∀x∈ls,(x,w0)∈N)(aI:∀p∈N,p.1≠"")(dg:Int):
  ∃e:T,(∃τ,G7 [vl (kT K),vl (.dF (hkD D) (hvD D)),vl (.tup [.str own,.lst ((w0::ws).map .str),.str kd.1]),vl (.dF (nK N) (nV N)),vl (.lst (ls.map .str)),iv dg]=.ok (.t e) τ)/\Ty K (knN N) (clO D own (w0::ws) kd.1 ls) 12 e kd.1:=by
 suffices hs:∃r τ,G7 [vl (kT K),vl (.dF (hkD D) (hvD D)),vl (.tup [.str own,.lst ((w0::ws).map .str),.str kd.1]),vl (.dF (nK N) (nV N)),vl (.lst (ls.map .str)),iv dg]=.ok r τ/\∃e:T,r=.t e/\Ty K (knN N) (clO D own (w0::ws) kd.1 ls) 12 e kd.1 by obtain⟨_,τ,e,a,rfl,c⟩:=hs;exact⟨a,⟨τ,e⟩,c⟩
 obtain⟨e1,⟨_,g1⟩,t1⟩:=grown W n1 n2 (by lia) (by lia) hN hD hK h3 hk (dg/8);apply E3;unfold Oa;trivial;apply CP
 .apply Et;trivial
 .intro _;trivial;exact⟨_,rfl,t1.mono (λ_ _ h=>h) (λ_ _ _ _ h=>.inl h) (by lia)⟩
 intro hb;have il:ls≠[]:=λh=>by simp[h]at hb
 have p1:0<(ls.map T.str).length:=by rw[qe];exact rC.mpr il
 obtain⟨x,mx,hx⟩:=B2 il T.str (dg/4);have ne:(.inr "":Key)∉nK N:=λm=>by obtain⟨p,mp,e⟩:=qm.mp m;exact aI p mp (Sum.inr.inj e)
 trivial;apply BQ (I:=λZ fs=>∃(vs:List T)(d:Int)(bW dk:Option Sl),fs=[vl (kT K),vl (.dF (hkD D) (hvD D)),vl (.tup [.str own,.lst ((w0::ws).map .str),.str kd.1]),vl (.dF (nK N) (nV N)),vl (.lst (ls.map .str)),iv d,vl (.str own),vl (.lst ((w0::ws).map .str)),vl (.str kd.1),some (.own (.o (nK N++[.inr ""]) (nV N++[.str kd.1]))),some (.own (.lst (exN x::vs))),bW,dk]/\Fre bW/\Fre dk/\F2 (Ty K (knN N) (clD D) 4) vs Z)
 case hi=>trivial
 case h0=>exact⟨_,_,_,_,rfl,True.intro,True.intro,.nil⟩
 case st =>
  rintro Z p R _ e ⟨vs,d,bW,dk,rfl,f11,f12,hv⟩
  obtain⟨kp,mk,rfl⟩:=qm.mp (hw _ (mem_mid e));obtain⟨v,d',⟨_,h⟩,ht⟩:=stream W n1 n2 (by lia) (by lia) hN hD hK h3 1 6 (by lia) kp mk d;have:=hv.len;have:=B1 e;trivial;exact⟨vs++[v],_,_,_,rfl,Al,Al,hv.snoc ht⟩
 case k =>
  rintro _ ⟨vs,d,bW,dk,rfl,f11,f12,hv⟩
  obtain⟨e2,⟨_,g2⟩,t2⟩:=grown (N:=N++[(("":Str),kd.1)]) (D:=D) W (by
   rw[qh];exact qc.mpr ⟨n1,by simp,λa ma b mb e=>by obtain⟨p,mp,rfl⟩:=qm.mp ma;exact aI p mp (by rw[e];simpa using mb)⟩) n2 (by simp;lia) (by lia) (λp mp=>by
   rcases qd.mp mp with mp|mp
   .exact hN p mp
   .rw[qj.mp mp];exact qm.mpr ⟨kd,hk,rfl⟩) hD hK h3 hk d
  rw[show nK (N++[((("":Str)),kd.1)])=nK N++[.inr ""]from qh,show nV (N++[((("":Str)),kd.1)])=nV N++[.str kd.1]from qh]at g2;have to:Ty K (knN N) (clO D own (w0::ws) kd.1 ls) 5 (exP "call" own (exN x::vs)) kd.1:=.inr (.inr ⟨own,w0::ws,_,.inr ⟨rfl,rfl,rfl,x,mx,rfl⟩,.cons (.inl ⟨x,nZ x mx,rfl⟩) (hv.imp λ_ _ h=>h.mono (λ_ _ h=>h) (λ_ _ _ _ h=>.inl h) (qz _)),rfl⟩);obtain⟨e3,⟨_,g3⟩,t3⟩:=put (kn:=knN N) (fY:=knN (N++[((("":Str)),kd.1)])) (cl:=clD D) (k0:=kd.1) (λz k h=>by
   rcases qd.mp h with h|h
   .exact .inr ⟨aI _ h,h⟩
   .have:=qj.mp h;cases this;exact .inl ⟨rfl,rfl⟩) (λf ps k ts h=>⟨λ_=>.inl h,by obtain⟨g,m,_,rfl,_⟩:=h;exact h3 g m⟩) W.two to 5 20 (by lia) e2 kd.1 t2
  unfold exP at g3;trivial;exact⟨_,rfl,t3.mono (λ_ _ h=>h) (λ_ _ _ _ h=>h) (by lia)⟩
end
theorem LR{xs ys:List Str}(h:xs.length=ys.length):nK (xs.zip ys)=xs.map λx=>(.inr x:Key):=by
 have:=rL (l₁:=xs) (l₂:=ys) (by lia)
 conv=>rhs;rw[<- this,qO]
 rfl
theorem LP{xs ys:List Str}(h:xs.length=ys.length):nV (xs.zip ys)=ys.map T.str:=by
 have:=List.map_snd_zip (l₁:=xs) (l₂:=ys) (by lia)
 conv=>rhs;rw[<- this,qO]
 rfl
theorem VF{α β:Type}{xs:List α}{ys:List β}{p:α->T}{q:β->T}(h:ys.length<=xs.length):Gs (.t (.lst (xs.map p))) none (some ((ys.map q).length:Int)) fs=.ok (.t (.lst ((xs.take ys.length).map p))) fs:=by rw[Sa (by rw[qe,qe];exact h),qe,sY]
theorem Wds.nd{n:Int}(h:Wds n vs)(hl:vs.length<=26):vs.Nodup :=
 rl.mpr λi j hi hj cJ e=>by
  have:=h.inj hl (qb hi) (by rw[e];exact qb hj)
  lia
theorem F2.r{α β:Type}{R:α->β->Prop}{as:List α}{bs:List β}(h:F2 R as bs):∀b∈bs,∃a,R a b:=by
 induction h with
 |nil=>exact λ_ m=>nomatch m
 |cons h _ ih =>
  intro b m;rcases qA.mp m with rfl|m
  .exact⟨_,h⟩
  .exact ih b m
structure Fun1(K:Kd)(D:List Fd)(g:Fd):Prop where
 ind:∀x∈g.ks++[g.k],x∈K.map (·.1)
 ex:∃kd ks,kd∈K/\g.ks=kd.1::ks/\g.z8.length=ks.length/\ks.length<=2/\g.rows.map (·.1)=kd.2.map (·.1)/\∀r∈g.rows,ROk K D g kd ks r
theorem Q5(W:Well K)(n2:(D.map Fd.nm).Nodup)(ho:own∉D.map Fd.nm)(hr:(m,ps)∈kd.2)(ln:names.length=ps.length)(lo:z8.length=kn.length)(l2:names.length<=2)(nd:(names++z8).Nodup)(nm:∀x∈names++z8,Lw x)
  (te:Ty K (knN ((names++z8).zip (ps++kn))) (clO D own (kd.1::kn) k1 (((names.zip ps).filter λq=>decide (q.2=kd.1)).map (·.1))) 12 e k1):ROk K D ⟨own,kd.1::kn,k1,z8,X⟩ kd kn (m,names,e):=by
 have lN:(names++z8).length=(ps++kn).length:=by simp;lia
 have z3:=List.zip_append (r₁:=z8) (r₂:=kn) ln;have val:∀x k,(x,k)∈(names++z8).zip (ps++kn)->By ((names++z8).map ky) (ps.map .str++kn.map .str) (ky x)=some (.str k):=λx k h=>by have:=OC (by rw[rL (by lia)];exact nd) h;rwa[(LR lN),(LP lN),qh (f:=T.str)]at this
 obtain⟨kf,hkf⟩:∃kf:Str->Str,∀x k,(x,k)∈(names++z8).zip (ps++kn)->kf x=k:=⟨λx=>match By ((names++z8).map ky) (ps.map .str++kn.map .str) (ky x)with|some (.str k)=>k|_=>"",λx k h=>by simp only[val x k h]⟩
 have n3:∀X,((D++[(⟨own,kd.1::kn,k1,z8,X⟩:Fd)]).map Fd.nm).Nodup:=λX=>by rw[qh];exact qc.mpr ⟨n2,by simp,λa ma b mb e=>ho (by have hb:b=own:=qj.mp mb;rw[<- hb,<- e];exact ma)⟩
 refine⟨l2,nd,nm,ps,_,_,kf,hr,ln,λaA au=>⟨W,val,λf qs k ts h=>?_⟩,λx mx=>?_,te⟩
 .rcases h with⟨g,mg,rfl,rfl,rfl⟩|⟨rfl,rfl,rfl,x,mx,ex⟩
  .exact⟨K1 (n3 X) (qk _ mg),λh=>absurd (qm.mpr ⟨g,mg,h⟩) ho⟩
  .refine⟨K1 (n3 X) (qt _ (qj.mpr rfl)),λ_=>⟨x,?_,ex⟩⟩;obtain⟨⟨a,b⟩,mq,rfl⟩:=qm.mp mx;obtain⟨mq,eq⟩:=rS.mp mq;exact rS.mpr ⟨(rJ mq).1,qP ((hkf a b (by rw[z3];exact qk _ mq)).trans (qG eq))⟩
 .have:x∈(names.zip ps).map (·.1):=by rw[rL (by lia)];exact mx
  obtain⟨⟨a,b⟩,mq,rfl⟩:=qm.mp this;have mq:(a,b)∈(names++z8).zip (ps++kn):=by rw[z3];exact qk _ mq
  rw[hkf a b mq];exact val a b mq
section
variable{K:Kd}(W:Well K){D:List Fd}
include W
theorem Jw(num:Int):∃kd∈K,atI (K.map Bq) (num%((K.map Bq).length:Int))=some (Bq kd):=B2 (λh=>by have:=W.lo;simp[h]at this) Bq num
theorem function(n2:(D.map Fd.nm).Nodup)(l2:D.length<=100)(hD:∀g∈D,∀x∈g.ks,x∈K.map (·.1))(hK:K.length<=3)(h3:∀g∈D,g.ks.length<=100){own:Str}(ho:own∉D.map Fd.nm)(num:Int):
  ∃g:Fd,g.nm=own/\Fun1 K D g/\∃τ,CF [vl (kT K),vl (.str own),vl (.dF (hkD D) (hvD D)),iv num]=.ok (.t g.t) τ:=by
 obtain⟨pl,wd,_,w1,w2,hw⟩:=words (num/11) (c:=4) (by lia);have Wd:Wds (num/11) wd:=⟨pl,w2⟩
 obtain⟨c,hc,ec⟩:∃c:Nat,c<=2/\1+num%3=((1+c:Nat):Int):=⟨(num%3).toNat,by lia,by lia⟩
 obtain⟨kds,hkds⟩:∃kds,F2 (λ(i:Nat) kd=>i<1+c/\kd∈K/\atI (K.map Bq) (num/(3+2*(i:Int))%((K.map Bq).length:Int))=some (Bq kd)) (List.range (1+c)) kds:=UQ λi m=>let⟨kd,a,b⟩:=Jw W (num/(3+2*(i:Int)));⟨kd,rX.mp m,a,b⟩
 obtain⟨k1,l8,pM⟩:=Jw W (num/100);have kl:0<(K.map Bq).length:=by rw[qe];exact W.lo
 have lk:=hkds.len;rw[rH]at lk;obtain⟨kd,ks,rfl⟩:∃kd ks,kds=kd::ks:=by cases kds with|nil=>simp at lk|cons a b=>exact⟨a,b,rfl⟩
 suffices hs:∃r τ,CF [vl (kT K),vl (.str own),vl (.dF (hkD D) (hvD D)),iv num]=.ok r τ/\∃g:Fd,r=.t g.t/\g.nm=own/\Fun1 K D g by obtain⟨_,τ,e,g,rfl,a,b⟩:=hs;exact⟨g,a,b,τ,e⟩
 apply E3;unfold FF;trivial
 .lia
 trivial
 .apply QC
  .trivial
  .exact F2.JaV (f:=λkd:Str×List (Str×List Str)=>T.str kd.1) (hkds.imp λi kd ⟨hi,m,h⟩=>by trivial)
  .simp;lia
 trivial
 .apply ZG (n:=2) (m:=1+(1+c))
  .rfl
  .simp at lk ⊢;lia
  .exact⟨by lia,by rw[qe];lia⟩
 trivial;rw[<- List.map_drop,<- sY,show 1+(1+c)-2=c by lia,show(kd::ks).map (λkd=>T.str kd.1)=(kd.1::ks.map (·.1)).map T.str by simp];have mk:kd∈K:=let⟨_,_,h,_⟩:=hkds.r kd qB;h;have mks:∀x∈ks.map (·.1),x∈K.map (·.1):=λx mx=>by obtain⟨z,mz,rfl⟩:=qm.mp mx;obtain⟨_,_,h,_⟩:=hkds.r z (qf _ mz);exact qm.mpr ⟨z,h,rfl⟩
 obtain⟨z8,hoth⟩:∃z8,z8=(wd.drop 2).take c:=⟨_,rfl⟩
 obtain⟨kn,ib⟩:∃kn,kn=ks.map (·.1):=⟨_,rfl⟩
 have pU:kn.length=c:=by rw[ib];simp at lk ⊢;lia
 have lo:z8.length=c:=by rw[hoth];simp;lia
 rw[<- ib]at mks ⊢;rw[<- hoth];obtain⟨_,jg⟩:=makers W mk;apply BQ (I:=λ(Z:List ((Str×List Str)×Nat)) fs=>∃(rows:List (Str×List Str×T))(nu:Int)(y9 aQ bW dk cF dm fM:Option Sl),fs=[vl (kT K),vl (.str own),vl (.dF (hkD D) (hvD D)),iv nu,vl (.lst (wd.map .str)),vl (.lst ((kd.1::kn).map .str)),vl (.str k1.1),vl (.lst (z8.map .str)),some (.own (.lst (rows.map rwT))),y9,aQ,bW,dk,cF,dm,fM]/\(Fre y9/\Fre aQ/\Fre bW/\Fre dk/\Fre cF/\Fre dm/\Fre fM)/\rows.map (·.1)=Z.map (λq=>q.1.1)/\∀r∈rows,∀X,ROk K D ⟨own,kd.1::kn,k1.1,z8,X⟩ kd kn r) (xs:=kd.2.zipIdx) (p:=λq=>.tup [.int q.2,Dv q.1])
 case hi =>rw[<- ES Dv kd.2 0];trivial
 case h0=>exact⟨[],_,_,_,_,_,_,_,_,rfl,⟨True.intro,True.intro,True.intro,True.intro,True.intro,True.intro,True.intro⟩,rfl,λ_ m=>nomatch m⟩
 case st =>
  rintro Z ⟨⟨m,ps⟩,i⟩ R _ e ⟨rows,nu,y9,aQ,bW,dk,cF,dm,fM,rfl,⟨f9,bB,f11,f12,f13,f14,f15⟩,hrw,z9⟩
  have hi:=rR.mp (mem_mid e);have hr:=qV hi;have hi:=(ql.mp hi).1;have h4:=(W.rw kd mk).2;have oI:ps.length<=2:=W.two kd mk _ hr;obtain⟨v,_,hm⟩:=mix (nu%10^18) (k:=70+i) (by lia);rw[show((70+i:Nat):Int)=70+(i:Int) by lia]at hm;have nd:(wd.take ps.length++z8).Nodup:=by
   refine List.Nodup.sublist ?_ (Wd.nd (by lia));rw[hoth,<- sN 2 wd];refine List.Sublist.append ?_ ?_
   .rw[sN];exact List.take_sublist_take_left oI
   .rw[sN];exact sV _ _
  obtain⟨nms,hnms⟩:∃nms,nms=wd.take ps.length:=⟨_,rfl⟩
  have ln:nms.length=ps.length:=by rw[hnms,qY];lia
  rw[<- hnms]at nd;have lw:∀x∈nms++z8,Lw x:=λx mx=>Wd.lw (by
   rcases qd.mp mx with mx|mx
   .rw[hnms]at mx;exact rq mx
   .rw[hoth]at mx;exact rQ (rq mx))
  have nm:∀x∈nms++z8,Lw x:=λx mx=>lw x mx
  have lN:(nms++z8).length=(ps++kn).length:=by simp;lia
  have z1:=LR lN;have z2:=LP lN;have z3:=List.zip_append (l₁:=nms) (l₂:=ps) (r₁:=z8) (r₂:=kn) ln;have bd:=λdg=>body (N:=(nms++z8).zip (ps++kn)) (D:=D) W (by rw[rL (by lia)];exact nd) n2 (by rw[sG];simp;lia) l2 (λq mq=>by
   rcases qd.mp (rJ mq).2 with h|h
   .exact W.zd kd mk _ hr _ h
   .exact mks _ h) hD hK h3 l8 (own:=own) (w0:=kd.1) (ws:=kn) (ls:=((nms.zip ps).filter λq=>decide (q.2=kd.1)).map (·.1)) mks (by lia) (by rw[qe];exact qF (List.length_filter_le _ _) (by rw[sG];lia)) (λx mx=>by
   obtain⟨⟨a,b⟩,mq,rfl⟩:=qm.mp mx;obtain⟨mq,eq⟩:=rS.mp mq;rw[z3,<- qG eq];exact qk _ mq) (λq mq h=>by
   have:=(lw _ (rJ mq).1).lo;rw[h]at this;exact absurd this (by decide +kernel)) dg
  have aT:∀e,Ty K (knN ((nms++z8).zip (ps++kn))) (clO D own (kd.1::kn) k1.1 (((nms.zip ps).filter λq=>decide (q.2=kd.1)).map (·.1))) 12 e k1.1->∀r∈rows++[(m,nms,e)],∀X,ROk K D ⟨own,kd.1::kn,k1.1,z8,X⟩ kd kn r:=λe te r mr X=>by
   rcases qd.mp mr with mr|mr
   .exact z9 r mr X
   .rw[qj.mp mr];exact Q5 W n2 ho hr ln (by lia) (by lia) nd nm te
  obtain⟨e1,⟨_,b1⟩,t1⟩:=bd (nu/10^40);obtain⟨e2,⟨_,b2⟩,t2⟩:=bd v;rw[z1,z2,qO,qh (f:=T.str)]at b1 b2;have lr:rows.length<4:=by
   have h1:=B1 e;have h2:=congrArg List.length hrw;simp at h1 h2
   lia
  subst hnms;dsimp only;trivial
  .exact congrArg some qh.symm
  trivial
  .exact nd
  .simp;lia
  trivial
  .rw[D9];apply JN
   .trivial
   .trivial
   .exact λ_=>rfl
   .intro q mq;trivial
   .intro q mq _;trivial
   .simp;lia
  trivial
  .exact⟨rows++[(m,wd.take ps.length,e1)],_,_,_,_,_,_,_,_,by rw[qh (f:=rwT)];rfl,⟨Al,Al,Al,Al,Al,Al,Al⟩,by rw[qh,qh,hrw];rfl,aT e1 t1⟩
  trivial;exact⟨rows++[(m,wd.take ps.length,e2)],_,_,_,_,_,_,_,_,by rw[qh (f:=rwT)];rfl,⟨Al,Al,Al,Al,Al,Al,Al⟩,by rw[qh,qh,hrw];rfl,aT e2 t2⟩
 case k =>
  rintro _ ⟨rows,nu,y9,aQ,bW,dk,cF,dm,fM,rfl,⟨f9,bB,f11,f12,f13,f14,f15⟩,hrw,z9⟩
  trivial;refine⟨⟨own,kd.1::kn,k1.1,z8,rows⟩,rfl,rfl,λx mx=>?_,kd,kn,mk,rfl,by show z8.length=_;lia,by lia,?_,λr mr=>z9 r mr _⟩
  .rcases qd.mp mx with mx|mx
   .rcases qA.mp mx with rfl|mx
    .exact qm.mpr ⟨kd,mk,rfl⟩
    .exact mks x mx
   .rw[qj.mp mx];exact qm.mpr ⟨k1,l8,rfl⟩
  .show rows.map (·.1)=_;have:=congrArg (List.map (·.1)) (sA 0 kd.2);rw[qO]at this;exact hrw.trans this
end
section
variable{K:Kd}(W:Well K)
include W
theorem Qk{own:Str}{kd:Str×List (Str×List Str)}(hk:kd∈K){ws:List Str}(lw:ws.length=2)(nd:ws.Nodup)(nm:∀x∈ws,Lw x):Fun1 K [] ⟨own,[kd.1],kd.1,[],kd.2.map λr=>(r.1,ws.take r.2.length,exP "make" r.1 ((ws.zip r.2).map (cpE own kd.1)))⟩:=by
 have mk:kd.1∈K.map (·.1):=qm.mpr ⟨kd,hk,rfl⟩;refine⟨λx mx=>?_,kd,[],hk,rfl,rfl,by simp,by rw[qO];rfl,λr mr=>?_⟩
 .simp at mx;rcases mx with rfl|rfl<;>exact mk
 .obtain⟨⟨m,ps⟩,m2,rfl⟩:=qm.mp mr;clear mr;dsimp only;have l2:ps.length<=2:=W.two kd hk (m,ps) m2;have tk:(ws.take ps.length).length=ps.length:=by rw[qY];lia
  have zz:ws.zip ps=(ws.take ps.length).zip ps:=by
   conv=>lhs;rw[<- sN ps.length ws]
   rw[<- qS ps,List.zip_append (by rw[qS];exact tk)];simp
  refine Q5 W (by simp) (by simp) m2 tk rfl (by lia) (by simpa using nd.sublist (sV _ _)) (λx mx=>nm x (rq (by simpa using mx))) ?_;refine .inr (.inl ⟨m,ps,_,⟨kd,hk,rfl,m2⟩,?_,rfl⟩);rw[zz];have go:∀(N:List (Str×Str)),(∀q∈N,q∈(ws.take ps.length).zip ps)->F2 (Ty K (knN ((ws.take ps.length++[]).zip (ps++[]))) (clO [] own [kd.1] kd.1 ((((ws.take ps.length).zip ps).filter λq=>decide (q.2=kd.1)).map (·.1))) 11) (N.map (cpE own kd.1)) (N.map (·.2)):=by
   intro N
   induction N with
   |nil=>exact λ_=>.nil
   |cons q N ih =>
    intro h;refine .cons ?_ (ih λq m=>h q (qf _ m));have mq:=h q qB;have l9:q∈(ws.take ps.length++[]).zip (ps++[]):=by simpa using mq
    show Ty _ _ _ 11 (cpE own kd.1 q) q.2;unfold cpE;by_cases hq:q.2=kd.1
    .rw[if_pos hq,hq];refine .inr (.inr ⟨own,[kd.1],_,.inr ⟨rfl,rfl,rfl,q.1,qm.mpr ⟨q,rS.mpr ⟨mq,qP hq⟩,rfl⟩,rfl⟩,.cons (.inl ⟨q.1,?_,rfl⟩) .nil,rfl⟩);rw[<- hq];exact l9
    .rw[if_neg hq];exact .inl ⟨q.1,l9,rfl⟩
  have:=go ((ws.take ps.length).zip ps) (λ_ m=>m);rwa[List.map_snd_zip (by lia)]at this
end
mutual
theorem Kf:∀ts:List T,(∀t∈ts,noD t=true)->Ru ts=true
 | [],_=>by simp[Ru]
 |t::ts,h=>by simp[Ru,h t qB,Kf ts λt m=>h t (qf _ m)]
end
theorem E6:noD (.str s)=true:=by simp[noD]
theorem Ea(h:∀t∈ts,noD t=true):noD (.tup ts)=true:=by rw[noD];exact Kf ts h
theorem GQ(xs:List Str):noD (.tup (xs.map .str))=true:=Ea λt m=>by obtain⟨x,_,rfl⟩:=qm.mp m;exact E6
theorem Ty.noD:∀{n:Nat}{t:T}{k:Str},Ty K kn cl n t k->noD t=true
 |n+1,t,k,h=>by
  rcases h with⟨x,a,rfl⟩|⟨f,ps,ts,a,b,rfl⟩|⟨f,ps,ts,a,b,rfl⟩
  .simp[exN,FL.noD,FL.Ru]
  all_goals
   have:∀t∈ts,FL.noD t=true:=λt m=>by obtain⟨p,h⟩:=b.flip.r t m;exact Ty.noD h
   exact Ea λt m=>by
    simp at m;rcases m with rfl|rfl|rfl
    .exact E6
    .exact E6
    .exact Ea this
theorem X7(h:Fun1 K D g):noD g.t=true:=by
 obtain⟨kd,ks,_,_,_,_,_,hr⟩:=h.ex;refine Ea λt m=>?_
 simp only[qA,qW,or_false]at m;rcases m with rfl|rfl|rfl|rfl|rfl
 .exact E6
 .exact GQ _
 .exact E6
 .exact GQ _
 .refine Ea λt m=>?_
  obtain⟨r,mr,rfl⟩:=qm.mp m;obtain⟨ps,kn,cl,kf,_,_,_,_,ht⟩:=(hr r mr).ex;exact Ea λt m=>by
   simp only[qA,qW,or_false]at m;rcases m with rfl|rfl
   .exact GQ _
   .exact ht.noD
theorem OM{α:Type}{A B G:List α}{x g:α}(h:A++x::B=G++[g]):(A=G/\x=g)\/∃B',A++x::B'=G:=by
 rcases List.eq_nil_or_concat B with rfl|⟨B',b,rfl⟩
 .have:=List.append_inj' h rfl;exact .inl ⟨this.1,by simpa using this.2⟩
 .have h:(A++x::B')++[b]=G++[g]:=by simpa using h
  exact .inr ⟨B',(List.append_inj' h rfl).1⟩
section
variable{K:Kd}(W:Well K)
include W
theorem Fl{ns:List Int}{m:Int}(hK:K.length<=3)(iX:ws.length=16)(hw:Wds m ws)(ip:∀(j:Nat) s,ws[12+j]?=some s->s∉mks K)(h1:∃τ,BI [iv m,iv 16]=.ok (.nw (.lst (ws.map T.str))) τ)(h2:∃τ,BS [iv (ns.getD 2 0),iv 3]=.ok (.t (.int m)) τ):
  ∃G:List Fd,G≠[]/\G.length<=4/\G.map Fd.nm=(ws.drop 12).take G.length/\(∀A g B,A++g::B=G->FOk K A g)/\∃τ,Cb [vl (.z0 (ns.map T.int)),vl (kT K)]=.ok (.nw (.lst (G.map Fd.t))) τ:=by
 obtain⟨_,h1⟩:=h1;obtain⟨_,h2⟩:=h2;have c2:=CG ns 2;have c6:=CG ns 6;obtain⟨num,_,h6⟩:=mix (ns.getD 6 0) (k:=5) (by lia);obtain⟨kd,mk,pN⟩:=Jw W num;have kl:0<(K.map Bq).length:=by rw[qe];exact W.lo
 obtain⟨pl,vs,_,v1,v2,hv⟩:=words (num/5) (c:=2) (by lia);have Vs:Wds (num/5) vs:=⟨pl,v2⟩
 obtain⟨own,hown⟩:∃s,ws[12]?=some s:=⟨_,qb (by lia)⟩
 have a0:atI ((ws.drop 12).map T.str) 0=some (.str own):=A6 (j:=0) (by rw[qH,List.getElem?_drop];simp[hown]);obtain⟨c,hc,ec⟩:∃c:Nat,c<=3/\num/3%4=(c:Int):=⟨(num/3%4).toNat,by lia,by lia⟩
 suffices hs:∃o τ,Cb [vl (.z0 (ns.map T.int)),vl (kT K)]=.ok (.nw o) τ/\∃G:List Fd,o=.lst (G.map Fd.t)/\G≠[]/\G.length<=4/\G.map Fd.nm=(ws.drop 12).take G.length/\(∀A g B,A++g::B=G->FOk K A g) by obtain⟨_,τ,e,G,rfl,a,b,c,d⟩:=hs;exact⟨G,a,b,c,d,τ,e⟩
 have h4:=(W.rw kd mk).2;apply J3;unfold Ez;trivial
 .apply ZJ (n:=12)
  .rw[qe];lia
  .rfl
 rw[<- List.map_drop];trivial
 .apply Hc
  .trivial
  .trivial
  .exact λ_=>rfl
  .intro r mr;have:=W.two kd mk r mr;obtain⟨_,h⟩:=Qy (own:=own) (k:=kd.1) (m:=r.1) (ps:=r.2) (ws:=vs) (by lia) (by lia);trivial
  .lia
 trivial;have dn:(ws.drop 12).Nodup:=(hw.nd (by lia)).sublist (List.drop_sublist _ _);have dl:(ws.drop 12).length=4:=by rw[rV];lia
 have az:∀(G:List Fd)(g:Fd),G.map Fd.nm=(ws.drop 12).take G.length->G.length<4->(ws.drop 12)[G.length]?=some g.nm->Fun1 K G g->FOk K G g:=λG g e l h F=>by have mg:g.nm∈ws:=rQ (qV h);refine⟨Jv (hw.lw mg),λm=>?_,ip G.length _ (by rwa[List.getElem?_drop]at h),F.ind,F.ex⟩;rw[e]at m;obtain⟨i,hi,ei⟩:=sT.mp m;have:=rl.mp dn i G.length (by lia) (by lia) (by lia);rw[ei]at this;exact this (ql.mp h).2.symm
 apply BQ (I:=λ(Z:List Nat) fs=>∃(G:List Fd)(aQ bW:Option Sl),fs=[vl (.z0 (ns.map T.int)),vl (kT K),vl (.lst ((ws.drop 12).map .str)),iv num,vl (.str kd.1),vl (.lst (kd.2.map Dv)),vl (.lst (vs.map .str)),vl (.lst (kd.2.map λr=>.tup [.tup ((vs.take r.2.length).map .str),exP "make" r.1 ((vs.zip r.2).map (cpE own kd.1))])),some (.own (.lst (G.map Fd.t))),some (.own (.o (hkD G) (hvD G))),aQ,bW]/\Fre aQ/\Fre bW/\G.length=1+Z.length/\G.map Fd.nm=(ws.drop 12).take G.length/\∀A g B,A++g::B=G->FOk K A g) (xs:=List.range c) (p:=λi=>.int (i:Nat))
 case hi =>
  trivial
  lia
 case h0 =>
  have ow:(ws.drop 12)[0]?=some own:=by rw[List.getElem?_drop];exact hown
  refine⟨[⟨own,[kd.1],kd.1,[],kd.2.map λr=>(r.1,vs.take r.2.length,exP "make" r.1 ((vs.zip r.2).map (cpE own kd.1)))⟩],none,none,by simp only[qi,sf,Fd.t,qO];rfl,True.intro,True.intro,rfl,?_,λA g B e=>?_⟩
  .cases hd:ws.drop 12 with|nil=>rw[hd]at dl;cases dl|cons a l=>rw[hd]at ow;cases ow;rfl
  .cases A with|nil =>obtain⟨rfl,rfl⟩:=List.cons.inj e;exact az [] _ rfl (by decide) ow (Qk W mk v1 (Vs.nd (by lia)) λx mx=>Vs.lw mx)|cons a A=>cases A<;>cases e
 case st =>
  rintro Z i R _ e ⟨G,aQ,bW,rfl,bB,f11,lG,nG,hG⟩
  have lZ:=B1 e;rw[rH]at lZ;have hi:i=Z.length:=by have:=congrArg (λl:List Nat=>l[Z.length]?) e;simp only[rK (qz _),Nat.sub_self,sH]at this;rw[List.getElem?_range lZ]at this;exact Option.some.inj this
  subst hi;obtain⟨own',bE⟩:∃s,(ws.drop 12)[G.length]?=some s:=⟨_,qb (by lia)⟩
  have a1:atI ((ws.drop 12).map T.str) (1+(Z.length:Int))=some (.str own'):=by rw[show(1:Int)+(Z.length:Int)=(G.length:Nat) by lia];exact A6 (by rw[qH,bE];rfl)
  have ck:=CG ns (7+Z.length);rw[show((7+Z.length:Nat):Int)=7+(Z.length:Int) by lia]at ck;obtain⟨nu,_,hm⟩:=mix (ns.getD (7+Z.length) 0) (k:=7) (by lia);have g6:∀g∈G,∃A,FOk K A g:=λg mg=>let⟨A,B,e⟩:=r8 mg;⟨A,hG A g B e.symm⟩
  have m9:(G.map Fd.nm).Nodup:=by rw[nG];exact dn.sublist (sV _ _)
  have new:own'∉G.map Fd.nm:=λm=>by rw[nG]at m;obtain⟨i,hi,ei⟩:=sT.mp m;have:=rl.mp dn i G.length (by lia) (by lia) (by lia);rw[ei]at this;exact this (ql.mp bE).2.symm
  obtain⟨g,rfl,hF,_,fw⟩:=function (D:=G) W m9 (by lia) (λg mg x mx=>by obtain⟨A,O⟩:=g6 g mg;exact O.ind x (qk _ mx)) hK (λg mg=>by obtain⟨A,O⟩:=g6 g mg;obtain⟨kd,ks,_,e,_,h,_⟩:=O.ex;rw[e];simp;lia) new nu;have nD:=X7 hF;have pS:=kyD new;trivial;refine⟨G++[g],_,_,by simp only[hkD,hvD,qh];rfl,Al,Al,by simp;lia,?_,λA g' B e=>?_⟩
  .rw[qh,nG,qv,qT,List.take_add_one,bE];rfl
  .rcases OM e with⟨rfl,rfl⟩|⟨B',e⟩
   .exact az A g' nG (by lia) bE hF
   .exact hG A g' B' e
 case k =>
  rintro _ ⟨G,aQ,bW,rfl,bB,f11,lG,nG,hG⟩
  trivial;rw[rH]at lG;exact Zh rfl ⟨G,rfl,λh=>by rw[h,List.length_nil]at lG;lia,by lia,nG,hG⟩
end
theorem Of(hv:∀kd∈K,∀r∈kd.2,r.1=m->v=.tup [.str kd.1,.tup (r.2.map .str)])(h0:m∉mks K->v=.l):∃τ,DV [vl (kT K),vl (.str m)]=.ok (.t v) τ:=by
 have inner:∀kd∈K,∀y4 y5,Fre y4->Fre y5->Sat (λso=>(m∈kd.2.map (·.1)/\∃τ,so=.ret (.t v) τ)\/m∉kd.2.map (·.1)/\∃y4 y5,so=.nx [vl (kT K),vl (.str m),vl (.str kd.1),vl (.lst (kd.2.map Dv)),y4,y5]/\Fre y4/\Fre y5) (BR (itU (fz (Aa 3))) (Aw 2 (Af (tgN 4) (Af (tgN 5) Au))) (ifS (asB (Ae (gEq false) (Aa 4) (Aa 1))) (retS (An AD (Ab (fz (Aa 2)) (Ab (fz (Aa 5)) Ag)))) nxS) [vl (kT K),vl (.str m),vl (.str kd.1),vl (.lst (kd.2.map Dv)),y4,y5]):=by
  intro kd mk y4 y5 f4 f5;apply Q9 (p:=Dv) (ok:=λr=>if r.1=m then some "" else none) (I:=λfs=>∃y4 y5,fs=[vl (kT K),vl (.str m),vl (.str kd.1),vl (.lst (kd.2.map Dv)),y4,y5]/\Fre y4/\Fre y5) (E:=λ_ so=>∃τ,so=.ret (.t v) τ)
  case hi=>trivial
  case hE=>rintro _ _ ⟨τ,rfl⟩;exact True.intro
  case h1=>exact⟨_,_,rfl,f4,f5⟩
  case s0 =>
   rintro r mr ho _ ⟨y4,y5,rfl,f4,f5⟩
   have h:¬r.1=m:=λh=>by simp[h]at ho
   trivial;exact⟨_,_,rfl,Al,Al⟩
  case s1 =>
   rintro r mr c ho _ ⟨y4,y5,rfl,f4,f5⟩
   have h:r.1=m:=by by_cases h:r.1=m;exact h;simp[h]at ho
   trivial
   .exact q_i ⟨_,by rw[(hv kd mk r mr h)]⟩
   trivial
  case k0 =>
   rintro e _ ⟨y4,y5,rfl,f4,f5⟩
   exact .inr ⟨λmm=>by obtain⟨r,mr,e2⟩:=qm.mp mm;have:=sh.mp e r mr;simp[e2]at this,y4,y5,rfl,f4,f5⟩
  case k1 =>
   intro c e so h;obtain⟨r,mr,er⟩:=rB e;by_cases hr:r.1=m
   .exact .inl ⟨qm.mpr ⟨r,mr,hr⟩,h⟩
   .simp[hr]at er
 apply AU;unfold KR;apply E4 (xs:=K) (p:=Bq) (ok:=λkd=>if m∈kd.2.map (·.1)then some "" else none) (I:=λfs=>∃y2 y3 y4 y5,fs=[vl (kT K),vl (.str m),y2,y3,y4,y5]/\Fre y2/\Fre y3/\Fre y4/\Fre y5) (E:=λ_ so=>∃τ,so=.ret (.t v) τ)
 case hi=>trivial
 case hE=>rintro _ _ ⟨τ,rfl⟩;exact True.intro
 case h1=>exact⟨none,none,none,none,rfl,True.intro,True.intro,True.intro,True.intro⟩
 case s0 =>
  rintro kd mk ho _ ⟨y2,y3,y4,y5,rfl,f2,f3,f4,f5⟩
  trivial;refine Gg (inner kd mk y4 y5 f4 f5) ?_
  rintro _ (⟨h,_⟩|⟨_,y4,y5,rfl,f4,f5⟩)
  .rw[if_pos h]at ho;cases ho
  .exact⟨_,rfl,_,_,_,_,rfl,Al,Al,f4,f5⟩
 case s1 =>
  rintro kd mk c ho _ ⟨y2,y3,y4,y5,rfl,f2,f3,f4,f5⟩
  trivial;refine Gg (inner kd mk y4 y5 f4 f5) ?_
  rintro _ (⟨_,h⟩|⟨h,_⟩)
  .exact h
  .rw[if_neg h]at ho;cases ho
 case k0 =>
  rintro e _ ⟨y2,y3,y4,y5,rfl,f2,f3,f4,f5⟩
  rw[h0 λmm=>by obtain⟨kd,mk,hm⟩:=rA.mp mm;have:=sh.mp e kd mk;rw[if_pos hm]at this;cases this];trivial
 case k1 =>
  rintro c e _ ⟨τ,rfl⟩
  exact q_o (OV True.intro rfl)
abbrev scT(aA au:Addr)(K:Kd)(N:List (Str×Str))(G:List Fd)(o:Str)(ls:List Str):T:=.ins aA SF [stT au K,.o (hkD G) (hvD G),.o (nK N) (nV N),.str o,.lst (ls.map exN)]
section
variable{aA au:Addr}{K:Kd}{N:List (Str×Str)}{G:List Fd}{x m o:Str}{ls:List Str}{t:T}
theorem JaY(h:By (nK N) (nV N) (.inr x:Key)=some t):∃τ,BG aA [vl (scT aA au K N G o ls),vl (.str x)]=.ok (.t t) τ:=by apply AU;trivial
theorem JaZ(h:By (nK N) (nV N) (.inr x:Key)=none)(hx:A9 x=true):∃τ,BG aA [vl (scT aA au K N G o ls),vl (.str x)]=.exc "NoName" τ:=by apply Cn;trivial
theorem Ja6(W:Well K)(hk:kd∈K)(hr:(m,ps)∈kd.2):∃τ,AG aA au [vl (scT aA au K N G o ls),vl (.str "make"),vl (.str m)]=.ok (.t (.tup [.tup (ps.map .str),.str kd.1])) τ:=by obtain⟨_,h1⟩:=E1 W hk hr;have h2:=Sz (C:=au) W hk hr;apply AU;unfold B5;trivial
theorem Ja7(h:m∉mks K)(hx:A9 m=true):∃τ,AG aA au [vl (scT aA au K N G o ls),vl (.str "make"),vl (.str m)]=.exc "NoMaker" τ:=by
 have h:=BY (ts:=Mv K) (show(.inr m:Key)∉BC K from Ih h);obtain⟨_,e⟩:∃τ,Bs au [vl (stT au K),vl (.str m)]=.exc "NoMaker" τ:=by apply Cn;unfold D2 stT CM;trivial
 apply Cn;unfold B5;apply CP
 .trivial
 .intro _;apply SM
  .apply YM;apply YN;apply UX;apply Zm;apply e_m1
   .trivial
   .trivial
   .exact e
   .trivial
  exact Zg
 .trivial
theorem Ja8(h:By (hkD G) (hvD G) (.inr m:Key)=some t):∃τ,AG aA au [vl (scT aA au K N G o ls),vl (.str "call"),vl (.str m)]=.ok (.t t) τ:=by apply AU;trivial
theorem Ja9(h:By (hkD G) (hvD G) (.inr m:Key)=none)(hx:A9 m=true):∃τ,AG aA au [vl (scT aA au K N G o ls),vl (.str "call"),vl (.str m)]=.exc "NoFunction" τ:=by apply Cn;trivial
end
def okZ(z:T×Str×Bool×Str):Option Str:=if z.2.2.1=true then some z.2.2.2 else if z.2.2.2=z.2.1 then none else some "BadKind"
theorem W8(h:okZ z=none):z.2.2.1=false/\z.2.2.2=z.2.1:=by
 unfold okZ at h;split at h
 .cases h
 .split at h
  .exact⟨by simpa using ‹¬z.2.2.1=true›,‹_›⟩
  .cases h
theorem Tp(h:okZ z=some c):(z.2.2.1=true/\z.2.2.2=c)\/z.2.2.1=false/\¬z.2.2.2=z.2.1/\c="BadKind":=by
 unfold okZ at h;split at h
 .exact .inl ⟨‹_›,Option.some.inj h⟩
 .split at h
  .cases h
  .exact .inr ⟨by simpa using ‹¬z.2.2.1=true›,‹_›,(Option.some.inj h).symm⟩
theorem Xl{P:T->Bool->Str->Prop}:∀{ts:List T}{ps:List Str},ts.length=ps.length->(∀t∈ts,∃b c,P t b c)->∃zs:List (T×Str×Bool×Str),ts=zs.map (·.1)/\ps=zs.map (·.2.1)/\∀z∈zs,P z.1 z.2.2.1 z.2.2.2
 | [],[],_,_=>⟨[],rfl,rfl,nofun⟩
 |t::ts,p::ps,h,q=>by
  obtain⟨zs,rfl,rfl,hz⟩:=Xl (by simpa using h) λt m=>q t (qf _ m)
  obtain⟨b,c,hp⟩:=q t qB;exact⟨(t,p,b,c)::zs,rfl,rfl,λz m=>(qA.mp m).elim (λe=>by rwa[e]) (hz z)⟩
theorem O5:∀zs:List (T×Str×Bool×Str),FL.pairs (zs.map (·.1)) ((zs.map (·.2.1)).map .str)=zs.map (λz=>.tup [z.1,.str z.2.1])/\FL.pairs ((zs.map (·.2.1)).map .str) (zs.map (·.1))=zs.map λz=>.tup [.str z.2.1,z.1]
 | []=>⟨rfl,rfl⟩
 |z::zs=>⟨by simp only[qi,FL.pairs,(O5 zs).1],by simp only[qi,FL.pairs,(O5 zs).2]⟩
def Wx(l:Nat):Nat->T->Prop
 |0,_=>False
 |n+1,t=>(∃x,A9 x=true/\t=exN x)\/∃(f m:Str)(ts:List T),(f="make"\/f="call")/\A9 m=true/\ts.length<=l/\(∀u∈ts,Wx l n u)/\t=exP f m ts
theorem Z0(hc:c fs=.ok b af)(hb:b=true)(e:s af=r):ifS c s s' fs=r:=by subst hb;exact M4 hc e
theorem Oz(hc:c fs=.ok b af)(hb:b=false)(e:s' af=r):ifS c s s' fs=r:=by subst hb;exact M6 hc e
theorem YK(y f m:Str)(ts:List T):eqT 9 (exN y) (exP f m ts)=some false:=by simp[eqT,exN,exP,EB,Oo,plV]
theorem RC(f m:Str)(ts:List T):∀ls:List Str,Ol (exP f m ts) (ls.map exN)=some false
 | []=>rfl
 |y::ls=>by simp[Ol,YK,RC f m ts ls]
theorem Xh{ls:List Str}{t:T}{fs:FS}(w:Wx l n t)(h:¬ ∃x∈ls,t=exN x):Im (.t t) (.t (.lst (ls.map exN))) fs=.ok (.t (.v true)) fs:=by
 match n,w with
 |n+1,w =>
  unfold Im;rcases w with⟨x,_,rfl⟩|⟨f,m,ts,_,_,_,_,rfl⟩
  .have:x∉ls:=λm=>h ⟨x,m,rfl⟩
   simp only[Du,rg,Fh,this];rfl
  .simp only[Du,rg,RC];rfl
section
variable(aA au:Addr)(o:Str)(ls:List Str){K:Kd}(W:Well K){N:List (Str×Str)}{G:List Fd}(n1:(N.map (·.1)).Nodup)(n2:(G.map Fd.nm).Nodup)(hK:∀kd∈K,Lw kd.1)(hN:∀p∈N,p.2∈K.map (·.1))(hG:∀g∈G,g.k∈K.map (·.1)/\g.ks≠[]/\g.ks.length<=100/\∀x∈g.ks,Lw x)
abbrev fK(K:Kd)(N:List (Str×Str))(G:List Fd)(n:Nat)(t:T):Out Rv:=G5 n [vl (kT K),vl (.o (nK N) (nV N)),vl (.dF (hkD G) (hvD G)),vl (.str o),vl (.lst (ls.map .str)),vl t]
def Kst(K:Kd)(N:List (Str×Str))(G:List Fd)(n:Nat)(t:T)(b:Bool)(c:Str):Prop:=(∃τ,fK o ls K N G n t=.ok (.t (.str c)) τ)/\(b=false->c∈K.map (·.1)/\∃τ,Ba aA au n [vl (scT aA au K N G o ls),vl t]=.ok (.t (.str c)) τ)/\(b=true->c∈Qs/\∃τ,Ba aA au n [vl (scT aA au K N G o ls),vl t]=.exc c τ)
include W n1 n2 hK hN hG
theorem both{l:Nat}(hl:l<=100):∀(n:Nat)(t:T),Wx l n t->∃b c,Kst aA au o ls K N G n t b c
 |n+1,t,h=>by
  have lS:∀c∈K.map (·.1),Lw c:=λc mc=>by obtain⟨kd,mk,rfl⟩:=qm.mp mc;exact hK kd mk
  rcases h with⟨x,hx,rfl⟩|⟨f,m,ts,hf,hm,lt,ht,rfl⟩
  .unfold exN;by_cases h:x∈N.map (·.1)
   .obtain⟨p,mp,rfl⟩:=qm.mp h;have h:=OC n1 mp;obtain⟨_,e⟩:=JaY (aA:=aA) (au:=au) (K:=K) (G:=G) h;refine⟨false,p.2,?_,λ_=>⟨hN p mp,?_⟩,nofun⟩
    .apply AU;unfold DH;trivial
    .apply AU;unfold AQ;trivial
   .have h:=BY (ts:=nV N) (show(.inr x:Key)∉nK N by have:=Ih h;rwa[qO]at this);obtain⟨_,e⟩:=JaZ (aA:=aA) (au:=au) (K:=K) (G:=G) h hx;refine⟨true,"NoName",?_,nofun,λ_=>⟨by decide +kernel,?_⟩⟩
    .apply AU;unfold DH;trivial
    .apply Cn;unfold AQ;apply CP
     .trivial
     .intro _;apply SM
      .apply YM;apply JbI
       .trivial
       .exact e
      exact Zg
     .trivial
  .have ez:=hm;obtain⟨v,iC,iD⟩:∃v:T,(∀kd∈K,∀r∈kd.2,r.1=m->v=.tup [.str kd.1,.tup (r.2.map .str)])/\(m∉mks K->v=.l):=by
    by_cases hmm:m∈mks K
    .obtain⟨kd,mk,hr⟩:=rA.mp hmm;obtain⟨r,mr,rfl⟩:=qm.mp hr;exact⟨.tup [.str kd.1,.tup (r.2.map .str)],λlU mk' r' iI e=>by have:=Ht W mk mr;have e1:=Ht W mk' iI;have e2:=F8 W mk mr;have e3:=F8 W mk' iI;rw[e]at e1 e3;rw[Option.some.inj (this.symm.trans e1),Option.some.inj (e2.symm.trans e3)],λh=>absurd hmm h⟩
    .exact⟨.l,λkd mk r mr e=>absurd (e▸Ed mk mr) hmm,λ_=>rfl⟩
   obtain⟨_,lm⟩:=Of iC iD;have hd:(∃(k:Str)(ps:List Str),k∈K.map (·.1)/\(ps.length<=100/\(∀x∈ps,Lw x)/\(f="call"->ps≠[]))/\(f="make"/\v=.tup [.str k,.tup (ps.map .str)]\/f="call"/\By (hkD G) (hvD G) (.inr m:Key)=some (.tup [.tup (ps.map .str),.str k]))/\∃τ,AG aA au [vl (scT aA au K N G o ls),vl (.str f),vl (.str m)]=.ok (.t (.tup [.tup (ps.map .str),.str k])) τ)\/∃c∈Qs,(f="make"/\v=.l/\c="NoMaker"\/f="call"/\By (hkD G) (hvD G) (.inr m:Key)=none/\c="NoFunction")/\∃τ,AG aA au [vl (scT aA au K N G o ls),vl (.str f),vl (.str m)]=.exc c τ:=by
    rcases hf with rfl|rfl
    .by_cases hmm:m∈mks K
     .obtain⟨kd,mk,hr⟩:=rA.mp hmm;obtain⟨r,mr,rfl⟩:=qm.mp hr;exact .inl ⟨kd.1,r.2,qm.mpr ⟨kd,mk,rfl⟩,⟨by have:=W.two kd mk r mr;lia,λx mx=>by obtain⟨kd,m1,rfl⟩:=qm.mp (W.zd kd mk r mr x mx);exact hK kd m1,λh=>absurd h ED.2.2.2⟩,.inl ⟨rfl,iC kd mk r mr rfl⟩,Ja6 W mk mr⟩
     .exact .inr ⟨_,by decide +kernel,.inl ⟨rfl,iD hmm,rfl⟩,Ja7 hmm ez⟩
    .by_cases hmm:m∈G.map Fd.nm
     .obtain⟨g,mg,rfl⟩:=qm.mp hmm;exact .inl ⟨g.k,g.ks,(hG g mg).1,⟨(hG g mg).2.2.1,(hG g mg).2.2.2,λ_=>(hG g mg).2.1⟩,.inr ⟨rfl,K1 n2 mg⟩,Ja8 (K1 n2 mg)⟩
     .have hn:=BY (ts:=hvD G) (kyD hmm);exact .inr ⟨_,by decide +kernel,.inr ⟨rfl,hn,rfl⟩,Ja9 hn ez⟩
   clear iC iD;have fw:¬f="name":=by rcases hf with rfl|rfl;exact ED.2.1;exact ED.2.2.1
   unfold exP;rcases hd with⟨k,ps,hk,⟨l1,l2,l3⟩,a,⟨_,e⟩⟩|⟨c,mc,a,⟨_,e⟩⟩
   .by_cases hl:ts.length=ps.length
    .by_cases hC:(f="call"/\m=o)/\¬ ∃x∈ls,ts[0]?=some (exN x)
     .obtain⟨⟨ef,em⟩,hC⟩:=hC;obtain⟨t0,ts,rfl⟩:∃t0 fL,ts=t0::fL:=by cases ts with|nil=>exact absurd (List.length_eq_zero_iff.mp hl.symm) (l3 ef)|cons t ts=>exact⟨t,ts,rfl⟩
      have hC:¬ ∃x∈ls,t0=exN x:=λ⟨x,mx,e⟩=>hC ⟨x,mx,by rw[e];rfl⟩
      have w0:=ht t0 qB;subst ef;have hv:=(a.resolve_left λh=>ED.1 h.1).2;have h:ps.length=(t0::ts).length:=hl.symm;refine⟨true,"NotLess",?_,nofun,λ_=>⟨by decide +kernel,?_⟩⟩
      .obtain⟨y,z,us,et,ho⟩:∃(y z:Str)(us:List T),t0=.tup (.str y::.str z::us)/\(y="name"->z∉ls):=by
        match n,w0 with
        |n+1,w0 =>
         rcases w0 with⟨x,_,rfl⟩|⟨f,m,ts,hf,_,_,_,rfl⟩
         .exact⟨_,_,_,rfl,λ_ mx=>hC ⟨x,mx,rfl⟩⟩
         .exact⟨_,_,_,rfl,λe=>by rcases hf with rfl|rfl;exact absurd e ED.2.1;exact absurd e ED.2.2.1⟩
       subst et;apply AU;unfold DH;trivial;apply CP
       .apply CT
        .trivial
        intro _;trivial
       .intro _;apply CP
        .apply Et
         .trivial
         .trivial
        .intro _;trivial
        .intro hb;by_cases hy:y="name"
         .simp[hy,ho hy]at hb
         .simp[hy]at hb
       .intro hb;simp[em]at hb
      .apply Cn;unfold AQ;trivial;apply CP
       .apply CT
        .trivial
        intro _;apply CT
        .trivial
        intro _;trivial;exact Xh w0 hC
       .intro _;trivial
       .intro hb;simp[em]at hb
     have hL:f="call"/\m=o->∃x∈ls,ts[0]?=some (exN x):=λh=>Classical.byContradiction λq=>hC ⟨h,q⟩
     obtain⟨zs,rfl,rfl,hz⟩:=Xl hl λt mt=>both (by assumption) n t (ht t mt)
     have hL:f="call"/\m=o->∃x∈ls,atI (zs.map (·.1)) 0=some (.tup [.str "name",.str x]):=λh=>by obtain⟨x,mx,e⟩:=hL h;exact⟨x,mx,A6 (j:=0) e⟩
     have lk:∃τ,fK o ls K N G (n+1) (.tup [.str f,.str m,.tup (zs.map (·.1))])=.ok (.t (.str ((zs.findSome? okZ).getD k))) τ:=by
      apply AU;unfold DH;apply A2
      .trivial
      apply Mq
      .trivial
      .simp[fw]
      apply D7;apply A2
      .trivial
      apply Gh (J:=λv:T=>[vl (kT K),vl (.o (nK N) (nV N)),vl (.dF (hkD G) (hvD G)),vl (.str o),vl (.lst (ls.map .str)),vl (.tup [.str f,.str m,.tup (zs.map (·.1))]),vl (.str f),vl (.str m),vl v,vl (.str k),vl (.tup ((zs.map (·.2.1)).map .str)),none,none,none]) (P:=λ_=>True)
      .trivial
      .intro hb;rcases a with⟨rfl,rfl⟩|⟨rfl,hv⟩
       .exact⟨_,True.intro,by trivial⟩
       .simp[ED]at hb
      .intro hb;rcases a with⟨rfl,rfl⟩|⟨rfl,hv⟩
       .simp at hb
       .refine⟨v,True.intro,?_⟩;trivial;rw[hv];exact ZE.trans (by trivial)
      .intro v _;trivial;apply A2
       .by_cases hb:f="call"/\m=o
        .obtain⟨x,hx,i0⟩:=hL hb;apply Z0
         .apply CT
          .trivial
          intro _;trivial
         .simp[hb]
         apply Oz
         .apply Et
          .trivial
          .trivial
         .simp[hx]
         rfl
        .apply Oz
         .apply CT
          .trivial
          intro _;trivial
         .simpa using hb
         rfl
       trivial;apply E4 (xs:=zs) (p:=λz=>.tup [.str z.2.1,z.1]) (ok:=okZ) (I:=λfs=>∃t5 t6 t7 t8 bW dk cF,fs=[vl (kT K),vl (.o (nK N) (nV N)),vl (.dF (hkD G) (hvD G)),vl (.str o),vl (.lst (ls.map .str)),vl t5,vl t6,vl t7,vl t8,vl (.str k),vl (.tup ((zs.map (·.2.1)).map .str)),bW,dk,cF]/\Fre bW/\Fre dk/\Fre cF) (E:=λc so=>∃τ,so=.ret (.t (.str c)) τ)
       case hi =>rw[<- (O5 zs).2];trivial
       case hE=>rintro _ _ ⟨τ,rfl⟩;exact True.intro
       case h1=>exact⟨_,_,_,_,_,_,_,rfl,True.intro,True.intro,True.intro⟩
       case s0 =>
        rintro z mz ho _ ⟨t5,t6,t7,t8,bW,dk,cF,rfl,f11,f12,f13⟩
        obtain⟨hb,h⟩:=W8 ho;obtain⟨⟨_,e1⟩,e2,_⟩:=hz z mz;have h1:=MM (lS _ (e2 hb).1);trivial;exact⟨_,_,_,_,_,_,_,rfl,Al,Al,Al⟩
       case s1 =>
        rintro z mz c ho _ ⟨t5,t6,t7,t8,bW,dk,cF,rfl,f11,f12,f13⟩
        obtain⟨⟨_,e1⟩,e2,e3⟩:=hz z mz;rcases Tp ho with⟨hb,rfl⟩|⟨hb,h,rfl⟩
        .have h1:=(e3 hb).1;trivial
         .exact q_i ⟨_,rfl⟩
         trivial
        .have h1:=MM (lS _ (e2 hb).1);trivial
         .exact q_i ⟨_,rfl⟩
         trivial
       case k0 =>
        rintro e _ ⟨t5,t6,t7,t8,bW,dk,cF,rfl,f11,f12,f13⟩
        rw[e];trivial
       case k1 =>
        rintro c e _ ⟨τ,rfl⟩
        rw[e];exact q_o (OV True.intro rfl)
       trivial
     have kw:Sat (λso=>(zs.findSome? okZ=none/\Rr (·=.t (.str k)) so)\/∃c,zs.findSome? okZ=some c/\∃τ,so=.exc c τ) (AQ aA au (Ba aA au n) ([vl (scT aA au K N G o ls),vl (.tup [.str f,.str m,.tup (zs.map (·.1))])]++List.replicate 7 none)):=by
      unfold AQ;apply Mq
      .trivial
      .simp[fw]
      trivial;apply A2
      .by_cases hb:f="call"/\m=o
       .obtain⟨x,hx,i0⟩:=hL hb;apply Oz
        .apply CT
         .trivial
         intro _;apply CT
         .trivial
         intro _;trivial
        .simp
        rfl
       .apply Oz
        .apply CT
         .trivial
         intro h1;apply VR
         .trivial
         .exact qK λh2=>hb ⟨qG h1,h2⟩
        .simp
        rfl
      trivial;apply E4 (xs:=zs) (p:=λz=>.tup [z.1,.str z.2.1]) (ok:=okZ) (I:=λfs=>∃t1 t2 t4 t5 y7 y8,fs=[vl (scT aA au K N G o ls),vl t1,vl t2,vl (.str m),vl t4,vl t5,vl (.str k),y7,y8]/\Fre y7/\Fre y8) (E:=λc so=>∃τ,so=.exc c τ)
      case hi =>rw[<- (O5 zs).1];trivial
      case hE=>rintro _ _ ⟨τ,rfl⟩;exact True.intro
      case h1=>exact⟨_,_,_,_,_,_,rfl,True.intro,True.intro⟩
      case s0 =>
       rintro z mz ho _ ⟨t1,t2,t4,t5,y7,y8,rfl,f7,f8⟩
       obtain⟨hb,h⟩:=W8 ho;obtain⟨_,_,e4⟩:=(hz z mz).2.1 hb;trivial;exact⟨_,_,_,_,_,_,rfl,Al,Al⟩
      case s1 =>
       rintro z mz c ho _ ⟨t1,t2,t4,t5,y7,y8,rfl,f7,f8⟩
       rcases Tp ho with⟨hb,rfl⟩|⟨hb,h,rfl⟩
       .obtain⟨_,_,e4⟩:=(hz z mz).2.2 hb;apply Q8
        .trivial
        apply q_X
        .apply Jcb;apply YQ;apply YO;apply Zm;apply JbI
         .trivial
         .exact e4
        exact q_i ⟨_,rfl⟩
       .obtain⟨_,_,e4⟩:=(hz z mz).2.1 hb;have hp:=Ls (l2 _ (qm.mpr ⟨z,mz,rfl⟩));trivial
      case k0 =>
       rintro e _ ⟨t1,t2,t4,t5,y7,y8,rfl,f7,f8⟩
       trivial;exact q_i (.inl ⟨e,q_o (OV True.intro rfl)⟩)
      case k1=>exact λc e so h=>.inr ⟨c,e,h⟩
     cases e0:zs.findSome? okZ with
     |none =>
      rw[e0]at lk;refine⟨false,k,lk,λ_=>⟨hk,?_⟩,nofun⟩;rcases q_o kw with⟨_,h⟩|⟨c,e,_⟩
      .apply AU;exact q_i h
      .rw[e0]at e;cases e
     |some c =>
      rw[e0]at lk;refine⟨true,c,lk,nofun,λ_=>⟨?_,?_⟩⟩
      .obtain⟨z,mz,ho⟩:=rB e0;rcases Tp ho with⟨hb,rfl⟩|⟨_,_,rfl⟩
       .exact((hz z mz).2.2 hb).1
       .decide +kernel
      .rcases q_o kw with⟨e,_⟩|⟨c,e,h⟩
       .rw[e0]at e;cases e
       .rw[e0]at e;cases e;apply Cn;exact q_i h
    .refine⟨true,"BadCount",?_,nofun,λ_=>⟨by decide +kernel,?_⟩⟩
     .apply AU;unfold DH;rcases a with⟨rfl,rfl⟩|⟨rfl,hv⟩
      .trivial
      .trivial
     .apply Cn;unfold AQ;trivial
   .refine⟨true,c,?_,nofun,λ_=>⟨mc,?_⟩⟩
    .apply AU;unfold DH;rcases a with⟨rfl,rfl,rfl⟩|⟨rfl,hv,rfl⟩
     .trivial
     .trivial
    .apply Cn;unfold AQ;apply Mq
     .trivial
     .simp[fw]
     apply D7;apply A2
     .trivial
     apply SM
     .apply JbJ;apply Zm;apply Jcc
      .trivial
      .exact e
     exact Zg
end
theorem NI:∀{l:List Nat},l.dropWhile p=[]↔∀x∈l,p x=true
 | []=>by simp
 |a::l=>by
  by_cases h:p a=true
  .simp[h,NI]
  .simp[h]
theorem Q0:∀{l:List Nat},∀x∈l.takeWhile p,p x=true
 |a::l,x,m=>by
  rw[List.takeWhile_cons]at m;by_cases h:p a=true
  .rw[if_pos h]at m;rcases qA.mp m with rfl|m
   .exact h
   .exact Q0 x m
  .rw[if_neg h]at m;cases m
theorem Hw(z y:Str):(Txt.stripChars z y).length=0↔∀c∈cds z,y.cps.contains c=true:=by
 have sub:∀lo hi:Nat,(Builtin.Str.strSub z lo hi).length=min hi z.length-lo:=λlo hi=>Array.size_extract
 have hA:(cds z).takeWhile y.cps.contains++(cds z).dropWhile y.cps.contains=cds z:=List.takeWhile_append_dropWhile;have hB:(cds z).drop ((cds z).takeWhile y.cps.contains).length=(cds z).dropWhile y.cps.contains:=by have:=List.drop_left (l₁:=(cds z).takeWhile y.cps.contains) (l₂:=(cds z).dropWhile y.cps.contains);rwa[hA]at this
 have hl:=congrArg List.length hA;rw[qv,<- AO]at hl;have key:(Txt.stripChars z y).length=((cds z).dropWhile y.cps.contains).length-((((cds z).dropWhile y.cps.contains).reverse).takeWhile y.cps.contains).length:=by
  have e1:stripLo y.cps.contains true z=((cds z).takeWhile y.cps.contains).length:=rfl;have e2:stripHi y.cps.contains true z ((cds z).takeWhile y.cps.contains).length=z.length-((((cds z).dropWhile y.cps.contains).reverse).takeWhile y.cps.contains).length:=by show z.length-(((cds z).drop _).reverse.takeWhile _).length=_;rw[hB]
  unfold Txt.stripChars Txt.stripBy;split
  .rename_i h;unfold stripSame at h;rw[e1,e2,qE,beq_iff_eq,beq_iff_eq]at h
   lia
  .unfold stripped;rw[e1,e2,sub]
   lia
 rw[key];constructor
 .intro h;by_cases hn:(cds z).dropWhile y.cps.contains=[]
  .exact NI.mp hn
  .exfalso;have hh:=List.head_dropWhile_not y.cps.contains hn;have:((((cds z).dropWhile y.cps.contains).reverse).takeWhile y.cps.contains).length=(((cds z).dropWhile y.cps.contains).reverse).length:=by
    have:=(List.takeWhile_sublist y.cps.contains (l:=((cds z).dropWhile y.cps.contains).reverse)).length_le;rw[List.length_reverse]at this ⊢
    lia
   have e:=(List.takeWhile_sublist y.cps.contains (l:=((cds z).dropWhile y.cps.contains).reverse)).eq_of_length this;have al:=Q0 _ (e.symm▸List.mem_reverse.mpr (List.head_mem hn));rw[hh]at al;cases al
 .intro h;rw[NI.mpr h];rfl
theorem OK(z:Str):decide (Txt.stripChars z LL="")=z.cps.toList.all isL:=by
 have:∀c,LL.cps.contains c=isL c:=λc=>by
  rw[MY,<- Array.contains_toList,show LL.cps.toList=List.range' 97 26 from by decide +kernel,rp,List.contains_iff_mem,List.mem_range'_1,decide_eq_true_iff]
  lia
 rw[rp,decide_eq_true_iff,qZ];constructor
 .intro h c m;rw[<- this];exact(Hw z LL).mp (by rw[h];rfl) c m
 .intro h;have:=(Hw z LL).mpr λc m=>(this c).trans (h c m)
  exact Md (rF (by rw[<- AO];exact this))
theorem LV(h:f fs=.ok (.t (.v b)) af)(hb:b=false):Vi f fa fs=.ok (.t (.v false)) af:=by subst hb;unfold Vi;rw[h,Bu (x:=.t (.v false)) True.intro];rfl
theorem Dy(hz:z.length<=3000):∃τ,Di [vl (.str z)]=.ok (.t (.v (isNm z))) τ:=by
 have hs:Px Kp (Aa 0) (Ab (gc (.str ("abcdefghijklmnopqrstuvwxyz":Str))) Ag) [vl (.str z)]=.ok (.t (.str (Txt.stripChars z LL))) [vl (.str z)]:=by unfold Px;rw[As rfl,Bu (x:=.t (.str z)) True.intro];rw[BK BU Dn];exact if_pos (show z.length<=1000000 by lia)
 apply AU;by_cases h1:0<z.length
 .by_cases h2:z.length<13
  .have e:isNm z=decide (Txt.stripChars z LL=""):=by unfold isNm;rw[OK,qP (show 1<=z.length/\z.length<=12 by lia)];rfl
   rw[e];trivial;apply LW
   .trivial
   .simp;lia
   apply LW
   .trivial
   .simp;lia
   trivial;trivial
  .have e:isNm z=false:=by unfold isNm;rw[qK (by lia)];rfl
   rw[e];trivial;apply LW
   .trivial
   .simp;lia
   apply LV
   .trivial
   .simp;lia
   trivial
 .have e:isNm z=false:=by unfold isNm;rw[qK (by lia)];rfl
  rw[e];trivial;apply LV
  .trivial
  .simp;lia
  trivial
theorem Lm(h:A9 z=true):z.length<=3000:=by unfold A9 at h;rw[qE,decide_eq_true_iff]at h;exact h.1
theorem JY:∀{D:List Str},x∈D->(By (D.map λy=>(.inr y:Key)) (D.map λ_=>T.v true) (.inr x:Key)).isSome=true
 |y::D,m=>by
  simp only[qi,By];by_cases e:(.inr y:Key)=.inr x
  .rw[if_pos e];rfl
  .rw[if_neg e];exact JY ((qA.mp m).resolve_left λz=>e (by rw[z]))
def okN(D:List Str)(x:Str):Option Str:=if isNm x=false then some "BadName" else if x∈D then some "Twice" else none
theorem Tr(h:okN D x=none):isNm x=true/\x∉D:=by
 unfold okN at h;split at h
 .cases h
 .split at h
  .cases h
  .exact⟨by simpa using ‹¬isNm x=false›,‹_›⟩
theorem Tq(h:okN D x=some c):(isNm x=false/\c="BadName")\/isNm x=true/\x∈D/\c="Twice":=by
 unfold okN at h;split at h
 .exact .inl ⟨‹_›,(Option.some.inj h).symm⟩
 .split at h
  .exact .inr ⟨by simpa using ‹¬isNm x=false›,‹_›,(Option.some.inj h).symm⟩
  .cases h
theorem DE(hz:∀x∈xs,A9 x=true)(lx:xs.length<=1000):(Ci okN [] xs=none->∃τ,BV [vl (.lst (xs.map .str))]=.ok (.t .l) τ)/\∀c,Ci okN [] xs=some c->∃τ,BV [vl (.lst (xs.map .str))]=.exc c τ:=by
 have key:Sat (λso=>(Ci okN [] xs=none/\∃τ,so=.nx τ)\/∃c,Ci okN [] xs=some c/\∃τ,so=.exc c τ) (CK ([vl (.lst (xs.map .str))]++List.replicate 2 none)):=by
  unfold CK;trivial;apply Jj (I:=λD fs=>∃y2,fs=[vl (.lst (xs.map .str)),some (.own (.o (D.map λx=>(.inr x:Key)) (D.map λ_=>.v true))),y2]/\Fre y2) (E:=λc so=>∃τ,so=.exc c τ)
  case hi=>trivial
  case hE=>rintro _ _ ⟨τ,rfl⟩;exact True.intro
  case h1=>exact⟨_,rfl,True.intro⟩
  case s0 =>
   rintro D x R _ e ho ⟨y2,rfl,f2⟩
   obtain⟨h1,h2⟩:=Tr ho;have le:=B1 e;have hn:=EL (Lm (hz x (mem_mid e)));rw[h1]at hn;have nX:(.inr x:Key)∉D.map λx=>(.inr x:Key):=Ih h2
   have hv:=BY (ts:=D.map λ_=>T.v true) nX;trivial;exact⟨_,by rw[qh,qh];rfl,Al⟩
  case s1 =>
   rintro D x R c _ e ho ⟨y2,rfl,f2⟩
   have oF:=hz x (mem_mid e);have hn:=EL (Lm oF);rcases Tq ho with⟨h1,rfl⟩|⟨h1,h2,rfl⟩
   .rw[h1]at hn;trivial
   .rw[h1]at hn;have hv:=JY h2;trivial
  case k0=>exact λe fs _=>.inl ⟨e,_,rfl⟩
  case k1=>exact λc e so h=>.inr ⟨c,e,h⟩
 refine⟨λe=>?_,λc e=>?_⟩
 .rcases q_o key with⟨_,h⟩|⟨c,e2,_⟩
  .apply HF;exact q_i h
  .rw[e]at e2;cases e2
 .rcases q_o key with⟨e2,_⟩|⟨c',e2,h⟩
  .rw[e]at e2;cases e2
  .rw[e]at e2;cases e2;apply Cn;exact q_i h
theorem T4(h0:fs[i]?=some (vl (kT K)))(h4:K.length<=4):Bo false [none] (itU (fz (Aa i))) (tgN 0) D5 (Ae Az (Aa 0) (gc (.int 0))) fs=.ok (.t (.lst ((K.map (·.1)).map .str))) fs:=by rw[show(K.map (·.1)).map T.str=K.map λkd=>T.str kd.1 by rw[qO];rfl];refine EW (Oy (Zc (As h0) OA) (.inl rfl)) (so1 so0) (NV CB (λkd _=>?_) (by lia));trivial
theorem Um{G:List Fd}(h0:fs[i]?=some (vl (.lst (G.map Fd.t))))(h4:G.length<=4):Bo false [none] (itU (fz (Aa i))) (tgN 0) D5 (Ae Az (Aa 0) (gc (.int 0))) fs=.ok (.t (.lst ((G.map Fd.nm).map .str))) fs:=by rw[show(G.map Fd.nm).map T.str=G.map λg=>T.str g.nm by rw[qO];rfl];refine EW (Oy (Zc (As h0) OA) (.inl rfl)) (so1 so0) (NV CB (λg _=>?_) (by lia));trivial
theorem MK{α β:Type}{f:α->β}:∀{l:List α},(l.map f).Nodup->∀{a b:α},a∈l->b∈l->f a=f b->a=b
 |c::l,h,a,b,ma,mb,e=>by
  rw[qi,qR]at h;rcases qA.mp ma with rfl|m1
  .rcases qA.mp mb with rfl|m2
   .rfl
   .exact absurd (e▸qm.mpr ⟨b,m2,rfl⟩) h.1
  .rcases qA.mp mb with rfl|m2
   .exact absurd (e▸qm.mpr ⟨a,m1,rfl⟩) h.1
   .exact MK h.2 m1 m2 e
structure GOk(g:Fd):Prop where
 nm:A9 g.nm=true
 k:A9 g.k=true
 y0:g.ks.length<=100
 ks:∀x∈g.ks,A9 x=true
 zE:g.z8.length<=100
 z8:∀x∈g.z8,A9 x=true
 yR:g.rows.length<=100
 rw:∀r∈g.rows,r.2.1.length<=100/\(∀x∈r.2.1,A9 x=true)/\Wx 100 20 r.2.2
def Eu(K:Kd)(G:List Fd)(g:Fd):Option Str :=
 if isNm g.nm=false then some "BadName" else if g.nm∈G.map Fd.nm\/g.nm∈mks K then some "Twice" else if ¬(1<=g.ks.length/\g.ks.length<=3)then some "BadCount" else if ∃x∈g.ks++[g.k],x∉K.map (·.1)then some "NoKind"
 else if g.z8.length+1≠g.ks.length\/¬ ∃kd∈K,g.ks[0]?=some kd.1/\g.rows.length=kd.2.length then some "BadCount" else none
theorem TQ(W:Well K)(m:Str):∃v,(∃τ,DV [vl (kT K),vl (.str m)]=.ok (.t v) τ)/\(m∈mks K->∃ts,v=.tup ts)/\(m∉mks K->v=.l):=by
 by_cases hmm:m∈mks K
 .obtain⟨kd,mk,hr⟩:=rA.mp hmm;obtain⟨r,mr,rfl⟩:=qm.mp hr;exact⟨.tup [.str kd.1,.tup (r.2.map .str)],Of (λlU mk' r' iI e=>by have:=Ht W mk mr;have e1:=Ht W mk' iI;have e2:=F8 W mk mr;have e3:=F8 W mk' iI;rw[e]at e1 e3;rw[Option.some.inj (this.symm.trans e1),Option.some.inj (e2.symm.trans e3)]) λh=>absurd hmm h,λ_=>⟨_,rfl⟩,λh=>absurd hmm h⟩
 .exact⟨.l,Of (λkd mk r mr e=>absurd (e▸Ed mk mr) hmm) λ_=>rfl,λh=>absurd h hmm,λ_=>rfl⟩
theorem TR(h1:m∈mks K->∃ts,v=.tup ts)(h2:m∉mks K->v=.l):Nd (.t v) (.t .l) fs=.ok (.t (.v (decide (m∈mks K)))) fs:=by
 by_cases h:m∈mks K
 .obtain⟨ts,rfl⟩:=h1 h;rw[qP h];rfl
 .rw[h2 h,qK h];rfl
theorem JW:(By (hkD G) (hvD G) (.inr x:Key)).isSome=decide (x∈G.map Fd.nm):=by
 induction G with
 |nil=>rfl
 |cons g G ih =>
  simp only[qi,By,qA];by_cases e:g.nm=x
  .rw[if_pos (by rw[e]),qP (.inl e.symm)];rfl
  .rw[if_neg λh=>e (Sum.inr.inj h),ih];exact decide_eq_decide.mpr ⟨.inr,λh=>h.resolve_left λh=>e h.symm⟩
section
variable{au:Addr}{K:Kd}{G:List Fd}{g:Fd}
theorem Kt(n3:1<=g.ks.length)(n4:∀x∈g.ks++[g.k],x∈K.map (·.1)):∃kd∈K,g.ks[0]?=some kd.1:=by obtain⟨kd,mk,e⟩:=qm.mp (n4 g.ks[0] (qk _ (su n3)));exact⟨kd,mk,by rw[e];exact qb n3⟩
theorem Mj(W:Well K)(mk:kd∈K)(e0:g.ks[0]?=some kd.1):(g.z8.length+1≠g.ks.length\/¬ ∃kd∈K,g.ks[0]?=some kd.1/\g.rows.length=kd.2.length)↔g.z8.length+1≠g.ks.length\/g.rows.length≠kd.2.length:=by refine or_congr_right (not_congr ⟨λ⟨lU,mk',e',h⟩=>?_,λh=>⟨kd,mk,e0,h⟩⟩);have:=MK W.nd mk' mk (Option.some.inj (e'.symm.trans e0));rwa[<- this]
theorem Ko(W:Well K)(hg:GOk g):∃τ,DA [vl (kT K),vl (.dF (hkD G) (hvD G)),vl g.t]=.ok (.t (.str ((Eu K G g).getD ""))) τ:=by
 obtain⟨_,hn⟩:=Dy (Lm hg.nm);obtain⟨v,⟨_,hm⟩,iC,iD⟩:=TQ W g.nm;have jZ:=λfs=>TR (fs:=fs) iC iD
 have h4:=W.hi;have l1:=hg.y0;apply AU;unfold FD;apply A2
 .trivial
 apply CP
 .trivial
 .intro h1;trivial;rw[show Eu K G g=some "BadName" from if_pos (by simpa using h1)];rfl
 intro h1;have n1:¬isNm g.nm=false:=by simpa using h1
 apply D7;apply CP
 .apply Et
  .trivial
  .trivial;exact jZ _
 .intro h2;trivial;rw[show Eu K G g=some "Twice" from(if_neg n1).trans (if_pos (by simpa[JW]using h2))];rfl
 intro h2;have n2:¬(g.nm∈G.map Fd.nm\/g.nm∈mks K):=by simpa[JW]using h2
 apply D7;apply CP
 .apply Et
  .trivial
  .trivial
 .intro h3;trivial;rw[show Eu K G g=some "BadCount" from(if_neg n1).trans ((if_neg n2).trans (if_pos (by simp at h3;lia)))];rfl
 intro h3;have n3:1<=g.ks.length/\g.ks.length<=3:=by simp at h3;lia
 apply D7;apply E4 (xs:=g.ks++[g.k]) (p:=T.str) (ok:=λx=>if x∈K.map (·.1)then none else some "NoKind") (I:=λfs=>∃y8,fs=[vl (kT K),vl (.dF (hkD G) (hvD G)),vl g.t,vl (.str g.nm),vl (.tup (g.ks.map .str)),vl (.str g.k),vl (.tup (g.z8.map .str)),vl (.tup (g.rows.map rwT)),y8]/\Fre y8) (E:=λc so=>∃τ,so=.ret (.t (.str c)) τ)
 case hi =>rw[qh];trivial
 case hE=>rintro _ _ ⟨τ,rfl⟩;exact True.intro
 case h1=>exact⟨_,rfl,True.intro⟩
 case s0 =>
  rintro x mx ho _ ⟨y8,rfl,f8⟩
  have h:x∈K.map (·.1):=by by_cases h:x∈K.map (·.1);exact h;simp only[h,if_false]at ho;cases ho
  trivial;exact⟨_,rfl,Al⟩
 case s1 =>
  rintro x mx c ho _ ⟨y8,rfl,f8⟩
  have h:x∉K.map (·.1):=λh=>by simp only[h,if_true]at ho;cases ho
  rw[if_neg h]at ho;cases ho;trivial
  .exact q_i ⟨_,rfl⟩
  trivial
 case k1 =>
  rintro c e _ ⟨τ,rfl⟩
  obtain⟨x,mx,ex⟩:=rB e;by_cases h:x∈K.map (·.1)
  .rw[if_pos h]at ex;cases ex
  .rw[if_neg h]at ex;cases ex;rw[show Eu K G g=some "NoKind" from(if_neg n1).trans ((if_neg n2).trans ((if_neg (not_not_intro n3)).trans (if_pos ⟨x,mx,h⟩)))];exact q_o (OV True.intro rfl)
 case k0 =>
  rintro e _ ⟨y8,rfl,f8⟩
  have n4:∀x∈g.ks++[g.k],x∈K.map (·.1):=λx mx=>by
   have:=sh.mp e x mx;by_cases h:x∈K.map (·.1)
   .exact h
   .rw[if_neg h]at this;cases this
  obtain⟨kd,mk,e0⟩:=Kt n3.1 n4;have i0:atI (g.ks.map T.str) 0=some (.str kd.1):=A6 (j:=0) (by rw[qH,e0];rfl);obtain⟨_,jg⟩:=makers W mk;have n4:¬ ∃x∈g.ks++[g.k],x∉K.map (·.1):=λ⟨x,mx,h⟩=>h (n4 x mx)
  have p5:(g.z8.length+1≠g.ks.length\/¬ ∃kd∈K,g.ks[0]?=some kd.1/\g.rows.length=kd.2.length)↔g.z8.length+1≠g.ks.length\/g.rows.length≠kd.2.length:=Mj W mk e0;apply CP
  .apply Et
   .trivial
   .trivial
  .intro h5;trivial;rw[show Eu K G g=some "BadCount" from(if_neg n1).trans ((if_neg n2).trans ((if_neg (not_not_intro n3)).trans ((if_neg n4).trans (if_pos (p5.mpr (by simp at h5;lia))))))];rfl
  intro h5;trivial;rw[show Eu K G g=none from(if_neg n1).trans ((if_neg n2).trans ((if_neg (not_not_intro n3)).trans ((if_neg n4).trans (if_neg λq=>by have:=p5.mp q;simp at h5;lia))))];rfl
theorem Ja0(W:Well K)(x:Str):∃τ,Ei au [vl (stT au K),vl (.str x)]=.ok (.t (.v (decide (x∈mks K)))) τ:=by
 obtain⟨_,h1⟩:=Hz;have h2:=λkd (m:kd∈K)=>(D6 (C:=au) (hs:=Dz K) W m).choose_spec
 simp only[qO,Function.comp_def]at h1;have hl:=W.hi;apply AU;unfold Gz;trivial;apply NV
 .trivial
 .intro kd m;have h2:=h2 kd m;trivial
 .exact qF hl (by decide)
 trivial;congr 2;rw[rp,sO,decide_eq_true_iff];unfold mks;simp
theorem Ii(W:Well K)(hg:GOk g):(Eu K G g=none->∃τ,Ca au [vl (stT au K),vl (.o (hkD G) (hvD G)),vl g.t]=.ok (.t .l) τ)/\∀c,Eu K G g=some c->∃τ,Ca au [vl (stT au K),vl (.o (hkD G) (hvD G)),vl g.t]=.exc c τ:=by
 have key:Sat (λso=>(Eu K G g=none/\∃τ,so=.nx τ)\/∃c,Eu K G g=some c/\∃τ,so=.exc c τ) (C9 au ([vl (stT au K),vl (.o (hkD G) (hvD G)),vl g.t]++List.replicate 6 none)):=by
  have hn:=EL (Lm hg.nm);have hz:=hg.nm;obtain⟨_,hm⟩:=Ja0 W g.nm;obtain⟨_,hk⟩:=Hz (hs:=Dz K);have l1:=hg.y0;unfold C9;apply A2
  .trivial
  apply CP
  .trivial
  .intro h1;trivial;exact q_i (.inr ⟨_,if_pos (by simpa using h1),_,rfl⟩)
  intro h1;have n1:¬isNm g.nm=false:=by simpa using h1
  apply D7;apply CP
  .apply Et
   .trivial
   .trivial
  .intro h2;trivial;exact q_i (.inr ⟨_,(if_neg n1).trans (if_pos (by simpa[JW]using h2)),_,rfl⟩)
  intro h2;have n2:¬(g.nm∈G.map Fd.nm\/g.nm∈mks K):=by simpa[JW]using h2
  apply D7;apply CP
  .apply between;trivial
  .intro h3;trivial;exact q_i (.inr ⟨_,(if_neg n1).trans ((if_neg n2).trans (if_pos (by rw[Bool.not_eq_true',decide_eq_false_iff_not,qe]at h3;lia))),_,rfl⟩)
  intro h3;have n3:1<=g.ks.length/\g.ks.length<=3:=by simp at h3;lia
  apply D7;apply E4 (xs:=g.ks++[g.k]) (p:=T.str) (ok:=λx=>if x∈K.map (·.1)then none else some "NoKind") (I:=λfs=>∃y8,fs=[vl (stT au K),vl (.o (hkD G) (hvD G)),vl g.t,vl (.str g.nm),vl (.tup (g.ks.map .str)),vl (.str g.k),vl (.tup (g.z8.map .str)),vl (.tup (g.rows.map rwT)),y8]/\Fre y8) (E:=λc so=>∃τ,so=.exc c τ)
  case hi =>rw[qh];trivial
  case hE=>rintro _ _ ⟨τ,rfl⟩;exact True.intro
  case h1=>exact⟨_,rfl,True.intro⟩
  case s0 =>
   rintro x mx ho _ ⟨y8,rfl,f8⟩
   have h:x∈K.map (·.1):=by by_cases h:x∈K.map (·.1);exact h;simp only[h,if_false]at ho;cases ho
   trivial;exact⟨_,rfl,Al⟩
  case s1 =>
   rintro x mx c ho _ ⟨y8,rfl,f8⟩
   have h:x∉K.map (·.1):=λh=>by simp only[h,if_true]at ho;cases ho
   rw[if_neg h]at ho;cases ho;have hx:A9 x=true:=(qd.mp mx).elim (hg.ks x) λm=>by rw[qj.mp m];exact hg.k
   trivial
  case k1 =>
   rintro c e so h
   obtain⟨x,mx,ex⟩:=rB e;by_cases hx:x∈K.map (·.1)
   .rw[if_pos hx]at ex;cases ex
   .rw[if_neg hx]at ex;cases ex;exact .inr ⟨_,(if_neg n1).trans ((if_neg n2).trans ((if_neg (not_not_intro n3)).trans (if_pos ⟨x,mx,hx⟩))),h⟩
  case k0 =>
   rintro e _ ⟨y8,rfl,f8⟩
   have n4:∀x∈g.ks++[g.k],x∈K.map (·.1):=λx mx=>by
    have:=sh.mp e x mx;by_cases h:x∈K.map (·.1)
    .exact h
    .rw[if_neg h]at this;cases this
   obtain⟨kd,mk,e0⟩:=Kt n3.1 n4;have i0:atI (g.ks.map T.str) 0=some (.str kd.1):=A6 (j:=0) (by rw[qH,e0];rfl);obtain⟨_,jg⟩:=D6 (C:=au) (hs:=Dz K) W mk;have n4:¬ ∃x∈g.ks++[g.k],x∉K.map (·.1):=λ⟨x,mx,h⟩=>h (n4 x mx)
   have p5:=Mj W mk e0;apply CP
   .trivial
   .intro h5;trivial;exact q_i (.inr ⟨_,(if_neg n1).trans ((if_neg n2).trans ((if_neg (not_not_intro n3)).trans ((if_neg n4).trans (if_pos (p5.mpr (by simp at h5;lia)))))),_,rfl⟩)
   intro h5;apply D7;apply JaA
   .trivial
   .intro h6;trivial;exact q_i (.inr ⟨_,(if_neg n1).trans ((if_neg n2).trans ((if_neg (not_not_intro n3)).trans ((if_neg n4).trans (if_pos (p5.mpr (by simp at h6;lia)))))),_,rfl⟩)
   .intro h6;exact q_i (.inl ⟨(if_neg n1).trans ((if_neg n2).trans ((if_neg (not_not_intro n3)).trans ((if_neg n4).trans (if_neg λq=>by have:=p5.mp q;simp at h5 h6;lia)))),_,rfl⟩)
 refine⟨λe=>?_,λc e=>?_⟩
 .rcases q_o key with⟨_,h⟩|⟨c,e2,_⟩
  .apply HF;exact q_i h
  .rw[e]at e2;cases e2
 .rcases q_o key with⟨e2,_⟩|⟨c',e2,h⟩
  .rw[e]at e2;cases e2
  .rw[e]at e2;cases e2;apply Cn;exact q_i h
end
theorem G4{α β:Type}{f:α->β}{ok:List β->β->Option Str}:∀{R D:List α},Ci (λD a=>ok (D.map f) (f a)) D R=Ci ok (D.map f) (R.map f)
 | [],D=>rfl
 |a::R,D=>by simp only[Ci,qi];cases e:ok (D.map f) (f a)with|some c=>rfl|none =>have:=G4 (f:=f) (ok:=ok) (R:=R) (D:=D++[a]);rw[qh]at this;exact this
theorem Kc:∀{R D:List Str},Ci okN D R=none->D.Nodup->(D++R).Nodup
 | [],D,_,h=>by rwa[qS]
 |x::R,D,e,h=>by unfold Ci at e;cases eo:okN D x with|some c=>rw[eo]at e;cases e|none =>rw[eo]at e;have:=Kc e (qc.mpr ⟨h,List.pairwise_singleton _ _,λa ma b mb z=>(Tr eo).2 (by rw[qj.mp mb]at z;rw[<- z];exact ma)⟩);rwa[qU]at this
theorem Rm:∀{R D:List Str},Ci okN D R=some c->c∈Om
 | [],D,e=>by cases e
 |x::R,D,e=>by unfold Ci at e;cases eo:okN D x with|none=>rw[eo]at e;exact Rm e|some c' =>rw[eo]at e;cases e;rcases Tq eo with⟨_,rfl⟩|⟨_,_,rfl⟩<;>decide +kernel
theorem JaU:∀{xs ps:List Str},xs.length=ps.length->∃Z:List (Str×Str),xs=Z.map (·.1)/\ps=Z.map (·.2)
 | [],[],_=>⟨[],rfl,rfl⟩
 |x::xs,p::ps,h=>by obtain⟨Z,rfl,rfl⟩:=JaU (by simpa using h);exact⟨(x,p)::Z,rfl,rfl⟩
theorem Wz:∀Z:List (Str×Str),FL.pairs ((Z.map (·.1)).map .str) ((Z.map (·.2)).map .str)=Z.map λz=>.tup [.str z.1,.str z.2]
 | []=>rfl
 |z::Z=>by simp only[qi,FL.pairs,Wz Z]
theorem M8{xs:List Str}{i:Nat}{R:List (Str×Nat)}(e:D++(x,i)::R=xs.zipIdx):x∈xs/\((i:Int)=(D.length:Nat)/\D.length<=xs.length)/\xs.take D.length=D.map (·.1):=by
 have e1:=congrArg (List.map Prod.fst) e;rw[sA,qh,qi]at e1;have e2:xs.zipIdx[D.length]?=some (x,i):=by rw[<- e];simp
 rw[List.getElem?_zipIdx]at e2;obtain⟨a,_,eb⟩:=qw.mp e2;have eb:=congrArg Prod.snd eb;simp only at eb;exact⟨by rw[<- e1];simp,⟨by lia,by rw[<- e1];simp⟩,by rw[<- e1];simp⟩
def Mn(k:Str)(f:Option Str)(b:Bool)(c:Str):Option Str:=match f with|some c=>some c|none=>if b=true then some c else if c=k then none else some "BadKind"
section
variable{aA au:Addr}{K:Kd}{D:List Fd}{kd:Str×List (Str×List Str)}{m nm k:Str}{Z Y:List (Str×Str)}{rows:List (Str×List Str×T)}{body:T}{b:Bool}{c:Str}
abbrev lsZ(Z:List (Str×Str))(k:Str):List Str:=(Z.filter λz=>decide (z.2=k)).map (·.1)
abbrev gT(nm:Str)(kd:Str×List (Str×List Str))(Y:List (Str×Str))(k:Str)(rows:List (Str×List Str×T)):T:=.tup [.str nm,.tup (.str kd.1::(Y.map (·.2)).map .str),.str k,.tup ((Y.map (·.1)).map .str),.tup (rows.map rwT)]
def xsZ(Z Y:List (Str×Str)):List Str:=Z.map (·.1)++Y.map (·.1)
theorem Ow:(Z.map (·.1)).map T.str++(Y.map (·.1)).map T.str=(xsZ Z Y).map T.str:=qh.symm
theorem Zn:(xsZ Z Y).map (λx=>(.inr x:Key))=nK (Z++Y)/\(Z.map (·.2)).map T.str++(Y.map (·.2)).map T.str=nV (Z++Y):=by simp only[xsZ,nK,nV,qh,qO];exact⟨rfl,rfl⟩
theorem ls_eq:(lsZ Z x).map T.str=(Z.filter λz=>decide (z.2=x)).map λz=>T.str z.1:=by rw[qO];rfl
theorem e_c1(h0:ga fs=.ok [.t a1] af)(hf:Fn [vl a1]=.exc c τ):Ac (Ai 1 Fn) ga fs=.exc c af:=C7 h0 rfl rfl hf
theorem SI(W:Well K)(lZ:Z.length<=2)(lY:Y.length<=100)
  (h:Ci okN [] (xsZ Z Y)=none->Kst aA au nm (lsZ Z kd.1) K (Z++Y) D 20 body b c) (hK:∀kd∈K,Lw kd.1) (oN:∀x∈xsZ Z Y,A9 x=true) :
  ∃τ,Cp [vl (kT K),vl (.dF (hkD D) (hvD D)),vl (gT nm kd Y k rows),vl (.tup ((Z.map (·.2)).map .str)),vl (.tup [.tup ((Z.map (·.1)).map .str),body])]=.ok (.t (.str ((Mn k (Ci okN [] (xsZ Z Y)) b c).getD ""))) τ:=by
 apply AU;unfold El gT;trivial;rw[Ow];apply J4 (xs:=(xsZ Z Y).zipIdx) (p:=λz=>.tup [.int z.2,.str z.1]) (ok:=λD z=>okN (D.map (·.1)) z.1) (I:=λ_ fs=>∃cF dm,fs=[vl (kT K),vl (.dF (hkD D) (hvD D)),vl (gT nm kd Y k rows),vl (.tup ((Z.map (·.2)).map .str)),vl (.tup [.tup ((Z.map (·.1)).map .str),body]),vl (.str nm),vl (.tup (.str kd.1::(Y.map (·.2)).map .str)),vl (.str k),vl (.tup ((Y.map (·.1)).map .str)),vl (.tup (rows.map rwT)),vl (.tup ((Z.map (·.1)).map .str)),vl body,vl (.lst ((xsZ Z Y).map .str)),cF,dm,none,none,none]/\Fre cF/\Fre dm) (E:=λc so=>∃τ,so=.ret (.t (.str c)) τ)
 case hi =>rw[<- ES T.str (xsZ Z Y) 0];trivial
 case hE=>rintro _ _ ⟨τ,rfl⟩;exact True.intro
 case h1=>exact⟨_,_,rfl,True.intro,True.intro⟩
 case s0 =>
  rintro D ⟨x,i⟩ R _ e ho ⟨cF,dm,rfl,f13,f14⟩
  obtain⟨h1,h⟩:=Tr ho;obtain⟨mx,hq,et⟩:=M8 e;obtain⟨_,hn⟩:=Dy (Lm (oN x mx));have li:=hq.2;have hq:=hq.1;rw[h1]at hn;have h:x∉(xsZ Z Y).take D.length:=by rw[et];exact h
  trivial;exact⟨_,_,rfl,Al,Al⟩
 case s1 =>
  rintro D ⟨x,i⟩ R c _ e ho ⟨cF,dm,rfl,f13,f14⟩
  obtain⟨mx,hq,et⟩:=M8 e;obtain⟨_,hn⟩:=Dy (Lm (oN x mx));have hq:=hq.1;rcases Tq ho with⟨h1,rfl⟩|⟨h1,h,rfl⟩
  .rw[h1]at hn;trivial
   .exact q_i ⟨_,rfl⟩
   trivial
  .rw[h1]at hn;have h:x∈(xsZ Z Y).take D.length:=by rw[et];exact h
   trivial
   .exact q_i ⟨_,rfl⟩
   trivial
 case k1 =>
  rintro c' e _ ⟨τ,rfl⟩
  rw[G4 (f:=Prod.fst) (ok:=okN) (D:=[]),sA]at e;rw[show Ci okN [] (xsZ Z Y)=some c' from e];exact q_o (OV True.intro rfl)
 case k0 =>
  rintro e _ ⟨cF,dm,rfl,f13,f14⟩
  rw[G4 (f:=Prod.fst) (ok:=okN) (D:=[]),sA]at e;have e:Ci okN [] (xsZ Z Y)=none:=e;have nd:=Kc e qM;obtain⟨⟨_,hk⟩,k0,k1⟩:=h e;rw[e];apply A2
  .trivial
   .exact nd
   .simp[xsZ]
   rw[Zn.1,Zn.2];trivial
  apply A2
  .apply Ox
   .apply EW (ts:=Z.map λz=>.tup [.str z.1,.str z.2]) (us:=(lsZ Z kd.1).map T.str)
    .rw[<- Wz Z];trivial
    .trivial
    .rw[ls_eq];apply JN (xs:=Z) (b:=λz=>decide (z.2=kd.1)) (q:=λz=>T.str z.1)
     .trivial
     .trivial
     .exact λ_=>rfl
     .intro z mz;trivial
     .intro z mz _;trivial
     .lia
   .trivial
  cases b with
  |true =>have h1:=(k1 rfl).1;trivial
  |false =>
   have h1:c∉Qs:=λm=>by obtain⟨kd,mk,rfl⟩:=qm.mp (k0 rfl).1;exact MM (hK kd mk) m
   have i1:atI [T.str "BadKind",T.str ""] (if decide (c=k)=true then 1 else 0)=some (.str ((Mn k none false c).getD "")):=by
    by_cases z:c=k
    .simp only[Mn,z,decide_true,if_true];exact at1
    .simp only[Mn,z,decide_false,if_false];exact at0
   trivial
theorem Xq:(lsZ Z x).map exN=(Z.filter λz=>decide (z.2=x)).map λz=>exN z.1:=by rw[qO];rfl
theorem OT(W:Well K)(mk:kd∈K)(hr:(m,Z.map (·.2))∈kd.2)(lZ:Z.length<=2)(lY:Y.length<=100)(hm:A9 m=true)(ip:A9 nm=true)(hk:A9 k=true)
  (h:Ci okN [] (xsZ Z Y)=none->Kst aA au nm (lsZ Z kd.1) K (Z++Y) D 20 body b c) (oN:∀x∈xsZ Z Y,A9 x=true) :
  (Mn k (Ci okN [] (xsZ Z Y)) b c=none->∃τ,Bm aA au [vl (stT au K),vl (.o (hkD D) (hvD D)),vl (gT nm kd Y k rows),vl (.str m),vl (.tup [.tup ((Z.map (·.1)).map .str),body])]=.ok (.t .l) τ) /\
  ∀e,Mn k (Ci okN [] (xsZ Z Y)) b c=some e->∃τ,Bm aA au [vl (stT au K),vl (.o (hkD D) (hvD D)),vl (gT nm kd Y k rows),vl (.str m),vl (.tup [.tup ((Z.map (·.1)).map .str),body])]=.exc e τ:=by
 obtain⟨_,h1⟩:=E1 W mk hr;obtain⟨_,hi⟩:=Lb (c:=aA) (A:=stT au K) (B:=.o (hkD D) (hvD D)) (D:=.o (nK (Z++Y)) (nV (Z++Y))) (E:=.str nm) (F:=.lst ((lsZ Z kd.1).map exN));have cn:=DE oN (by simp[xsZ];lia);have key:Sat (λso=>(Mn k (Ci okN [] (xsZ Z Y)) b c=none/\∃τ,so=.nx τ)\/∃e,Mn k (Ci okN [] (xsZ Z Y)) b c=some e/\∃τ,so=.exc e τ) (CJ aA au ([vl (stT au K),vl (.o (hkD D) (hvD D)),vl (gT nm kd Y k rows),vl (.str m),vl (.tup [.tup ((Z.map (·.1)).map .str),body])]++List.replicate 10 none)):=by
  unfold CJ gT;apply A2
  .trivial
  apply A2
  .trivial
  apply A2
  .trivial
  apply Mq
  .trivial
  .simp
  apply D7;cases e:Ci okN [] (xsZ Z Y)with
  |some c' =>
   obtain⟨_,hx⟩:=cn.2 c' e;apply SM
   .apply Fo;apply e_c1
    .trivial
    .rw[Ow];exact hx
   exact q_i (.inr ⟨c',rfl,_,rfl⟩)
  |none =>
   have nd:=Kc e qM;obtain⟨_,nJ⟩:=cn.1 e;obtain⟨_,k0,k1⟩:=h e;rw[<- Ow]at nJ;apply A2
   .trivial
   apply A2
   .trivial
    .exact congrArg some Ow
    trivial
    .exact nd
    .simp[xsZ]
    rw[Zn.1,Zn.2];trivial
   apply A2
   .apply Ox
    .apply EW (ts:=Z.map λz=>T.str z.1) (us:=(lsZ Z kd.1).map exN)
     .rw[show(Z.map λz=>T.str z.1)=(Z.map (·.1)).map T.str by rw[qO];rfl];trivial
     .trivial
     .rw[Xq];apply KH (xs:=Z) (p:=λz=>T.str z.1) (b:=λz=>decide (z.2=kd.1)) (q:=λz=>exN z.1)
      .trivial
      .intro z mz;have hv:=OC (by rw[qh];exact nd) (qk _ mz);trivial
      .intro z mz _;trivial
      .lia
    .trivial
   cases b with
   |true =>
    obtain⟨_,_,hx⟩:=k1 rfl;apply q_X
    .apply Jcb;apply YQ;apply YO;apply Zm;apply JbI
     .trivial
     .exact hx
    exact q_i (.inr ⟨c,rfl,_,rfl⟩)
   |false =>
    obtain⟨_,_,hx⟩:=k0 rfl;apply JaA
    .trivial
    .intro h6;trivial;exact q_i (.inr ⟨_,by simp at h6;simp[Mn,h6],_,rfl⟩)
    .intro h6;exact q_i (.inl ⟨by simp at h6;simp[Mn,h6],_,rfl⟩)
 refine⟨λe=>?_,λc e=>?_⟩
 .rcases q_o key with⟨_,h⟩|⟨c,e2,_⟩
  .apply HF;exact q_i h
  .rw[e]at e2;cases e2
 .rcases q_o key with⟨e2,_⟩|⟨c',e2,h⟩
  .rw[e]at e2;cases e2
  .rw[e]at e2;cases e2;apply Cn;exact q_i h
end
section
variable{cP aA au:Addr}{K:Kd}{D:List Fd}{g:Fd}{kd:Str×List (Str×List Str)}{m:Str}{ps ks:List Str}{rr:Str×List Str×T}
structure RwE(aA au:Addr)(K:Kd)(D:List Fd)(g:Fd)(m:Str)(ps:List Str)(rr:Str×List Str×T)(e:Option Str):Prop where
 yF:∃τ,Cp [vl (kT K),vl (.dF (hkD D) (hvD D)),vl g.t,vl (.tup (ps.map .str)),vl (rwT rr)]=.ok (.t (.str (e.getD ""))) τ
 ok:e=none->∃τ,Bm aA au [vl (stT au K),vl (.o (hkD D) (hvD D)),vl g.t,vl (.str m),vl (rwT rr)]=.ok (.t .l) τ
 no:∀c,e=some c->c∈Om/\∃τ,Bm aA au [vl (stT au K),vl (.o (hkD D) (hvD D)),vl g.t,vl (.str m),vl (rwT rr)]=.exc c τ
theorem Ml(W:Well K)(hK:∀kd∈K,Lw kd.1)(n2:(D.map Fd.nm).Nodup)(hD:∀g∈D,g.k∈K.map (·.1)/\g.ks≠[]/\g.ks.length<=100/\∀x∈g.ks,Lw x)(hg:GOk g)(mk:kd∈K)(hr:(m,ps)∈kd.2)(hm:A9 m=true)(bt:g.ks=kd.1::ks)(ho:g.z8.length=ks.length)(dv:∀x∈g.ks++[g.k],x∈K.map (·.1))(mr:rr∈g.rows):∃e,RwE aA au K D g m ps rr e:=by
 obtain⟨nm,pI,k,z8,rows⟩:=g;simp only at bt ho dv mr;subst bt;obtain⟨Y,rfl,rfl⟩:=JaU ho;obtain⟨_,names,body⟩:=rr;obtain⟨r1,r2,r3⟩:=hg.rw _ mr;simp only at r1 r2 r3;have lY:Y.length<=100:=by have:=hg.zE;simp only[qe]at this;exact this
 have l2:=W.two kd mk _ hr;simp only at l2;by_cases hl:names.length=ps.length
 .obtain⟨Z,rfl,rfl⟩:=JaU hl;have lZ:Z.length<=2:=by rw[qe]at l2;exact l2
  have oN:∀x∈xsZ Z Y,A9 x=true:=λx mx=>(qd.mp mx).elim (r2 x) (hg.z8 x)
  obtain⟨b,c,h⟩:∃b c,Ci okN [] (xsZ Z Y)=none->Kst aA au nm (lsZ Z kd.1) K (Z++Y) D 20 body b c:=by
   by_cases e0:Ci okN [] (xsZ Z Y)=none
   .have n1:((Z++Y).map (·.1)).Nodup:=by rw[qh];exact Kc (R:=xsZ Z Y) e0 qM
    obtain⟨b,c,h⟩:=both aA au nm (lsZ Z kd.1) W n1 n2 hK (λp mp=>by
     rcases qd.mp mp with mp|mp
     .exact W.zd kd mk _ hr _ (qm.mpr ⟨p,mp,rfl⟩)
     .exact dv _ (qk _ (qf _ (qm.mpr ⟨p,mp,rfl⟩)))) hD (l:=100) (by lia) 20 body r3
    exact⟨b,c,λ_=>h⟩
   .exact⟨true,"",λh=>absurd h e0⟩
  have pr:=OT (rows:=rows) W mk hr lZ lY hm hg.nm hg.k h oN;refine⟨_,SI (rows:=rows) (k:=k) W lZ lY h hK oN,pr.1,λc' e=>⟨?_,pr.2 c' e⟩⟩;cases e0:Ci okN [] (xsZ Z Y)with
  |some c0 =>rw[e0]at e;cases e;exact Rm e0
  |none =>
   rw[e0]at e;unfold Mn at e;simp only at e;split at e
   .cases e;rename_i hb;exact qk _ ((h e0).2.2 hb).1
   .split at e
    .cases e
    .cases e;decide +kernel
 .refine⟨some "BadCount",?_,nofun,λc e=>?_⟩
  .unfold rwT;apply AU;unfold El;trivial
  .cases e;refine⟨by decide +kernel,?_⟩;obtain⟨_,h1⟩:=E1 (C:=au) (hs:=Dz K) W mk hr;have hz:=hg.nm;unfold rwT;apply Cn;unfold CJ;trivial
theorem US(h:c∈Om):¬c="":=λe=>by subst e;revert h;decide +kernel
open Classical in
def rE(aA au:Addr)(K:Kd)(D:List Fd)(g:Fd)(z:(Str×List Str)×(Str×List Str×T)):Option Str:=if h:∃e,RwE aA au K D g z.1.1 z.1.2 z.2 e then h.choose else none
theorem Wg(h:∃e,RwE aA au K D g z.1.1 z.1.2 z.2 e):RwE aA au K D g z.1.1 z.1.2 z.2 (rE aA au K D g z):=by unfold rE;rw[dif_pos h];exact h.choose_spec
structure Acc(K:Kd)(D:List Fd):Prop where
 nd:(D.map Fd.nm).Nodup
 ok:∀g∈D,g.k∈K.map (·.1)/\g.ks≠[]/\g.ks.length<=100/\∀x∈g.ks,Lw x
theorem Ij(h:Eu K D g=none):isNm g.nm=true/\g.nm∉D.map Fd.nm/\(1<=g.ks.length/\g.ks.length<=3)/\(∀x∈g.ks++[g.k],x∈K.map (·.1))/\∃kd ks,kd∈K/\g.ks=kd.1::ks/\g.z8.length=ks.length/\g.rows.length=kd.2.length:=by
 unfold Eu at h;split at h
 .cases h
 split at h
 .cases h
 split at h
 .cases h
 split at h
 .cases h
 split at h
 .cases h
 rename_i h1 h2 h3 h4 h5;have h5:=not_or.mp h5;obtain⟨kd,mk,e,l⟩:=Classical.not_not.mp h5.2;refine⟨by simpa using h1,λm=>h2 (.inl m),Classical.not_not.mp h3,λx mx=>Classical.byContradiction λq=>h4 ⟨x,mx,q⟩,kd,g.ks.tail,mk,?_,?_,l⟩
 .cases hk:g.ks with|nil=>rw[hk]at e;cases e|cons a b=>rw[hk]at e;cases e;rfl
 .rw[List.length_tail]
  lia
theorem Acc.snoc(A:Acc K D)(hK:∀kd∈K,Lw kd.1)(h:Eu K D g=none):Acc K (D++[g]):=by
 obtain⟨_,h2,h3,h4,_⟩:=Ij h;refine⟨?_,λg' m=>?_⟩
 .rw[qh];exact qc.mpr ⟨A.nd,List.pairwise_singleton _ _,λa ma b mb z=>h2 (by rw[qj.mp mb]at z;rw[<- z];exact ma)⟩
 .rcases qd.mp m with m|m
  .exact A.ok g' m
  .rw[qj.mp m];exact⟨h4 _ (by simp),λe=>by rw[e]at h3;simp at h3,by lia,λx mx=>by obtain⟨kd,mk,rfl⟩:=qm.mp (h4 x (qk _ mx));exact hK kd mk⟩
theorem zip_get{α β:Type}{xs:List α}{ys:List β}{z:α×β}(m:(z,i)∈(xs.zip ys).zipIdx):xs[i]?=some z.1/\ys[i]?=some z.2:=by have:=rR.mp m;rwa[List.getElem?_zip_eq_some]at this
theorem J1(W:Well K)(hK:∀kd∈K,Lw kd.1)(A:Acc K (D++[g]))(hg:GOk g)(mk:kd∈K)(bJ:∀s∈mks K,Lw s)(bt:g.ks=kd.1::ks)(ho:g.z8.length=ks.length)(hl:g.rows.length=kd.2.length)(dv:∀x∈g.ks++[g.k],x∈K.map (·.1)){F:T}(f4:Fre y4)(f5:Fre y5)(f6:Fre y6)(f7:Fre y7):
  Sat (λso=>((kd.2.zip g.rows).findSome? (rE aA au K (D++[g]) g)=none/\∃y4 y5 y6 y7,so=.nx [vl (kT K),vl F,some (.own (.o (hkD (D++[g])) (hvD (D++[g])))),vl g.t,y4,y5,y6,y7]/\Fre y4/\Fre y5/\Fre y6/\Fre y7)\/∃c,(kd.2.zip g.rows).findSome? (rE aA au K (D++[g]) g)=some c/\∃τ,so=.ret (.t (.str c)) τ)
   (BR (itE (fz (Ac (Ai 2 BN) (Ad (fz (Aa 0)) (Ad (Ae Az (Ae Az (Aa 3) (gc (.int 1))) (gc (.int 0))) Ag))))) (Aw 2 (Af (tgN 5) (Af (Aw 2 (Af (tgN 6) (Af (tgN 7) Au))) Au))) (Ak (Av 4 (fz (GG 2 (Ac (Ai 5 Cp) (Ad (fz (Aa 0)) (Ad (Aa 2) (Ad (fz (Aa 3)) (Ad (fz (Aa 7)) (Ad (Ae Az (Ae Az (Aa 3) (gc (.int 4))) (fz (Aa 5))) Ag)))))))))
  (ifS (asB (Ae (gEq true) (Aa 4) (gc (.str ("":Str))))) (retS (Aa 4)) nxS)) [vl (kT K),vl F,some (.own (.o (hkD (D++[g])) (hvD (D++[g])))),vl g.t,y4,y5,y6,y7]):=by
 obtain⟨_,jg⟩:=makers W mk;have i0:atI (g.ks.map T.str) 0=some (.str kd.1):=by rw[bt];exact at0
 have sp:∀z∈kd.2.zip g.rows,RwE aA au K (D++[g]) g z.1.1 z.1.2 z.2 (rE aA au K (D++[g]) g z):=λz mz=>by obtain⟨m1,m2⟩:=rJ mz;exact Wg (Ml W hK A.nd A.ok hg mk m1 (Ls (bJ _ (Ed mk m1))) bt ho dv m2)
 have fi:(kd.2.zip g.rows).zipIdx.findSome? (λz=>rE aA au K (D++[g]) g z.1)=(kd.2.zip g.rows).findSome? (rE aA au K (D++[g]) g):=by rw[show(λz:((Str×List Str)×(Str×List Str×T))×Nat=>rE aA au K (D++[g]) g z.1)=rE aA au K (D++[g]) g∘Prod.fst from rfl,<- List.findSome?_map,sA]
 rw[<- fi];apply Q9 (xs:=(kd.2.zip g.rows).zipIdx) (p:=λz=>.tup [.int z.2,Dv z.1.1]) (ok:=λz=>rE aA au K (D++[g]) g z.1) (I:=λfs=>∃y4 y5 y6 y7,fs=[vl (kT K),vl F,some (.own (.o (hkD (D++[g])) (hvD (D++[g])))),vl g.t,y4,y5,y6,y7]/\Fre y4/\Fre y5/\Fre y6/\Fre y7) (E:=λc so=>∃τ,so=.ret (.t (.str c)) τ)
 case hi =>rw[show((kd.2.zip g.rows).zipIdx.map λz=>T.tup [.int z.2,Dv z.1.1])=DX 0 (kd.2.map Dv) by have:=ES (λz:(Str×List Str)×(Str×List Str×T)=>Dv z.1) (kd.2.zip g.rows) 0;rw[show((kd.2.zip g.rows).map λz=>Dv z.1)=((kd.2.zip g.rows).map Prod.fst).map Dv by rw[qO];rfl,rL (by lia)]at this;exact this.symm];trivial
 case hE=>rintro _ _ ⟨τ,rfl⟩;exact True.intro
 case h1=>exact⟨_,_,_,_,rfl,f4,f5,f6,f7⟩
 case s0 =>
  rintro⟨z,i⟩ mz ho _ ⟨y4,y5,y6,y7,rfl,f4,f5,f6,f7⟩
  obtain⟨_,e⟩:=(sp z (qV (rR.mp mz))).yF;have ir:atI (g.rows.map rwT) (i:Int)=some (rwT z.2):=A6 (by rw[qH,(zip_get mz).2];rfl);rw[show rE aA au K (D++[g]) g z=none from ho,sm]at e;have nD:noD (.str ("":Str))=true:=rfl;trivial;exact⟨_,_,_,_,rfl,Al,Al,Al,Al⟩
 case s1 =>
  rintro⟨z,i⟩ mz c ho _ ⟨y4,y5,y6,y7,rfl,f4,f5,f6,f7⟩
  have S:=sp z (qV (rR.mp mz));obtain⟨_,e⟩:=S.yF;have h:=US (S.no c ho).1;have ir:atI (g.rows.map rwT) (i:Int)=some (rwT z.2):=A6 (by rw[qH,(zip_get mz).2];rfl);rw[show rE aA au K (D++[g]) g z=some c from ho,Option.getD_some]at e;have nD:noD (.str c)=true:=rfl;trivial
  .exact q_i ⟨_,rfl⟩
  trivial
 case k0 =>
  rintro e _ ⟨y4,y5,y6,y7,rfl,f4,f5,f6,f7⟩
  exact .inl ⟨e,y4,y5,y6,y7,rfl,f4,f5,f6,f7⟩
 case k1=>exact λc e so h=>.inr ⟨c,e,h⟩
end
section
variable{cP aA au:Addr}{K:Kd}{D G:List Fd}{g:Fd}{kd:Str×List (Str×List Str)}
open Classical in
def fE(aA au:Addr)(K:Kd)(D:List Fd)(g:Fd):Option Str:=match Eu K D g with|some c=>some c|none=>if h:∃kd∈K,g.ks[0]?=some kd.1 then(h.choose.2.zip g.rows).findSome? (rE aA au K (D++[g]) g)else none
theorem Zj(h:Eu K D g=some c):fE aA au K D g=some c:=by unfold fE;rw[h]
theorem Zk(W:Well K)(h:Eu K D g=none)(mk:kd∈K)(e:g.ks[0]?=some kd.1):fE aA au K D g=(kd.2.zip g.rows).findSome? (rE aA au K (D++[g]) g):=by
 have hx:∃kd∈K,g.ks[0]?=some kd.1:=⟨kd,mk,e⟩
 unfold fE;rw[h];simp only[dif_pos hx];rw[MK W.nd hx.choose_spec.1 mk (Option.some.inj (hx.choose_spec.2.symm.trans e))]
theorem XF(h:Eu K D g=some c):c∈Om:=by
 unfold Eu at h;split at h
 .cases h;decide +kernel
 split at h
 .cases h;decide +kernel
 split at h
 .cases h;decide +kernel
 split at h
 .cases h;decide +kernel
 split at h
 .cases h;decide +kernel
 .cases h
theorem UY(W:Well K)(hK:∀kd∈K,Lw kd.1)(bJ:∀s∈mks K,Lw s)(hG:∀g∈G,GOk g)(lG:G.length<=100):∃τ,NA [vl (kT K),vl (.lst (G.map Fd.t))]=.ok (.t (.str ((Ci (fE aA au K) [] G).getD ""))) τ:=by
 apply AU;unfold RZ;trivial;apply J4 (ok:=fE aA au K) (I:=λD fs=>(∃y3 y4 y5 y6 y7,fs=[vl (kT K),vl (.lst (G.map Fd.t)),some (.own (.o (hkD D) (hvD D))),y3,y4,y5,y6,y7]/\Fre y3/\Fre y4/\Fre y5/\Fre y6/\Fre y7)/\Acc K D) (E:=λc so=>∃τ,so=.ret (.t (.str c)) τ)
 case hi=>trivial
 case hE=>rintro _ _ ⟨τ,rfl⟩;exact True.intro
 case h1=>exact⟨⟨_,_,_,_,_,rfl,True.intro,True.intro,True.intro,True.intro,True.intro⟩,qM,nofun⟩
 case s0 =>
  rintro D g R _ e ho ⟨⟨y3,y4,y5,y6,y7,rfl,f3,f4,f5,f6,f7⟩,A⟩
  have hg:=hG g (mem_mid e);have le:=B1 e;obtain⟨_,hl⟩:=Ko (G:=D) W hg;cases hd:Eu K D g with
  |some c=>rw[Zj hd]at ho;cases (ho)
  |none =>
   obtain⟨_,nn,_,dv,kd,ks,mk,bt,eI,gC⟩:=Ij hd;have A':=A.snoc hK hd;have nk:=kyD nn;rw[hd,sm]at hl;have nD:noD (.str ("":Str))=true:=rfl;rw[Zk W hd mk (by rw[bt];rfl)]at ho;apply Q8
   .trivial
   trivial;rw[show hkD D++[ky g.nm]=hkD (D++[g]) by simp,show hvD D++[hvT g]=hvD (D++[g]) by simp];refine Gg (J1 (aA:=aA) (au:=au) W hK A' hg mk bJ bt eI gC dv Al f5 f6 f7) ?_
   rintro _ (⟨_,y4,y5,y6,y7,rfl,f4,f5,f6,f7⟩|⟨c,h,_⟩)
   .exact⟨_,rfl,⟨_,_,_,_,_,rfl,Al,f4,f5,f6,f7⟩,A'⟩
   .rw[ho]at h;cases (h)
 case s1 =>
  rintro D g R c _ e ho ⟨⟨y3,y4,y5,y6,y7,rfl,f3,f4,f5,f6,f7⟩,A⟩
  have hg:=hG g (mem_mid e);have le:=B1 e;obtain⟨_,hl⟩:=Ko (G:=D) W hg;cases hd:Eu K D g with
  |some c' =>
   rw[Zj hd]at ho;cases (ho);have h:=US (XF hd);rw[hd,Option.getD_some]at hl;have nD:noD (.str c)=true:=rfl;trivial
   .exact q_i ⟨_,rfl⟩
   trivial
  |none =>
   obtain⟨_,nn,_,dv,kd,ks,mk,bt,eI,gC⟩:=Ij hd;have A':=A.snoc hK hd;have nk:=kyD nn;rw[hd,sm]at hl;have nD:noD (.str ("":Str))=true:=rfl;rw[Zk W hd mk (by rw[bt];rfl)]at ho;apply Q8
   .trivial
   trivial;rw[show hkD D++[ky g.nm]=hkD (D++[g]) by simp,show hvD D++[hvT g]=hvD (D++[g]) by simp];refine Gg (J1 (aA:=aA) (au:=au) W hK A' hg mk bJ bt eI gC dv Al f5 f6 f7) ?_
   rintro _ (⟨h,_⟩|⟨c',h,hh⟩)
   .rw[ho]at h;cases (h)
   .rw[ho]at h;cases (h);exact hh
 case k0 =>
  rintro e _ ⟨⟨y3,y4,y5,y6,y7,rfl,f3,f4,f5,f6,f7⟩,A⟩
  rw[e];trivial
 case k1 =>
  rintro c e _ ⟨τ,rfl⟩
  rw[e];exact q_o (OV True.intro rfl)
end
theorem RS(h0:fs[j]?=some (some (.bor o)))(hf:f ((AX fs).set j (vl (toT o)))=.exc c τ):Bb (FV j f) fs=.exc c τ:=by exact Fo (by unfold FV;rw[Rp h0];simp only[hf])
theorem e_c5(h0:ga fs=.ok [.t a1,.t a2,.t a3,.t a4,.t a5] af)(hf:Fn [vl a1,vl a2,vl a3,vl a4,vl a5]=.exc c τ):Ac (Ai 5 Fn) ga fs=.exc c af:=C7 h0 rfl rfl hf
theorem RF{α:Type}{f:α->Option Str}:∀{R D:List α},Ci (λ_ a=>f a) D R=R.findSome? f
 | [],_=>rfl
 |a::R,D=>by simp only[Ci,List.findSome?_cons];cases f a with|some c=>rfl|none=>exact RF
theorem Ka:∀{xs:List (Str×List Str)}{ys:List (Str×List Str×T)},xs.length=ys.length->FL.pairs ((xs.map (·.1)).map .str) (ys.map rwT)=(xs.zip ys).map λz=>.tup [.str z.1.1,rwT z.2]
 | [],[],_=>rfl
 |x::xs,y::ys,h=>by simp only[qi,FL.pairs,List.zip_cons_cons,Ka (by simpa using h)]
section
variable{cP aA au:Addr}{K:Kd}{D G:List Fd}{g:Fd}{kd:Str×List (Str×List Str)}{ks:List Str}
theorem HE(W:Well K)(hK:∀kd∈K,Lw kd.1)(A:Acc K (D++[g]))(hg:GOk g)(mk:kd∈K)(bJ:∀s∈mks K,Lw s)(bt:g.ks=kd.1::ks)(ho:g.z8.length=ks.length)(hl:g.rows.length=kd.2.length)(dv:∀x∈g.ks++[g.k],x∈K.map (·.1)){os:List FO}(f9:Fre y9)(bB:Fre aQ)(nn:ky g.nm∉hkD D)(lo:os.length=D.length):
  Sat (λso=>((kd.2.zip g.rows).findSome? (rE aA au K (D++[g]) g)=none/\∃o y9 aQ,so=.nx [some (.bor (.ins cP PF [.val (stT au K),.o (hkD D++[ky g.nm]) (hvD D++[hvT g]),.dO (hkD D++[ky g.nm]) (os++[o])])),vl (stT au K),vl F,vl g.t,vl (.str g.nm),vl (.tup (g.ks.map .str)),vl (.str g.k),vl (.tup (g.z8.map .str)),vl (.tup (g.rows.map rwT)),y9,aQ]/\Fre y9/\Fre aQ)\/∃c,(kd.2.zip g.rows).findSome? (rE aA au K (D++[g]) g)=some c/\∃s τ,so=.exc c (s::τ))
   (BR (itZ (fz (Ec au "makers" 2 (AS au) (fz (Aa 1)) (Ad (Ae Az (Aa 5) (gc (.int 0))) Ag))) (Aa 8)) (Aw 2 (Af (tgN 9) (Af (tgN 10) Au))) (Ak (Bb (FV 0 (Ac (Ai 5 (Bm aA au)) (Ad (fz (Aa 1)) (Ad (EM cP "heads" (Aa 0)) (Ad (fz (Aa 3)) (Ad (fz (Aa 9)) (Ad (fz (Aa 10)) Ag))))))))
  (dput2 cP "rows_by_function" 0 4 9 (An AD (Ab (Ae Ao (Ac AW (Ab (Ae Az (Aa 10) (gc (.int 0))) Ag)) (Ac AW (Ab (Aa 7) Ag))) (Ab (Ae Az (Aa 10) (gc (.int 1))) Ag))))) [some (.bor (.ins cP PF [.val (stT au K),.o (hkD D++[ky g.nm]) (hvD D++[hvT g]),.dO (hkD D++[ky g.nm]) (os++[.o [] []])])),vl (stT au K),vl F,vl g.t,vl (.str g.nm),vl (.tup (g.ks.map .str)),vl (.str g.k),vl (.tup (g.z8.map .str)),vl (.tup (g.rows.map rwT)),y9,aQ]):=by
 obtain⟨_,jg⟩:=D6 (C:=au) (hs:=Dz K) W mk;have i0:atI (g.ks.map T.str) 0=some (.str kd.1):=by rw[bt];exact at0
 have h4:=W.rw kd mk;have l3:=hg.zE;have jr:(hkD D).length=os.length:=by rw[qe,lo]
 have sp:∀z∈kd.2.zip g.rows,RwE aA au K (D++[g]) g z.1.1 z.1.2 z.2 (rE aA au K (D++[g]) g z):=λz mz=>by obtain⟨m1,m2⟩:=rJ mz;exact Wg (Ml W hK A.nd A.ok hg mk m1 (Ls (bJ _ (Ed mk m1))) bt ho dv m2)
 rw[<- RF (D:=[])];apply Jj (xs:=kd.2.zip g.rows) (p:=λz=>.tup [.str z.1.1,rwT z.2]) (ok:=λ_ z=>rE aA au K (D++[g]) g z) (I:=λQ fs=>∃y9 aQ,fs=[some (.bor (.ins cP PF [.val (stT au K),.o (hkD D++[ky g.nm]) (hvD D++[hvT g]),.dO (hkD D++[ky g.nm]) (os++[.o (Q.map λz=>ky z.1.1) (Q.map λz=>rvT g z.2)])])),vl (stT au K),vl F,vl g.t,vl (.str g.nm),vl (.tup (g.ks.map .str)),vl (.str g.k),vl (.tup (g.z8.map .str)),vl (.tup (g.rows.map rwT)),y9,aQ]/\Fre y9/\Fre aQ) (E:=λc so=>∃s τ,so=.exc c (s::τ))
 case hi =>rw[<- Ka hl.symm];trivial
 case hE=>rintro _ _ ⟨s,τ,rfl⟩;exact True.intro
 case h1=>exact⟨_,_,rfl,f9,bB⟩
 case s0 =>
  rintro Q ⟨⟨m,ps⟩,r,ys,body⟩ Z _ e2 eI ⟨y9,aQ,rfl,f9,bB⟩
  have hq:=B1 e2;have mz:=mem_mid e2;have S:=sp _ mz;obtain⟨_,c2⟩:=S.ok eI;have r1:=(hg.rw _ (rJ mz).2).1;simp only at r1;rw[show hkD (D++[g])=hkD D++[ky g.nm]from qh,show hvD (D++[g])=hvD D++[hvT g]from qh]at c2;have lz:(kd.2.zip g.rows).length<=4:=by rw[sG];lia
  have nr:ky m∉Q.map λz=>ky z.1.1:=by
   have nd:(kd.2.map (·.1)).Nodup:=(W.part (r8 mk).choose_spec.choose_spec.symm).2.2.2;have e3:(kd.2.zip g.rows).map (λz=>z.1.1)=kd.2.map (·.1):=by rw[show(λz:(Str×List Str)×(Str×List Str×T)=>z.1.1)=(λx:Str×List Str=>x.1)∘Prod.fst from rfl,<- qO,rL (by lia)]
   rw[<- e3,<- e2,qh,qi]at nd;have:=Ih (Xj rfl nd);rwa[qO]at this
  unfold rwT at c2 ⊢;trivial;exact⟨_,_,by rw[qh,qh];rfl,Al,Al⟩
 case s1 =>
  rintro Q ⟨⟨m,ps⟩,r,ys,body⟩ Z c _ e2 eI ⟨y9,aQ,rfl,f9,bB⟩
  have S:=sp _ (mem_mid e2);obtain⟨_,_,c2⟩:=S.no c eI;rw[show hkD (D++[g])=hkD D++[ky g.nm]from qh,show hvD (D++[g])=hvD D++[hvT g]from qh]at c2;unfold rwT at c2 ⊢;apply Q8
  .trivial
  apply SM
  .apply RS rfl;apply e_c5
   .trivial
   .exact c2
  exact q_i ⟨_,_,rfl⟩
 case k0 =>
  rintro e _ ⟨y9,aQ,rfl,f9,bB⟩
  exact .inl ⟨e,_,y9,aQ,rfl,f9,bB⟩
 case k1=>exact λc e so h=>.inr ⟨c,e,h⟩
theorem O4(W:Well K)(hK:∀kd∈K,Lw kd.1)(bJ:∀s∈mks K,Lw s)(hG:∀g∈G,GOk g)(lG:G.length<=100):
  (Ci (fE aA au K) [] G=none->∃o τ,Bk cP aA au [some (.bor (.ins cP [] [])),vl (stT au K),vl (.lst (G.map Fd.t))]=.ok (.t .l) (some (.bor o)::τ)) /\
  ∀c,Ci (fE aA au K) [] G=some c->∃s τ,Bk cP aA au [some (.bor (.ins cP [] [])),vl (stT au K),vl (.lst (G.map Fd.t))]=.exc c (s::τ):=by
 have key:Sat (λso=>(Ci (fE aA au K) [] G=none/\∃o τ,so=.nx (some (.bor o)::τ))\/∃c,Ci (fE aA au K) [] G=some c/\∃s τ,so=.exc c (s::τ)) (BL cP aA au ([some (.bor (.ins cP [] [])),vl (stT au K),vl (.lst (G.map Fd.t))]++List.replicate 8 none)):=by
  unfold BL;trivial;apply Jj (ok:=fE aA au K) (I:=λD fs=>(∃RO os y3 y4 y5 y6 y7 y8 y9 aQ,fs=[some (.bor (.ins cP PF [.val (stT au K),.o (hkD D) (hvD D),RO])),vl (stT au K),vl (.lst (G.map Fd.t)),y3,y4,y5,y6,y7,y8,y9,aQ]/\Y9 RO=some (hkD D,os)/\os.length=D.length/\Fre y3/\Fre y4/\Fre y5/\Fre y6/\Fre y7/\Fre y8/\Fre y9/\Fre aQ)/\Acc K D) (E:=λc so=>∃s τ,so=.exc c (s::τ))
  case hi=>trivial
  case hE=>rintro _ _ ⟨s,τ,rfl⟩;exact True.intro
  case h1=>exact⟨⟨_,[],_,_,_,_,_,_,_,_,rfl,rfl,rfl,True.intro,True.intro,True.intro,True.intro,True.intro,True.intro,True.intro,True.intro⟩,qM,nofun⟩
  case s0 =>
   rintro D g R _ e ho ⟨⟨RO,os,y3,y4,y5,y6,y7,y8,y9,aQ,rfl,hR,lo,f3,f4,f5,f6,f7,f8,f9,bB⟩,A⟩
   have hg:=hG g (mem_mid e);have le:=B1 e;have hp:=Ii (au:=au) (G:=D) W hg;cases hd:Eu K D g with
   |some c=>rw[Zj hd]at ho;cases (ho)
   |none =>
    obtain⟨_,c1⟩:=hp.1 hd;obtain⟨_,nn,_,dv,kd,ks,mk,bt,eI,gC⟩:=Ij hd;have A':=A.snoc hK hd;have nk:=kyD nn;rw[Zk W hd mk (by rw[bt];rfl)]at ho;apply Q8
    .trivial
    trivial;refine Gg (HE W hK A' hg mk bJ bt eI gC dv f9 bB nk lo) ?_
    rintro _ (⟨_,o,y9,aQ,rfl,f9,bB⟩|⟨c,h,_⟩)
    .exact⟨_,rfl,⟨_,os++[o],_,_,_,_,_,_,_,_,by simp only[hkD,hvD,qh];rfl,by simp only[hkD,hvD,qh];rfl,by simp[lo],Al,Al,Al,Al,Al,Al,f9,bB⟩,A'⟩
    .rw[ho]at h;cases (h)
  case s1 =>
   rintro D g R c _ e ho ⟨⟨RO,os,y3,y4,y5,y6,y7,y8,y9,aQ,rfl,hR,lo,f3,f4,f5,f6,f7,f8,f9,bB⟩,A⟩
   have hg:=hG g (mem_mid e);have le:=B1 e;have hp:=Ii (au:=au) (G:=D) W hg;cases hd:Eu K D g with
   |some c' =>
    rw[Zj hd]at ho;cases (ho);obtain⟨_,c1⟩:=hp.2 c hd;apply Q8
    .trivial
    apply SM
    .apply RS rfl;apply Jcc
     .trivial
     .exact c1
    exact q_i ⟨_,_,rfl⟩
   |none =>
    obtain⟨_,c1⟩:=hp.1 hd;obtain⟨_,nn,_,dv,kd,ks,mk,bt,eI,gC⟩:=Ij hd;have nk:=kyD nn;rw[Zk W hd mk (by rw[bt];rfl)]at ho;apply Q8
    .trivial
    trivial;refine Gg (HE W hK (A.snoc hK hd) hg mk bJ bt eI gC dv f9 bB nk lo) ?_
    rintro _ (⟨h,_⟩|⟨c',h,hh⟩)
    .rw[ho]at h;cases (h)
    .rw[ho]at h;cases (h);exact hh
  case k0 =>
   rintro e _ ⟨⟨RO,os,y3,y4,y5,y6,y7,y8,y9,aQ,rfl,_⟩,A⟩
   exact .inl ⟨e,_,_,rfl⟩
  case k1=>exact λc e so h=>.inr ⟨c,e,h⟩
 refine⟨λe=>?_,λc e=>?_⟩
 .rcases q_o key with⟨_,o,τ,h⟩|⟨c,e2,_⟩
  .obtain⟨τ,h⟩:=Jay (o:=o) (a:=some (.bor (.ins cP [] []))) (args:=[vl (stT au K),vl (.lst (G.map Fd.t))]) (m:=8) (s:=BL cP aA au) (q_i ⟨τ,h⟩);exact⟨o,τ,h⟩
  .rw[e]at e2;cases (e2)
 .rcases q_o key with⟨e2,_⟩|⟨c',e2,s,τ,h⟩
  .rw[e]at e2;cases (e2)
  .rw[e]at e2;cases (e2);exact⟨s,τ.take 2,by unfold Bk Be;rw[h];rfl⟩
end
theorem Vz{n:Nat}{j:Int}(hj:j=(n:Int)):Gs (.t (.tup ts)) (some (j+1)) none fs=.ok (.t (.tup (ts.drop (n+1)))) fs:=VA (by rw[hj];rfl)
theorem Wx.mono(hl:l<=l'):∀{n n':Nat}{t:T},Wx l n t->n<=n'->Wx l' n' t
 |n+1,n'+1,t,h,hn=>by
  rcases h with h|⟨f,m,ts,hf,hm,lt,ht,e⟩
  .exact .inl h
  .exact .inr ⟨f,m,ts,hf,hm,by lia,λu mu=>(ht u mu).mono hl (by lia),e⟩
theorem Jce{l:Nat}(hl:l<=90)(hw:∀w∈ws,A9 w=true)(aI:ws≠[]):∀(n d:Nat)(t:T)(num:Int),d<=n->Wx l d t->∃t',(∃τ,Bp n [vl t,iv num,vl (.lst (ws.map .str))]=.ok (.t t') τ)/\Wx (l+1) (d+1) t'
 |n+1,d+1,t,num,hd,ht=>by
  have g0:0<(ws.map T.str).length:=by rw[qe];exact rC.mpr aI
  obtain⟨w1,m1,i1⟩:=B2 aI T.str (num/7);obtain⟨w2,m2,i2⟩:=B2 aI T.str (num/7/4)
  suffices h:∃r τ,Bp (n+1) [vl t,iv num,vl (.lst (ws.map .str))]=.ok r τ/\∃t',r=.t t'/\Wx (l+1) (d+1+1) t' by obtain⟨_,τ,e,t',rfl,w⟩:=h;exact⟨t',⟨τ,e⟩,w⟩
  rcases ht with⟨x,hx,rfl⟩|⟨f,m,ts,hf,hm,lt,ht,rfl⟩
  .unfold exN;obtain⟨t',i3,wt⟩:∃t',atI [T.tup [.str "name",.str w1],.tup [.str "make",.str w1,.tup []]] (if decide (4<num%7)=true then 1 else 0)=some t'/\Wx (l+1) (d+1+1) t':=by
    by_cases h:4<num%7
    .exact⟨_,by simp only[h,decide_true,if_true];exact at1,.inr ⟨"make",w1,[],.inl rfl,hw w1 m1,by simp,nofun,rfl⟩⟩
    .exact⟨_,by simp only[h,decide_false];exact at0,.inl ⟨w1,hw w1 m1,rfl⟩⟩
   apply E3;unfold Dd;trivial
   .exact⟨_,rfl,wt⟩
   trivial
  .have h:¬f="name":=by rcases hf with rfl|rfl;exact ED.2.1;exact ED.2.2.1
   obtain⟨a,hj,ha⟩:∃a:Nat,num/7%((ts.length:Int)+1)=(a:Int)/\a<=ts.length:=by have h1:=sJ (num/7) (show((ts.length:Int)+1)≠0 by lia);have h2:=sd (num/7) (show(0:Int)<(ts.length:Int)+1 by lia);exact⟨(num/7%((ts.length:Int)+1)).toNat,by lia,by lia⟩
   obtain⟨f',gq,i3⟩:∃f':Str,(f'="make"\/f'="call")/\atI [T.str "make",T.str "call"] (num/7/4%2)=some (.str f'):=by
    rcases Int.emod_two_eq (num/7/4)with e|e<;>rw[e]
    .exact⟨_,.inl rfl,at0⟩
    .exact⟨_,.inr rfl,at1⟩
   have tk:∀(i:Nat),∀u∈ts.take i,Wx (l+1) (d+1) u:=λi u mu=>(ht u (rq mu)).mono (by lia) (by lia)
   have dr:∀(i:Nat),∀u∈ts.drop i,Wx (l+1) (d+1) u:=λi u mu=>(ht u (rQ mu)).mono (by lia) (by lia)
   have al:∀u∈ts,Wx (l+1) (d+1) u:=λu mu=>(ht u mu).mono (by lia) (by lia)
   have mk:∀{f m:Str}{us:List T},(f="make"\/f="call")->A9 m=true->us.length<=l+1->(∀u∈us,Wx (l+1) (d+1) u)->∃t',Rv.t (.tup [.str f,.str m,.tup us])=.t t'/\Wx (l+1) (d+1+1) t':=λ{f m us} a b c d=>⟨_,rfl,.inr ⟨f,m,us,a,b,c,d,rfl⟩⟩
   have key:(∃u u',atI ts (num/7%((ts.length:Int)+1))=some u/\(∃τ,Bp n [vl u,iv (num/7/4),vl (.lst (ws.map .str))]=.ok (.t u') τ)/\Wx (l+1) (d+1) u')\/ts.length<=a:=by
    by_cases h:a<ts.length
    .obtain⟨u',e,w⟩:=Jce hl hw aI n d ts[a] (num/7/4) (by lia) (ht _ (su h));exact .inl ⟨ts[a],u',by rw[hj];exact A6 (qb h),e,w⟩
    .exact .inr (by lia)
   apply E3;unfold Dd exP;trivial
   .exact mk hf (hw w2 m2) (by lia) al
   trivial
   .exact mk gq hm (by lia) al
   trivial
   .exact mk hf hm (by simp;lia) λu mu=>(qd.mp mu).elim (tk _ u) (dr _ u)
   trivial
   .refine mk hf hm (by simp;lia) λu mu=>?_
    rcases qd.mp mu with mu|mu
    .rcases qd.mp mu with mu|mu
     .exact tk _ u mu
     .rw[qj.mp mu];exact .inl ⟨w2,hw w2 m2,rfl⟩
    .exact dr _ u mu
   trivial
   .exact mk hf hm (by simp;lia) λu mu=>al u (List.mem_reverse.mp mu)
   rcases key with⟨u,u',i4,⟨_,re⟩,wu⟩|fA
   .trivial
    .refine mk hf hm (by simp;lia) λv mv=>?_
     rcases qd.mp mv with mv|mv
     .rcases qd.mp mv with mv|mv
      .exact tk _ v mv
      .rw[qj.mp mv];exact wu
     .exact dr _ v mv
    trivial;exact mk hf (hw w2 m2) (by lia) al
   .trivial;exact mk hf (hw w2 m2) (by lia) al
 |0,_+1,_,_,hd,_=>absurd hd (by lia)
 |_,0,_,_,_,ht=>ht.elim
def Nz(n:Nat)(z:Str):Prop:=(cds z).length<=n/\∀c∈cds z,c<16^8
theorem Nz.ok(h:Nz n z)(hn:n<=3000):A9 z=true:=by unfold A9;rw[qE,decide_eq_true_iff,qZ];exact⟨by rw[AO];exact qF h.1 hn,λc m=>qP (h.2 c m)⟩
theorem Lw.nz(h:Lw z):Nz 13 z:=⟨Nat.le_succ_of_le h.hi,λc m=>Nat.lt_of_le_of_lt (h.al c m).2 (by decide)⟩
theorem Nz.app(h:Nz n x)(g:Nz m y):Nz (n+m) (x++y):=by have h1:=h.1;have g1:=g.1;unfold Nz;rw[Ej];exact⟨by rw[qv];lia,λc mc=>(qd.mp mc).elim (h.2 c) (g.2 c)⟩
theorem Nz.mono(h:Nz n x)(k:n<=m):Nz m x:=⟨qF h.1 k,h.2⟩
theorem Rq(h:(cds c).length<=n/\∀x∈cds c,x<16^8):Nz n c:=h
theorem Nz.sl(h:Nz n z)(lo hi:Option Int):Nz n (Txt.slice z lo hi):=by
 refine⟨?_,λc m=>h.2 c ?_⟩
 .rw[<- AO];exact qF (Txt.slice_le z lo hi) (by rw[AO];exact h.1)
 .unfold Txt.slice at m;split at m
  .exact m
  .obtain⟨i,_,e⟩:=sF.mp (show c∈List.filterMap _ _ by simpa using m);exact Array.mem_toList_iff.mpr (Array.mem_of_getElem? e)
theorem Hh(h:Nz n z)(n2:n<=100)(num:Int):∃z',(∃τ,BE [vl (.str z),iv num]=.ok (.t (.str z')) τ)/\Nz (2*n+13) z':=by
 have zA:Nz 1 ("A":Str):=Rq (by decide +kernel);have zB:Nz 1 (" ":Str):=Rq (by decide +kernel);have zC:Nz 13 ("abcdefghijklm":Str):=Rq (by decide +kernel);have ln:∀{m:Nat}{x:Str},Nz m x->m<=500->x.length<=1000:=λ{m x} q l=>by rw[AO];exact qF q.1 (by lia)
 have ad:∀{m k:Nat}{x y:Str}(fs:FS),Nz m x->Nz k y->m<=500->k<=500->Ao (.t (.str x)) (.t (.str y)) fs=.ok (.t (.str (x++y))) fs:=λ{m k x y} fs q1 q2 l1 l2=>G3 (by have:=ln q1 l1;have:=ln q2 l2;show _<=1000000;lia)
 have z1:=h.sl none (some (-1));have z2:=h.sl none (some 1);have z3:=h.sl (some 1) none;obtain⟨S,hS⟩:∃S:FS,S=[vl (.str z),iv num]++List.replicate 0 none:=⟨_,rfl⟩
 have g0:Aa 0 S=.ok (.t (.str z)) S:=by subst hS;exact As rfl
 have e1:slS (Ae Ao (Aa 0) (gc (.str ("abcdefghijklm":Str)))) noP (AB (gc (.int 13))) S=.ok (.t (.str (Txt.slice (z++"abcdefghijklm") none (some 13)))) S:=Gd (AI g0 BU (ad S h zC (by lia) (by lia))) rfl (De BU) (ln (h.app zC) (by lia));have e2:slS (Aa 0) noP (AB (Rw (gc (.int 1)))) S=.ok (.t (.str (Txt.slice z none (some (-1))))) S:=Gd g0 rfl (De (by unfold Rw;rw[BU];rfl)) (ln h (by lia));have e3:slS (Aa 0) noP (AB (gc (.int 1))) S=.ok (.t (.str (Txt.slice z none (some 1)))) S:=Gd g0 rfl (De BU) (ln h (by lia));have e4:slS (Aa 0) (AB (gc (.int 1))) noP S=.ok (.t (.str (Txt.slice z (some 1) none))) S:=Gd g0 (De BU) rfl (ln h (by lia));have a2:=ad S z1 zA (by lia) (by lia);have a3:=ad S z2 zB (by lia) (by lia);have a4:=ad S (z2.app zB) z3 (by lia) (by lia);obtain⟨x,ix,zx⟩:∃x,atI [T.str "",.str (Txt.slice (z++"abcdefghijklm") none (some 13)),.str (Txt.slice z none (some (-1))++"A"),.str (Txt.slice z none (some 1)++" "++Txt.slice z (some 1) none),.str "7"] (num%5)=some (.str x)/\Nz (2*n+13) x:=by
  have q:num%5=0\/num%5=1\/num%5=2\/num%5=3\/num%5=4:=by lia
  rcases q with q|q|q|q|q<;>rw[q]
  .exact⟨_,at0,sM _,nofun⟩
  .exact⟨_,at1,((h.app zC).sl _ _).mono (by lia)⟩
  .exact⟨_,at2,(z1.app zA).mono (by lia)⟩
  .exact⟨_,rfl,((z2.app zB).app z3).mono (by lia)⟩
  .exact⟨_,rfl,(Rq (n:=1) (by decide +kernel)).mono (by lia)⟩
 refine⟨x,?_,zx⟩;apply AU;unfold FG;rw[<- hS];have g1:Aa 1 S=.ok (.t (.int num)) S:=by subst hS;exact As rfl
 trivial
theorem ZD:Gs (.t (.tup ts)) lo hi fs=.ok (.t (.tup (BO ts lo hi))) fs:=ZF
theorem Hb(m:t∈BO ts lo hi):t∈ts:=by exact rQ (rq m)
theorem U3:(BO ts lo hi).length<=ts.length:=by
 unfold BO;simp
 lia
theorem E9{α:Type}{f:α->T}{P:α->Prop}:∀{L:List T},(∀t∈L,∃a,t=f a/\P a)->∃A:List α,L=A.map f/\∀a∈A,P a
 | [],_=>⟨[],rfl,nofun⟩
 |t::L,h=>by
  obtain⟨A,e,hA⟩:=E9 λt m=>h t (qf _ m)
  obtain⟨a,ea,ha⟩:=h t qB;exact⟨a::A,by rw[e,ea];rfl,λb mb=>(qA.mp mb).elim (λq=>q▸ha) (hA b)⟩
def RB(n w:Nat)(r:Str×List Str×T):Prop:=r.2.1.length<=w/\(∀x∈r.2.1,Nz n x)/\Wx (1+w) (10+w) r.2.2
theorem RB.mono(h:RB n w r)(l1:n<=m)(l2:w<=v):RB m v r:=⟨qF h.1 l2,λx mx=>(h.2.1 x mx).mono l1,h.2.2.mono (by lia) (by lia)⟩
def Sx(n:Nat)(L:List T):Prop:=∀t∈L,∃x,t=T.str x/\Nz n x
theorem Sx.app(h:Sx n L)(g:Sx n M):Sx n (L++M):=λt m=>(qd.mp m).elim (h t) (g t)
theorem Sx.cut(h:Sx n L):Sx n (BO L lo hi):=λt m=>h t (Hb m)
theorem Sx.one(h:Nz n x):Sx n [.str x]:=λt m=>⟨x,qj.mp m,h⟩
theorem Sx.of{xs:List Str}(h:∀x∈xs,Nz n x):Sx n (xs.map .str):=λt m=>by obtain⟨x,mx,rfl⟩:=qm.mp m;exact⟨x,rfl,h x mx⟩
theorem Sx.mono(h:Sx n L)(l:n<=m):Sx m L:=λt mt=>by obtain⟨x,e,hx⟩:=h t mt;exact⟨x,e,hx.mono l⟩
theorem DZ:(BO ts lo hi).length<=HT.sIx ts.length ts.length hi-HT.sIx ts.length 0 lo:=by unfold BO;rw[qY];exact Nat.min_le_left _ _
theorem Kx{num:Int}{n:Nat}(h:0<n):∃a:Nat,num%(n:Int)=(a:Int)/\a<n:=by have h1:=sJ num (show(n:Int)≠0 by lia);have h2:=sd num (show(0:Int)<(n:Int) by lia);exact⟨(num%(n:Int)).toNat,by lia,by lia⟩
theorem Xx{β:Type}{J:β->FS}{P:β->Prop}(hc:c fs=.ok b af)(h1:b=true->∃x,P x/\s af=.nx (J x))(h2:b=false->∃x,P x/\s' af=.nx (J x)):∃x,P x/\ifS c s s' fs=.nx (J x):=by cases b with|true=>obtain⟨x,p,e⟩:=h1 rfl;exact⟨x,p,M4 hc e⟩|false=>obtain⟨x,p,e⟩:=h2 rfl;exact⟨x,p,M6 hc e⟩
theorem VJ{i:Int}(h:f fs=.ok (.t (.int i)) af):Rw f fs=.ok (.t (.int (-i))) af:=by unfold Rw;rw[h];rfl
theorem N6{n w:Nat}{R:List (Str×List Str×T)}{z8 ws:List Str}(num:Int)(n1:13<=n)(n2:n<=100)(w2:w<=5)(lR:R.length<=4+w)(hR:∀r∈R,RB n w r)(lo:z8.length<=w)(ho:∀x∈z8,Nz n x)(hw:∀x∈ws,Nz n x)(aI:ws≠[])(lw:ws.length<=100):
  ∃R':List (Str×List Str×T),(∃τ,Cc [vl (.tup (R.map rwT)),vl (.tup (z8.map .str)),iv num,vl (.lst (ws.map .str))]=.ok (.t (.tup (R'.map rwT))) τ)/\R'.length<=5+w/\∀r∈R',RB (2*n+13) (w+1) r:=by
 suffices h:∃x τ,Cc [vl (.tup (R.map rwT)),vl (.tup (z8.map .str)),iv num,vl (.lst (ws.map .str))]=.ok x τ/\∃L,x=.t (.tup L)/\L.length<=5+w/\∀t∈L,∃r,t=rwT r/\RB (2*n+13) (w+1) r by obtain⟨_,τ,e,L,rfl,l,hL⟩:=h;obtain⟨R',rfl,h'⟩:=E9 hL;exact⟨R',⟨τ,e⟩,by rwa[qe]at l,h'⟩
 have up:∀r∈R,RB (2*n+13) (w+1) r:=λr m=>(hR r m).mono (by lia) (by lia)
 have iW:∀t∈R.map rwT,∃r,t=rwT r/\RB (2*n+13) (w+1) r:=λt m=>by obtain⟨r,mr,rfl⟩:=qm.mp m;exact⟨r,rfl,up r mr⟩
 have lT:(R.map rwT).length<=4+w:=by rw[qe];exact lR
 by_cases hn:R=[]
 .subst hn;apply E3;unfold Dc;trivial
  .exact⟨_,rfl,by simp,nofun⟩
  trivial
 obtain⟨⟨r0,names,body⟩,mr,ir⟩:=B2 hn rwT num;obtain⟨r1,r2,r3⟩:=hR _ mr;simp only at r1 r2 r3;have gT:0<(R.map rwT).length:=by rw[qe];exact rC.mpr hn
 have ir:atI (R.map rwT) (num%((R.map rwT).length:Int))=some (.tup [.tup (names.map .str),body]):=ir;apply E3;unfold Dc;apply Mq
 .trivial
 .simp[hn]
 apply D7;apply A2
 .trivial
 apply A2
 .trivial
 apply A2
 .trivial
 apply A2
 .trivial
 obtain⟨a,ha,la⟩:=Kx (num:=num) gT;have sa:∀d,HT.sIx (R.map rwT).length d (some (num%((R.map rwT).length:Int)))=a:=λd=>by rw[ha,HT.Cu];lia
 have sb:∀d,HT.sIx (R.map rwT).length d (some (num%((R.map rwT).length:Int)+1))=a+1:=λd=>by rw[ha,show((a:Int)+1)=((a+1:Nat):Int) by lia,HT.Cu];lia
 have c1:(BO (R.map rwT) none (some (num%((R.map rwT).length:Int)))).length<=a:=by have:=DZ (ts:=R.map rwT) (lo:=none) (hi:=some (num%((R.map rwT).length:Int)));rw[sa]at this;lia
 have c2:(BO (R.map rwT) (some (num%((R.map rwT).length:Int)+1)) none).length<=(R.map rwT).length-(a+1):=by have:=DZ (ts:=R.map rwT) (lo:=some (num%((R.map rwT).length:Int)+1)) (hi:=none);rw[sb]at this;exact this
 have c3:(BO (R.map rwT) (some (num%((R.map rwT).length:Int))) (some (num%((R.map rwT).length:Int)+1))).length<=1:=by have:=DZ (ts:=R.map rwT) (lo:=some (num%((R.map rwT).length:Int))) (hi:=some (num%((R.map rwT).length:Int)+1));rw[sa,sb]at this;lia
 have iV:∀{lo hi:Option Int},∀t∈BO (R.map rwT) lo hi,∃r,t=rwT r/\RB (2*n+13) (w+1) r:=λt m=>iW t (Hb m)
 have uA:∀{L M:List T},(∀t∈L,∃r,t=rwT r/\RB (2*n+13) (w+1) r)->(∀t∈M,∃r,t=rwT r/\RB (2*n+13) (w+1) r)->∀t∈L++M,∃r,t=rwT r/\RB (2*n+13) (w+1) r:=λa b t m=>(qd.mp m).elim (a t) (b t)
 apply CP
 .trivial
 .intro _;obtain⟨L,i2,hL⟩:∃L,atI [T.tup (BO (R.map rwT) none (some (num%((R.map rwT).length:Int)))++BO (R.map rwT) (some (num%((R.map rwT).length:Int)+1)) none),T.tup (R.map rwT++BO (R.map rwT) (some (num%((R.map rwT).length:Int))) (some (num%((R.map rwT).length:Int)+1)))] (num/30%2)=some (.tup L)/\L.length<=5+w/\∀t∈L,∃r,t=rwT r/\RB (2*n+13) (w+1) r:=by
   rcases Int.emod_two_eq (num/30)with q|q<;>rw[q]
   .exact⟨_,at0,by rw[qv];lia,uA iV iV⟩
   .exact⟨_,at1,by rw[qv];lia,uA iW iV⟩
  trivial;exact⟨L,rfl,hL⟩
 intro _;apply D7;have aT:∀(M:List T)(b:T),Sx (2*n+13) M->M.length<=w+1->Wx (1+(w+1)) (10+(w+1)) b->∃L,Rv.t (.tup (BO (R.map rwT) none (some (num%((R.map rwT).length:Int)))++[.tup [.tup M,b]]++BO (R.map rwT) (some (num%((R.map rwT).length:Int)+1)) none))=.t (.tup L)/\L.length<=5+w/\∀t∈L,∃r,t=rwT r/\RB (2*n+13) (w+1) r:=λM b hM lM hb=>by refine⟨_,rfl,by rw[qv,qv,qT];lia,uA (uA iV λt m=>?_) iV⟩;obtain⟨xs,rfl,hx⟩:=E9 hM;exact⟨(r0,xs,b),qj.mp m,by rwa[qe]at lM,hx,hb⟩
 have N0:Sx n (names.map .str):=Sx.of r2;have O0:Sx n (z8.map .str):=Sx.of ho;have lN:(names.map T.str).length<=w:=by rw[qe];exact r1
 have lO:(z8.map T.str).length<=w:=by rw[qe];exact lo
 have s1:∀(L:List T)(d:Nat),HT.sIx L.length d (some 1)=min 1 L.length:=λL d=>HT.Cu L.length d 1
 have d1:∀L:List T,(BO L (some 1) none).length<=L.length-1:=λL=>by have:=DZ (ts:=L) (lo:=some 1) (hi:=none);rw[s1]at this;have e:HT.sIx L.length L.length none=L.length:=rfl;lia
 have t1:∀L:List T,(BO L none (some 1)).length<=1:=λL=>by have:=DZ (ts:=L) (lo:=none) (hi:=some 1);rw[s1]at this;lia
 have zq:Nz (2*n+13) ("q":Str):=(Rq (n:=1) (by decide +kernel)).mono (by lia);have q1:=d1 (names.map .str);have q2:=t1 (names.map .str);have q3:=t1 (z8.map .str);obtain⟨M,i3,hM,lM⟩:∃M,atI [T.tup (BO (names.map .str) (some 1) none),.tup (names.map .str++[.str "q"]),.tup (names.map .str++BO (names.map .str) none (some 1)),.tup (names.map .str++BO (z8.map .str) none (some 1))] (num/30%4)=some (.tup M)/\Sx (2*n+13) M/\M.length<=w+1:=by
  have q:num/30%4=0\/num/30%4=1\/num/30%4=2\/num/30%4=3:=by lia
  rcases q with q|q|q|q<;>rw[q]
  .exact⟨_,at0,N0.cut.mono (by lia),by lia⟩
  .exact⟨_,at1,(N0.mono (by lia)).app (Sx.one zq),by rw[qv,qT];lia⟩
  .exact⟨_,at2,(N0.app N0.cut).mono (by lia),by rw[qv];lia⟩
  .exact⟨_,rfl,(N0.app O0.cut).mono (by lia),by rw[qv];lia⟩
 have b1:Wx (1+(w+1)) (10+(w+1)) body:=r3.mono (by lia) (by lia);apply Gh (β:=List T×T) (J:=λx=>[vl (.tup (R.map rwT)),vl (.tup (z8.map .str)),iv (num/30),vl (.lst (ws.map .str)),iv (num%((R.map rwT).length:Int)),iv (num/5%6),vl (.tup x.1),vl x.2]) (P:=λx=>Sx (2*n+13) x.1/\x.1.length<=w+1/\Wx (1+(w+1)) (10+(w+1)) x.2)
 .trivial
 .intro _;refine⟨(M,body),⟨hM,lM,b1⟩,?_⟩;trivial
 .intro _;apply Xx
  .apply CT
   .trivial
   intro _;trivial
  .intro hb;obtain⟨x0,xt,rfl⟩:∃x0 xt,names=x0::xt:=by cases names with|nil=>simp at hb|cons x0 xt=>exact⟨x0,xt,rfl⟩
   obtain⟨z,⟨_,hz⟩,zz⟩:=Hh (r2 x0 qB) n2 (num/30);have lx:xt.length+1<=w:=r1;have X0:Sx n (xt.map .str):=Sx.of λx m=>r2 x (qf _ m)
   refine⟨([.str z]++xt.map .str,body),⟨(Sx.one zz).app (X0.mono (by lia)),by rw[qv,qT,qe];lia,b1⟩,?_⟩;trivial
  intro _;apply Xx
  .apply CT
   .trivial
   intro _;trivial
  .intro hb;obtain⟨x0,xt,rfl⟩:∃x0 xt,names=x0::xt:=by cases names with|nil=>simp at hb|cons x0 xt=>exact⟨x0,xt,rfl⟩
   have lx:xt.length+1<=w:=r1;have X0:Sx n (xt.map .str):=Sx.of λx m=>r2 x (qf _ m)
   obtain⟨z,iz,zz⟩:∃z,atI ((x0::xt).map T.str++z8.map T.str) (-1)=some (.str z)/\Nz n z:=by
    obtain⟨z,ez,zz⟩:=(N0.app O0) (((x0::xt).map T.str++z8.map T.str)[((x0::xt).map T.str++z8.map T.str).length-1]'(by simp)) (su _)
    refine⟨z,?_,zz⟩;unfold atI ixN;rw[if_neg (by decide),if_pos (by simp;lia)];rw[<- ez];simp only[rg];rw[show(-1+(((x0::xt).map T.str++z8.map T.str).length:Int)).toNat=((x0::xt).map T.str++z8.map T.str).length-1 by lia];exact qb _
   refine⟨([.str z]++xt.map .str,body),⟨(Sx.one (zz.mono (by lia))).app (X0.mono (by lia)),by rw[qv,qT,qe];lia,b1⟩,?_⟩;trivial
   .exact VJ BU
   trivial
  intro _;obtain⟨b',⟨_,hb⟩,wb⟩:=Jce (l:=1+w) (by lia) (ws:=names++z8++ws) (λx m=>by
   rcases qd.mp m with m|m
   .rcases qd.mp m with m|m
    .exact(r2 x m).ok (by lia)
    .exact(ho x m).ok (by lia)
   .exact(hw x m).ok (by lia)) (by simp[aI]) 20 (10+w) body (num/30) (by lia) r3
  refine⟨(names.map .str,b'),⟨N0.mono (by lia),(show(names.map T.str).length<=w+1 by lia),by rw[show 1+(w+1)=1+w+1 by lia,show 10+(w+1)=10+w+1 by lia];exact wb⟩,?_⟩;rw[qh,qh]at hb;trivial
 .rintro⟨L,b⟩ ⟨h1,h2,h3⟩
  trivial
  .rw[qv,qT];show _<=1000000
   lia
  trivial;exact aT L b h1 h2 h3
theorem ZL:Gs (.t (.lst ts)) lo hi fs=.ok (.t (.lst (BO ts lo hi))) fs:=ZH
structure GB(n q w:Nat)(g:Fd):Prop where
 nm:Nz n g.nm
 k:Nz n g.k
 y0:g.ks.length<=q
 ks:∀x∈g.ks,Nz n x
 zE:g.z8.length<=w
 z8:∀x∈g.z8,Nz n x
 yR:g.rows.length<=4+w
 rw:∀r∈g.rows,RB n w r
theorem GB.mono(h:GB n q w g)(l1:n<=m)(l2:q<=p)(l3:w<=v):GB m p v g :=
 ⟨h.nm.mono l1,h.k.mono l1,qF h.y0 l2,λx mx=>(h.ks x mx).mono l1,qF h.zE l3,λx mx=>(h.z8 x mx).mono l1,qF h.yR (by lia),λr mr=>(h.rw r mr).mono l1 l3⟩
theorem GB.ok(h:GB n q w g)(l1:n<=3000)(l2:q<=100)(l3:w<=10):GOk g :=
 ⟨h.nm.ok l1,h.k.ok l1,by have:=h.y0;lia,λx mx=>(h.ks x mx).ok l1,by have:=h.zE;lia,λx mx=>(h.z8 x mx).ok l1,by have:=h.yR;lia,λr mr=>⟨by have:=(h.rw r mr).1;lia,λx mx=>((h.rw r mr).2.1 x mx).ok l1,(h.rw r mr).2.2.mono (by lia) (by lia)⟩⟩
theorem mulX{n:Nat}(h:Sx n L)(l:L.length<=3):∃M,(∀fs,Nf (.t (.tup (BO L none (some 1)))) (.t (.int (L.length:Nat))) fs=.ok (.t (.tup M)) fs)/\Sx n M/\M.length=L.length:=by match L,l with| [],_=>exact⟨[],λ_=>rfl,nofun,rfl⟩| [a],_=>exact⟨[a],λ_=>rfl,h,rfl⟩| [a,b],_=>exact⟨[a,a],λ_=>rfl,λt m=>by simp at m;rw[m];exact h a (by simp),rfl⟩| [a,b,c],_=>exact⟨[a,a,a],λ_=>rfl,λt m=>by simp at m;rw[m];exact h a (by simp),rfl⟩
theorem N7(n2:n<=100)(num:Int):∀{xs:List Str},(∀x∈xs,Nz n x)->∃vs:List T,F2 (λx v=>∃τ,BE [vl (.str x),iv num]=.ok (.t v) τ) xs vs/\Sx (2*n+13) vs/\vs.length=xs.length
 | [],_=>⟨[],.nil,nofun,rfl⟩
 |x::xs,h=>by
  obtain⟨vs,h1,h2,h3⟩:=N7 n2 num λy m=>h y (qf _ m)
  obtain⟨z,hz,zz⟩:=Hh (h x qB) n2 num;exact⟨.str z::vs,.cons hz h1,λt m=>(qA.mp m).elim (λe=>⟨z,e,zz⟩) (h2 t),by simp[h3]⟩
theorem Y6(num:Int)(n1:13<=n)(n2:n<=100)(w2:w<=3)(q2:q<=40)(hG:∀g∈G,GB n q w g)(aI:G≠[])(lG:G.length<=10)(hw:∀x∈ws,Nz n x)(gK:ws≠[])(lw:ws.length<=90):
  ∃G':List Fd,(∃τ,Fm [vl (.lst (G.map Fd.t)),iv num,vl (.lst (ws.map .str))]=.ok (.nw (.lst (G'.map Fd.t))) τ)/\(G'≠[]/\G'.length<=G.length)/\∀g∈G',GB (2*n+13) (2*q+1) (w+1) g:=by
 suffices h:∃x τ,Fm [vl (.lst (G.map Fd.t)),iv num,vl (.lst (ws.map .str))]=.ok x τ/\∃L,x=.nw (.lst L)/\(L≠[]/\L.length<=G.length)/\∀t∈L,∃g,t=Fd.t g/\GB (2*n+13) (2*q+1) (w+1) g by obtain⟨_,τ,e,L,rfl,⟨l0,l⟩,hL⟩:=h;obtain⟨G',rfl,h'⟩:=E9 hL;exact⟨G',⟨τ,e⟩,⟨λe=>l0 (by rw[e];rfl),by rwa[qe]at l⟩,h'⟩
 obtain⟨g,mg,ig⟩:=B2 aI Fd.t num;have hg:=hG g mg;have lk:=hg.y0;have lo:=hg.zE;have gT:0<(G.map Fd.t).length:=by rw[qe];exact rC.mpr aI
 have gW:0<(ws.map T.str).length:=by rw[qe];exact rC.mpr gK
 have lT:(G.map Fd.t).length=G.length:=qe _;obtain⟨a,ha,la⟩:=Kx (num:=num) gT;have c1:(BO (G.map Fd.t) none (some (num%((G.map Fd.t).length:Int)))).length<=a:=by have:=DZ (ts:=G.map Fd.t) (lo:=none) (hi:=some (num%((G.map Fd.t).length:Int)));rw[ha,HT.Cu]at this;rw[ha];lia
 have c2:(BO (G.map Fd.t) (some (num%((G.map Fd.t).length:Int)+1)) none).length<=(G.map Fd.t).length-(a+1):=by have:=DZ (ts:=G.map Fd.t) (lo:=some (num%((G.map Fd.t).length:Int)+1)) (hi:=none);rw[ha,show((a:Int)+1)=((a+1:Nat):Int) by lia,HT.Cu,sP (by lia)]at this;rw[ha,show((a:Int)+1)=((a+1:Nat):Int) by lia];exact this
 have iW:∀t∈G.map Fd.t,∃g,t=Fd.t g/\GB (2*n+13) (2*q+1) (w+1) g:=λt m=>by obtain⟨g,mg,rfl⟩:=qm.mp m;exact⟨g,rfl,(hG g mg).mono (by lia) (by lia) (by lia)⟩
 have K0:Sx n (g.ks.map .str):=Sx.of hg.ks;have O0:Sx n (g.z8.map .str):=Sx.of hg.z8;have U:∀{m:Nat},m<=n->m<=2*n+13:=λh=>by lia
 have R0:∀t∈g.rows.map rwT,∃r,t=rwT r/\RB (2*n+13) (w+1) r:=λt m=>by obtain⟨r,mr,rfl⟩:=qm.mp m;exact⟨r,rfl,(hg.rw r mr).mono (by lia) (by lia)⟩
 obtain⟨wd,mw,iw⟩:=B2 gK T.str (num/45/2);obtain⟨wk,mk,ik⟩:=B2 gK T.str (num/45);obtain⟨z,⟨_,hz⟩,zz⟩:=Hh hg.nm n2 (num/45/2);obtain⟨x0,i0,hx0⟩:∃x,atI [T.str z,.str wd] (num/45%2)=some (.str x)/\Nz (2*n+13) x:=by
  rcases Int.emod_two_eq (num/45)with e|e<;>rw[e]
  .exact⟨_,at0,zz⟩
  .exact⟨_,at1,(hw wd mw).mono (by lia)⟩
 obtain⟨x2,i2,hx2⟩:∃x,atI [T.str "",.str "x",.str wk] (num/45%3)=some (.str x)/\Nz (2*n+13) x:=by
  have e:num/45%3=0\/num/45%3=1\/num/45%3=2:=by lia
  rcases e with e|e|e<;>rw[e]
  .exact⟨_,at0,sM _,nofun⟩
  .exact⟨_,at1,(Rq (n:=1) (by decide +kernel)).mono (by lia)⟩
  .exact⟨_,at2,(hw wk mk).mono (by lia)⟩
 obtain⟨R',⟨_,hr⟩,lR,nB⟩:=N6 (num/45) n1 n2 (by lia) hg.yR hg.rw hg.zE hg.z8 hw gK (by lia);have N1:=hg.nm.mono (show n<=2*n+13 by lia);have k1:=hg.k.mono (show n<=2*n+13 by lia);have lr:=hg.yR;have s1:∀(L:List T)(d:Nat),HT.sIx L.length d (some 1)=min 1 L.length:=λL d=>HT.Cu L.length d 1
 have d1:∀L:List T,(BO L (some 1) none).length<=L.length-1:=λL=>by have:=DZ (ts:=L) (lo:=some 1) (hi:=none);rw[s1]at this;have e:HT.sIx L.length L.length none=L.length:=rfl;lia
 have t1:∀L:List T,(BO L none (some 1)).length<=1:=λL=>by have:=DZ (ts:=L) (lo:=none) (hi:=some 1);rw[s1]at this;lia
 have lK:(g.ks.map T.str).length<=q:=by rw[qe];exact hg.y0
 have lO:(g.z8.map T.str).length<=w:=by rw[qe];exact hg.zE
 have e1:=d1 (g.ks.map .str);have e2:=t1 (g.ks.map .str);have e3:(BO (g.ks.map T.str) none (some (-1))).length<=(g.ks.map T.str).length:=U3;have zx:Nz n ("x":Str):=(Rq (n:=1) (by decide +kernel)).mono (by lia);obtain⟨M1,i1,hM1⟩:∃M,atI ([T.tup (BO (g.ks.map .str) (some 1) none),.tup (g.ks.map .str++BO (g.ks.map .str) none (some 1)),.tup (g.ks.map .str++g.ks.map .str++BO (g.ks.map .str) none (some 1))]++[.tup ([.str "x"]++BO (g.ks.map .str) (some 1) none),.tup (BO (g.ks.map .str) none (some (-1))++[.str "x"])]) (num/45%5)=some (.tup M)/\Sx (2*n+13) M/\M.length<=2*q+1:=by
  have e:num/45%5=0\/num/45%5=1\/num/45%5=2\/num/45%5=3\/num/45%5=4:=by lia
  rcases e with e|e|e|e|e<;>rw[e]
  .exact⟨_,rfl,K0.cut.mono (by lia),by lia⟩
  .exact⟨_,rfl,(K0.app K0.cut).mono (by lia),by rw[qv];lia⟩
  .exact⟨_,rfl,((K0.app K0).app K0.cut).mono (by lia),by rw[qv,qv];lia⟩
  .exact⟨_,rfl,((Sx.one zx).app K0.cut).mono (by lia),by rw[qv,qT];lia⟩
  .exact⟨_,rfl,(K0.cut.app (Sx.one zx)).mono (by lia),by rw[qv,qT];lia⟩
 have zq:Nz (2*n+13) ("q":Str):=(Rq (n:=1) (by decide +kernel)).mono (by lia);obtain⟨vs,hF,hv,lv⟩:=N7 n2 (num/45) hg.z8;obtain⟨M3,mX,nA,pT⟩:=mulX O0 (by lia);have e4:=d1 (g.z8.map .str);have e5:=t1 (g.z8.map .str);obtain⟨M5,i5,hM5⟩:∃M,atI [T.tup (BO (g.z8.map .str) (some 1) none),.tup (g.z8.map .str++[.str "q"]),.tup (g.z8.map .str++BO (g.z8.map .str) none (some 1)),.tup vs,.tup M3] (num/45%5)=some (.tup M)/\Sx (2*n+13) M/\M.length<=w+1:=by
  have e:num/45%5=0\/num/45%5=1\/num/45%5=2\/num/45%5=3\/num/45%5=4:=by lia
  rcases e with e|e|e|e|e<;>rw[e]
  .exact⟨_,rfl,O0.cut.mono (by lia),by lia⟩
  .exact⟨_,rfl,(O0.mono (by lia)).app (Sx.one zq),by rw[qv,qT];lia⟩
  .exact⟨_,rfl,(O0.app O0.cut).mono (by lia),by rw[qv];lia⟩
  .exact⟨_,rfl,hv,by lia⟩
  .exact⟨_,rfl,nA.mono (by lia),by lia⟩
 apply E3;unfold Ob;apply A2
 .trivial
 apply A2
 .trivial
 apply A2
 .trivial
 apply A2
 .trivial
 apply Gh (β:=Str×List T×Str×List T×List T×Option Sl×Option Sl) (J:=λx=>[vl (.lst (G.map Fd.t)),iv (num/45),vl (.lst (ws.map .str)),iv (num%((G.map Fd.t).length:Int)),vl (.str x.1),vl (.tup x.2.1),vl (.str x.2.2.1),vl (.tup x.2.2.2.1),vl (.tup x.2.2.2.2.1),iv (num/5%9),x.2.2.2.2.2.1,x.2.2.2.2.2.2]) (P:=λx=>Nz (2*n+13) x.1/\(Sx (2*n+13) x.2.1/\x.2.1.length<=2*q+1)/\Nz (2*n+13) x.2.2.1/\(Sx (2*n+13) x.2.2.2.1/\x.2.2.2.1.length<=w+1)/\x.2.2.2.2.1.length<=4+(w+1)/\∀t∈x.2.2.2.2.1,∃r,t=rwT r/\RB (2*n+13) (w+1) r)
 .trivial
 .intro _;refine⟨(x0,g.ks.map .str,g.k,g.z8.map .str,g.rows.map rwT,none,none),⟨hx0,⟨K0.mono (by lia),by simp;lia⟩,k1,⟨O0.mono (by lia),by simp;lia⟩,by simp;lia,R0⟩,?_⟩;trivial
 .intro _;apply Xx
  .trivial
  .intro _;refine⟨(g.nm,M1,g.k,g.z8.map .str,g.rows.map rwT,vl (.lst [.tup ([.str "x"]++BO (g.ks.map .str) (some 1) none),.tup (BO (g.ks.map .str) none (some (-1))++[.str "x"])]),none),⟨N1,hM1,k1,⟨O0.mono (by lia),by simp;lia⟩,by simp;lia,R0⟩,?_⟩;trivial
   .exact VJ BU
   trivial
  intro _;apply Xx
  .trivial
  .intro _;refine⟨(g.nm,g.ks.map .str,x2,g.z8.map .str,g.rows.map rwT,none,none),⟨N1,⟨K0.mono (by lia),by simp;lia⟩,hx2,⟨O0.mono (by lia),by simp;lia⟩,by simp;lia,R0⟩,?_⟩;trivial
  intro _;apply Xx
  .trivial
  .intro _;refine⟨(g.nm,g.ks.map .str,g.k,M5,g.rows.map rwT,none,vl (.tup vs)),⟨N1,⟨K0.mono (by lia),by simp;lia⟩,k1,hM5,by simp;lia,R0⟩,?_⟩;apply VG
   .apply Ox
    .apply Vx
     .apply EW (us:=vs)
      .trivial
      .trivial
      .apply QC (p:=T.str)
       .trivial
       .exact hF.imp λx v ⟨τ,e⟩=>by trivial
       .lia
     .trivial
    .trivial
   trivial
   .exact mX _
   trivial
  intro _;refine⟨(g.nm,g.ks.map .str,g.k,g.z8.map .str,R'.map rwT,none,none),⟨N1,⟨K0.mono (by lia),by simp;lia⟩,k1,⟨O0.mono (by lia),by simp;lia⟩,by simp;lia,λt m=>by obtain⟨r,mr,rfl⟩:=qm.mp m;exact⟨r,rfl,nB r mr⟩⟩,?_⟩;trivial
 .rintro⟨nm,W,k,O,L,aQ,bW⟩ ⟨p1,⟨p2,p3⟩,p4,⟨p5,p6⟩,p7,p8⟩
  trivial
  try (rw[qv,qT];show _<=1000000;lia)
  try refine OV True.intro ?_
  refine⟨_,rfl,⟨by simp,by rw[qv,qv,qT];lia⟩,λt m=>?_⟩;rcases qd.mp m with m|m
  .rcases qd.mp m with m|m
   .exact iW t (Hb m)
   .obtain⟨W,rfl,hW⟩:=E9 p2;obtain⟨O,rfl,hO⟩:=E9 p5;obtain⟨R,rfl,hR⟩:=E9 p8;simp only[qe]at p3 p6 p7;exact⟨⟨nm,W,k,O,R⟩,qj.mp m,p1,p4,p3,hW,p6,hO,p7,hR⟩
  .exact iW t (Hb m)
theorem Ty.wx(W:Well K)(bJ:∀s∈mks K,Lw s)(h1:∀x k,kn x k->A9 x=true)(h2:∀f ps k ts,cl f ps k ts->A9 f=true/\ps.length<=3):∀{n:Nat}{t:T}{k:Str},Ty K kn cl n t k->Wx 3 n t
 |n+1,t,k,h=>by
  rcases h with⟨x,a,b⟩|⟨m,ps,ts,⟨kd,m1,_,m2⟩,b,e⟩|⟨f,ps,ts,a,b,e⟩
  .exact .inl ⟨x,h1 _ _ a,b⟩
  .exact .inr ⟨"make",m,ts,.inl rfl,Ls (bJ _ (Ed m1 m2)),by have:=b.len;have:=W.two kd m1 _ m2;simp only at this;lia,λu mu=>by obtain⟨p,h⟩:=b.flip.r u mu;exact h.wx W bJ h1 h2,e⟩
  .exact .inr ⟨"call",f,ts,.inr rfl,(h2 _ _ _ _ a).1,by have:=b.len;have:=(h2 _ _ _ _ a).2;lia,λu mu=>by obtain⟨p,h⟩:=b.flip.r u mu;exact h.wx W bJ h1 h2,e⟩
theorem LY:∀{ks:List Key}{ts:List T},By ks ts x=some t->x∈ks
 |k::ks,u::ts,h=>by
  unfold By at h;split at h
  next e=>exact e▸qB
  .exact qf _ (LY h)
 | [],_,h=>by cases h
 |_::_,[],h=>by cases h
theorem QZ:∀{E:List Fd},By (hkD E) (hvD E) x=some t->∃g∈E,ky g.nm=x/\t=hvT g
 |g::E,h=>by
  simp only[qi,By]at h;split at h
  next e=>cases h;exact⟨g,qB,e,rfl⟩
  .obtain⟨g',m,e⟩:=QZ h;exact⟨g',qf _ m,e⟩
 | [],h=>by cases h
theorem YR(W:Well K)(iG:∀s∈K.map (·.1),Lw s)(bJ:∀s∈mks K,Lw s)(ip:Lw g.nm)(hD:∀g∈D,Lw g.nm/\g.ks.length<=3)(O:FOk K D g):GB 13 3 2 g:=by
 obtain⟨kd,ks,mk,bt,ho,l2,hr,fV⟩:=O.ex;have l3:g.ks.length<=3:=by rw[bt,qL];lia
 have kl:=λx mx=>(iG _ (O.ind x mx)).nz
 have lr:=congrArg List.length hr;rw[qe,qe]at lr;have w4:=W.rw kd mk;have on:∀x∈g.z8,Lw x:=λx mx=>by cases hrw:g.rows with|nil=>rw[hrw]at lr;simp at lr;lia|cons r R=>exact(fV r (by rw[hrw];exact qB)).nm x (qt _ mx)
 refine⟨ip.nz,kl _ (by simp),l3,λx mx=>kl x (qk _ mx),by lia,λx mx=>(on x mx).nz,by lia,λr mr=>?_⟩;have Or:=fV r mr;obtain⟨ps,kn,cl,kf,_,_,hS,_,ht⟩:=Or.ex;have S:=hS 0 0;have hn:∀x∈(D++[g]).map Fd.nm,Lw x:=λx mx=>by
  obtain⟨g',m',rfl⟩:=qm.mp mx;rcases qd.mp m' with m'|m'
  .exact(hD g' m').1
  .rw[qj.mp m'];exact ip
 refine⟨Or.two,λx mx=>(Or.nm x (qk _ mx)).nz,?_⟩;refine(ht.wx W bJ (λx k h=>?_) λf qs k ts h=>?_).mono (qz _) (qz _)
 .obtain⟨y,my,e⟩:=qm.mp (LY (S.nm x k h));rw[<- Sum.inr.inj e];exact Ls (Or.nm y my)
 .have hv:=(S.hd f qs k ts h).1;obtain⟨g',m',e,et⟩:=QZ hv;refine⟨?_,?_⟩
  .rw[<- Sum.inr.inj e];exact Ls (hn _ (qm.mpr ⟨g',m',rfl⟩))
  .simp only[T.tup.injEq,List.cons.injEq]at et;have:=congrArg List.length et.1;rw[qe,qe]at this;rw[this];rcases qd.mp m' with m'|m'
   .exact(hD g' m').2
   .rw[qj.mp m'];exact l3
section
variable{C:Addr}{Fn:FS->Out Rv}{fa:FS->Out (List Rv)}{fs af τ:FS}{a1 a2:T}{o:FO}{c:Str}{s:Option Sl}
theorem mkX(ha:fa fs=.ok rs af)(hp:rs.length+1=p)(hl:Dk af (rs.map AK)=[])(hf:Fn (some (.bor (.ins C [] []))::Bx af (rs.map AK))=.ok (.t .l) (some (.bor o)::τ)):Ac (DQ C p Fn) fa fs=.ok (.nw o) af:=by unfold Ac;rw[ha];show DQ C p Fn rs af=_;unfold DQ;rw[if_pos ⟨by rw[hl];exact qM,hp⟩,hf];dsimp only;rw[Bv hl]
theorem mkXe(ha:fa fs=.ok rs af)(hp:rs.length+1=p)(hl:Dk af (rs.map AK)=[])(hf:Fn (some (.bor (.ins C [] []))::Bx af (rs.map AK))=.exc c (s::τ)):Ac (DQ C p Fn) fa fs=.exc c af:=by unfold Ac;rw[ha];show DQ C p Fn rs af=_;unfold DQ;rw[if_pos ⟨by rw[hl];exact qM,hp⟩,hf];dsimp only;rw[Bv hl]
theorem ZR(ha:fa fs=.ok [.t a1] af)(hf:Fn [some (.bor (.ins C [] [])),vl a1]=.ok (.t .l) (some (.bor o)::τ)):Ac (DQ C 2 Fn) fa fs=.ok (.nw o) af:=mkX ha rfl rfl hf
theorem ZQ(ha:fa fs=.ok [.t a1,.t a2] af)(hf:Fn [some (.bor (.ins C [] [])),vl a1,vl a2]=.ok (.t .l) (some (.bor o)::τ)):Ac (DQ C 3 Fn) fa fs=.ok (.nw o) af:=mkX ha rfl rfl hf
theorem JbH(ha:fa fs=.ok [.t a1,.t a2] af)(hf:Fn [some (.bor (.ins C [] [])),vl a1,vl a2]=.exc c (s::τ)):Ac (DQ C 3 Fn) fa fs=.exc c af:=mkXe ha rfl rfl hf
end
theorem PC(h0:fs[i]?=some (vl (kT K)))(h4:K.length<=4):Bo false [none,none] (itU (fz (Aa i))) (Aw 2 (Af (tgN 0) (Af (tgN 1) Au))) D5 (fz (Aa 0)) fs=.ok (.t (.lst ((K.map (·.1)).map .str))) fs:=by rw[show(K.map (·.1)).map T.str=K.map λkd=>T.str kd.1 by rw[qO];rfl];refine EW (Oy (Zc (As h0) OA) (.inl rfl)) (so1 (so1 so0)) (Hc CB CB (λ_=>rfl) (λkd _=>?_) (by lia));trivial
section
variable{K:Kd}
theorem JI(W:Well K):∃τ,BJ [vl (kT K)]=.ok (.nw (.lst ((mks K).map .str))) τ:=by
 suffices h:∃o τ,BJ [vl (kT K)]=.ok (.nw o) τ/\o=.lst ((mks K).map .str) by obtain⟨_,τ,e,rfl⟩:=h;exact⟨τ,e⟩
 apply J3;unfold Dt;trivial;have len:∀D kd R Z r Y,D++kd::R=K->Z++r::Y=kd.2->(mks D).length+Z.length<1000:=λD kd R Z r Y e e2=>by
  have h1:=Jq W.hi λkd m=>(W.rw kd m).2
  rw[<- e,GR,EK,<- e2]at h1;simp at h1
  lia
 apply BQ (I:=λD fs=>∃y2 y3 y4 y5,fs=[vl (kT K),some (.own (.lst ((mks D).map .str))),y2,y3,y4,y5]/\Fre y2/\Fre y3/\Fre y4/\Fre y5) (p:=Bq)
 case hi=>trivial
 case h0=>exact⟨none,none,none,none,rfl,True.intro,True.intro,True.intro,True.intro⟩
 case st =>
  rintro D kd R _ e ⟨y2,y3,y4,y5,rfl,f2,f3,f4,f5⟩
  trivial;apply HG (I:=λ(Z:List (Str×List Str)) fs=>∃y4 y5,fs=[vl (kT K),some (.own (.lst ((mks D++Z.map (·.1)).map .str))),vl (.str kd.1),vl (.lst (kd.2.map Dv)),y4,y5]/\Fre y4/\Fre y5) (xs:=kd.2) (p:=Dv)
  case hi=>trivial
  case h0=>exact⟨y4,y5,by rw[sf,qS];rfl,f4,f5⟩
  case st =>
   rintro Z r Y _ e2 ⟨y4,y5,rfl,f4,f5⟩
   have:=len D kd R Z r Y e e2;trivial;exact⟨_,_,by rw[qh (f:=Prod.fst),<- qU,qh (l₂:=[r].map Prod.fst)];rfl,Al,Al⟩
  case k =>
   rintro _ ⟨y4,y5,rfl,f4,f5⟩
   trivial;exact⟨_,_,_,_,by rw[GR,EK,show mks []=[]from rfl,qS],Al,Al,f4,f5⟩
 case k =>
  rintro _ ⟨y2,y3,y4,y5,rfl,f2,f3,f4,f5⟩
  trivial;exact Zh rfl rfl
end
theorem Jau(h:rE aA au K D g z=some c):c∈Om:=by
 unfold rE at h;split at h
 next hx=>exact(hx.choose_spec.no c h).1
 .cases h
theorem JbF(h:fE aA au K D g=some c):c∈Om:=by
 unfold fE at h;split at h
 next hd=>cases h;exact XF hd
 .split at h
  .obtain⟨z,_,e⟩:=rB h;exact Jau e
  .cases h
theorem Np{α:Type}{ok:List α->α->Option Str}{P:Str->Prop}(hp:∀D a c,ok D a=some c->P c){c:Str}:∀{R D:List α},Ci ok D R=some c->P c
 | [],_,h=>by cases h
 |a::R,D,h=>by unfold Ci at h;cases e:ok D a with|some c'=>rw[e]at h;cases h;exact hp _ _ _ e|none=>rw[e]at h;exact Np hp h
theorem good(cP aA au:Addr):∀ns:List Int,ns.length<=63->C8 ns<=2^20->∃fs,YG cP aA au [some (.val (.z0 (ns.map T.int)))]=.ok (.t (.v true)) fs:=by
 intro ns hl k8;obtain⟨K,ks,ws,n,m,k1,k3,iX,hk,hw,lK,jc,oE,n6,_,ib⟩:=kinds ns;have W:=VS k1 k3 iX hk hw lK jc;have bJ:∀s∈mks K,Lw s:=λs ms=>by obtain⟨kd,m1,m2⟩:=rA.mp ms;obtain⟨r,m3,rfl⟩:=qm.mp m2;obtain⟨a,ha⟩:=rM.mp m1;obtain⟨i,i4,_,ei⟩:=Jy jc ha m3;exact hw.lw (qV ei)
 have iG:∀s∈K.map (·.1),Lw s:=λs ms=>hk.lw (by rw[<- MU lK jc];exact ms)
 obtain⟨G,jH,g4,ng,g6,_,fw⟩:=Fl W (by lia) iX hw (λj s e ms=>by
  obtain⟨kd,m1,m2⟩:=rA.mp ms;obtain⟨r,m3,rfl⟩:=qm.mp m2;obtain⟨a,ha⟩:=rM.mp m1;obtain⟨i,i4,_,ei⟩:=Jy jc ha m3;have:=hw.inj (by lia) ei e;have:=(ql.mp ha).1
  lia) oE n6
 have gk:∀g∈G,Lw g.nm/\g.ks.length<=3:=λg mg=>by obtain⟨A,B,e⟩:=r8 mg;obtain⟨kd,kr,_,bt,_,l2,_⟩:=(g6 A g B e.symm).ex;exact⟨hw.lw (rQ (rq (ng▸qm.mpr ⟨g,mg,rfl⟩))),by rw[bt];simp;lia⟩
 have G0:∀g∈G,GB 13 3 2 g:=λg mg=>by obtain⟨A,B,e⟩:=r8 mg;exact YR W iG bJ (gk g mg).1 (λg' m'=>gk g' (by rw[e];exact qk _ m')) (g6 A g B e.symm)
 have hK:∀kd∈K,Lw kd.1:=λkd mk=>iG _ (qm.mpr ⟨kd,mk,rfl⟩)
 have h4:=W.hi;have c0:=CG ns 0;obtain⟨hd,_,pO⟩:=mix (ns.getD 0 0) (k:=0) (by lia);have c11:=CG ns 11;obtain⟨v11,_,pV⟩:=mix (ns.getD 11 0) (k:=8) (by lia);have c12:=CG ns 12;obtain⟨pq,_,pW⟩:=mix (ns.getD 12 0) (k:=9) (by lia);obtain⟨_,si⟩:=Jd (C:=au) W;obtain⟨_,em⟩:=JI W;have ml:=Jq W.hi λkd m=>(W.rw kd m).2
 obtain⟨wl,ewl,wlw,gK,wll⟩:∃wl:List Str,(G.map Fd.nm).map T.str++(mks K).map T.str++(K.map (·.1)).map T.str=wl.map T.str/\(∀w∈wl,Nz 13 w)/\wl≠[]/\wl.length<=90:=by
  refine⟨G.map Fd.nm++mks K++K.map (·.1),by simp only[qh],λw mw=>?_,by simp[jH],by simp;lia⟩;simp only[qd]at mw;rcases mw with(mw|mw)|mw
  .obtain⟨g,mg,rfl⟩:=qm.mp mw;exact(gk g mg).1.nz
  .exact(bJ w mw).nz
  .exact(iG w mw).nz
 apply AU;unfold Y7;apply A2
 .trivial
 apply A2
 .trivial
 apply A2
 .trivial
 apply A2
 .trivial
 apply A2
 .trivial
 rw[ewl];apply Gh (β:=List Fd) (J:=λG'=>[vl (.z0 (ns.map T.int)),iv hd,vl (kT K),vl (.lst (G'.map Fd.t)),vl (.lst (wl.map .str)),none,none,none]) (P:=λG'=>(G'≠[]/\G'.length<=4)/\∀g∈G',GB 39 7 3 g)
 .trivial
 .intro _;obtain⟨G',⟨_,hb⟩,⟨b1,b2⟩,b3⟩:=Y6 v11 (by lia) (by lia) (by lia) (by lia) G0 jH (by lia) wlw gK wll;exact⟨G',⟨⟨b1,by lia⟩,b3⟩,by trivial⟩
 .intro _;exact⟨G,⟨⟨jH,g4⟩,λg mg=>(G0 g mg).mono (by lia) (by lia) (by lia)⟩,rfl⟩
 rintro G1 ⟨⟨a1,a2⟩,a3⟩
 apply Gh (β:=List Fd) (J:=λG'=>[vl (.z0 (ns.map T.int)),iv hd,vl (kT K),vl (.lst (G'.map Fd.t)),vl (.lst (wl.map .str)),none,none,none]) (P:=λG'=>G'.length<=4/\∀g∈G',GB 91 15 4 g)
 .trivial
 .intro _;obtain⟨G',⟨_,hb⟩,⟨b1,b2⟩,b3⟩:=Y6 pq (by lia) (by lia) (by lia) (by lia) a3 a1 (by lia) (λx mx=>(wlw x mx).mono (by lia)) gK wll;exact⟨G',⟨by lia,b3⟩,by trivial⟩
 .intro _;exact⟨G1,⟨a2,λg mg=>(a3 g mg).mono (by lia) (by lia) (by lia)⟩,rfl⟩
 rintro G2 ⟨b2,b3⟩
 have kW:∀g∈G2,GOk g:=λg mg=>(b3 g mg).ok (by lia) (by lia) (by lia)
 obtain⟨_,Eu⟩:=UY (aA:=aA) (au:=au) W hK bJ kW (by lia);have pa:=O4 (cP:=cP) (aA:=aA) (au:=au) W hK bJ kW (by lia);cases e:Ci (fE aA au K) [] G2 with
 |none =>
  rw[e,sm]at Eu;obtain⟨o,_,pi⟩:=pa.1 e;trivial;apply A2
  .apply Vv;trivial
  trivial
 |some c =>
  rw[e,Option.getD_some]at Eu;obtain⟨s,_,px⟩:=pa.2 c e;have hc:c∈Om:=Np (P:=(·∈Om)) (λD a c h=>JbF h) e;have h:=US hc;obtain⟨jO,nM⟩:=NU hc;trivial;apply A2
  .apply Zw (c:=c)
   .apply Fo;apply JbH
    .trivial
    .exact px
   .exact nM
   .trivial
   .trivial
   .trivial
  trivial;simp
end
theorem us1{α:Type}{us:List α}(e:us.length=1):∃a,us=[a]:=by match us,e with| [a],_=>exact⟨a,rfl⟩
theorem us2{α:Type}{us:List α}(e:us.length=2):∃a b,us=[a,b]:=by match us,e with| [a,b],_=>exact⟨a,b,rfl⟩
theorem us3{α:Type}{us:List α}(e:us.length=3):∃a b c,us=[a,b,c]:=by match us,e with| [a,b,c],_=>exact⟨a,b,c,rfl⟩
theorem us4{α:Type}{us:List α}(e:us.length=4):∃a b c d,us=[a,b,c,d]:=by match us,e with| [a,b,c,d],_=>exact⟨a,b,c,d,rfl⟩
theorem us5{α:Type}{us:List α}(e:us.length=5):∃a b c d e,us=[a,b,c,d,e]:=by match us,e with| [a,b,c,d,e],_=>exact⟨a,b,c,d,e,rfl⟩
theorem us6{α:Type}{us:List α}(e:us.length=6):∃a b c d e f,us=[a,b,c,d,e,f]:=by match us,e with| [a,b,c,d,e,f],_=>exact⟨a,b,c,d,e,f,rfl⟩
abbrev DF(K:Fg)(n:Str)(st:Stmt):Prop:=∃f fd,nsIn K mainGlobals n=some (some (.ref f))/\Fun K n n st f fd
abbrev DM(K:Fg)(C:Addr)(m q:Str)(st:Stmt):Prop:=∃f fd,findIn K (.ref C) m=some (some (.ref f))/\isFn K (.ref f)=true/\Fun K m q st f fd
structure CC(K:Fg)(x:Str)(C:Addr):Prop where
 ac:nsIn K mainGlobals x=some (some (.ref C))
 xW:makesIn K C=true
 kc:keepIn K (.ref C)=true
abbrev aF(P:Program)(w:World)(K:Fg)(mg:Str->Option Value)(base:Heap)(n:Str)(k:Nat)(ps:List Str)(p:Nat)(Fn:FS->Out Rv):Prop:=FnAt P w K mg base (CX1 P w) n k ps (spX K p Fn)
abbrev aM(P:Program)(w:World)(K:Fg)(mg:Str->Option Value)(base:Heap)(C:Addr)(n:Str)(k:Nat)(ps:List Str)(p:Nat)(Fn:FS->Out Rv):Prop:=Vt P w K mg base (CX1 P w) C n k ps (spX K p Fn)
abbrev aK(P:Program)(w:World)(K:Fg)(mg:Str->Option Value)(base:Heap)(n:Str)(C:Addr)(k:Nat)(ps:List Str)(p:Nat)(Fn:FS->Out Rv):Prop:=Vu P w K mg base (CX1 P w) n C k ps (spX K p Fn)
section
variable{P:Program}{w:World}{K:Fg}{mg:Str->Option Value}{base h:Heap}{CX:CXT}{n m q:Str}{st:Stmt}{k:Nat}{ps:List Str}{sp:Sp}{C:Addr}(X:K.In h)(G:h.Ns mainGlobals mg)
abbrev BA(x q:Str)(st:Stmt)(ps:List Str):Prop:=∀(kV cm pm:Value)(an:Option Addr)(cdv ct:Value)(us:List Value),us.length=ps.length->bindArgs (fnOf x q (Fq st) (DC st) (Bd st) .none kV cm pm an cdv ct) ⟨us,[]⟩=pure (ps.zip us)
theorem Vh(X:K.In h)(G:h.Ns mainGlobals mg)(d:DF K n st)(B:BA n n st ps)(O:∀f fd,Fun K n n st f fd->(∀k sp,D4 P w K mg base CX k f fd ps sp->FnAt P w K mg base CX n k ps sp)->D4 P w K mg base CX k f fd ps sp):FnAt P w K mg base CX n k ps sp :=
 let⟨f,fd,a,F⟩:=d
 ⟨f,fd,O f fd F λ_ _ o=>⟨f,fd,o,mg_of X G a,F.kp,F.binds B⟩,mg_of X G a,F.kp,F.binds B⟩
theorem R4(X:K.In h)(G:h.Ns mainGlobals mg)(d:DF K n st)(B:BA n n st ps){j p:Nat}{F:Nat->FS->Out Rv}(hp:ps.length=p)(h0:F 0=λ_=>.bad)(O:∀i f fd,Fun K n n st f fd->FnAt P w K mg base (CX1 P w) n (j+i) ps (spX K p (F i))->D4 P w K mg base (CX1 P w) (j+i+1) f fd ps (spX K p (F (i+1)))):∀i,FnAt P w K mg base (CX1 P w) n (j+i) ps (spX K p (F i))
 |0=>Vh X G d B λf fd Fu _=>⟨λvs H Q E h=>h.1.trans hp.symm,λA outer s H args us vs Q E hr he hb hv h=>by obtain⟨_,F,cw,ok,h⟩:=h;rw[h0]at h;exact h.elim⟩
 |i+1=>Vh X G d B λf fd Fu _=>O i f fd Fu (R4 X G d B hp h0 O i)
theorem JbN{i j p:Nat}{F:Nat->FS->Out Rv}(X:K.In h)(G:h.Ns mainGlobals mg)(hk:k=j+i)(hp:ps.length=p)(h0:F 0=λ_=>.bad)(d:DF K n st)(B:BA n n st ps)(O:∀i f fd,Fun K n n st f fd->FnAt P w K mg base (CX1 P w) n (j+i) ps (spX K p (F i))->D4 P w K mg base (CX1 P w) (j+i+1) f fd ps (spX K p (F (i+1)))):FnAt P w K mg base (CX1 P w) n k ps (spX K p (F i)):=hk▸R4 X G d B hp h0 O i
theorem JbO(c:Cls K C)(d:DM K C m q st)(B:BA m q st ps)(O:∀f fd,Fun K m q st f fd->D4 P w K mg base CX k f fd ps sp):Vt P w K mg base CX C m k ps sp :=
 let⟨f,fd,a,i,F⟩:=d
 ⟨c,f,fd,O f fd F,⟨a,i,F.kp⟩,F.binds B⟩
theorem JbP(X:K.In h)(G:h.Ns mainGlobals mg)(c:CC K n C)(d:DM K C "__init__" q st)(B:BA "__init__" q st ps)(O:∀f fd,Fun K "__init__" q st f fd->D4 P w K mg base CX k f fd ps sp):Vu P w K mg base CX n C k ps sp :=
 let⟨f,fd,a,i,F⟩:=d
 ⟨mg_of X G c.ac,f,fd,O f fd F,⟨c.xW,a,i,c.kc⟩,F.binds B⟩
end
def OL(K:Fg):Sp:=λvs H Q _=>∃(a:Addr)(ns:List Int),vs=[.ref a]/\SqL K H a (ns.map V.int)/\ns.length<=63/\C8 ns<=2^20/\∀H',Q (.v true) H'
theorem J2{K:Fg}{F:Wd}{H:Hp}:∀(ns:List Int),Ah K F H (ns.map T.int) (ns.map V.int)
 | []=>by simp[Ah]
 |n::ns=>by simp only[qi,Ah];exact⟨_,_,rfl,by simp[AH],J2 ns⟩
theorem Xr{K:Fg}{Fn:FS->Out Rv}(good:∀ns:List Int,ns.length<=63->C8 ns<=2^20->∃fs,Fn [some (.val (.z0 (ns.map T.int)))]=.ok (.t (.v true)) fs):∀vs H Q E,OL K vs H Q E->spX K 1 Fn vs H Q E:=by
 intro vs H Q E ⟨a,ns,e,hs,hl,hb,k⟩;subst e;obtain⟨fs,eg⟩:=good ns hl hb;have key:∀F:Wd,StL K F H a (ns.map V.int)->(∀b,F b->H b≠none)->(∀b,¬F.p b)->spX K 1 Fn [.ref a] H Q E:=λF st fd np=>by
  refine⟨rfl,F,[some (.val (.z0 (ns.map T.int)))],⟨[],?_,qM,(λ_ m=>nomatch m),fd,?_,λb p=>(np b p).elim,λb _ p=>np b p,(λ_ m=>nomatch m)⟩,?_⟩
  .show Ap K F H [some (.val (.z0 (ns.map T.int)))] [some (.ref a)] [];simp only[Ap];exact⟨_,_,rfl,by simp only[AH];exact⟨a,_,rfl,st,J2 ns⟩,by first|exact⟨rfl,rfl⟩|trivial⟩
  .intro i o e;cases i with|zero=>cases e|succ i=>simp at e
  .rw[eg];intro F' H' u ax _ q;obtain⟨L,L',_,⟨_,qu⟩,_⟩:=q;have:u=.v true:=qu;subst this;exact k H'
 rcases hs with hs|hs
 .exact key ⟨λb=>b=a,λ_=>False⟩ (.inl ⟨rfl,hs⟩) (λb e=>by have e':b=a:=e;subst e';rcases hs with z|⟨o,z⟩<;>(rw[z];exact λq=>nomatch q)) λ_ p=>p
 .exact key ⟨λ_=>False,λ_=>False⟩ (.inr hs) (λb e=>e.elim) λ_ p=>p
structure Ds(K:Fg)(ak aj ah:Addr):Prop where
 d0:DF K "_law_mix" (top 44)
 d1:DF K "_law_letters" (top 45)
 d2:DF K "_law_words" (top 46)
 d3:DF K "_law_cell_at" (top 43)
 d4:DF K "_law_kinds" (top 47)
 d5:DF K "_law_copy_row" (top 54)
 d6:DF K "_law_makers" (top 48)
 d7:DF K "_law_put" (top 53)
 d8:DF K "_law_least" (top 50)
 d9:DF K "_law_stream" (top 51)
 yD:DF K "_law_grown" (top 52)
 yC:DF K "_law_body" (top 55)
 yB:DF K "_law_function" (top 56)
 yA:DF K "_law_functions" (top 57)
 yz:DF K "_law_is_name" (top 61)
 yy:DF K "_law_maker" (top 58)
 yx:DF K "_law_head_due" (top 62)
 yw:DF K "_law_kind" (top 59)
 yv:DF K "_law_row_due" (top 63)
 yu:DF K "_law_due" (top 64)
 yr:DF K "_law_every_maker" (top 49)
 yq:DF K "_law_bad_name" (top 65)
 yp:DF K "_law_bent_body" (top 66)
 yo:DF K "_law_bent_rows" (top 67)
 yn:DF K "_law_bent" (top 68)
 ym:DF K "is_name" (top 21)
 yl:DM K ah "makers" "Stock.makers" (inClass (top 37) 2)
 yk:DM K ah "kinds" "Stock.kinds" (inClass (top 37) 1)
 yj:DF K "is_maker" (top 30)
 yi:DF K "check_head" (top 29)
 yh:DM K ah "parts" "Stock.parts" (inClass (top 37) 3)
 yg:DF K "check_names" (top 32)
 yf:DM K ah "home" "Stock.home" (inClass (top 37) 4)
 ye:DF K "kinds_of_head" (top 28)
 yd:DF K "kind_of_name" (top 27)
 yc:DF K "kind_within" (top 26)
 yb:DM K aj "__init__" "Scope.__init__" (inClass (top 25) 0)
 ya:DF K "check_row" (top 31)
 x9:DM K ak "__init__" "Program.__init__" (inClass (top 24) 0)
 x8:DF K "_law_class" (top 60)
 x6:DF K "check_kinds" (top 38)
 x5:DF K "check_maker" (top 40)
 x4:DF K "check_ground" (top 41)
 xZ:DF K "check_makers" (top 39)
 xY:DM K ah "__init__" "Stock.__init__" (inClass (top 37) 0)
 xX:DF K "law" (top 69)
section
variable{P:Program}{w:World}{K:Fg}{mg:Str->Option Value}{base h:Heap}{ak aj ah:Addr}(X:K.In h)(G:h.Ns mainGlobals mg)(T:Tx K mg ak aj ah)(C_Program:CC K "Program" ak)(C_Scope:CC K "Scope" aj)(C_Stock:CC K "Stock" ah)(D:Ds K ak aj ah)
abbrev bi:Str:="_law_kinds_here"
abbrev bl:Str:="_law_kind_here"
abbrev bn:Str:="_law_number"
abbrev bv:Str:="_law_words_here"
abbrev ce:Str:="_law_calls"
abbrev ci:Str:="_law_script"
abbrev cr:Str:="_law_function_here"
abbrev db:Str:="_law_name"
abbrev dK:Str:="_law_functions_here"
abbrev dL:Str:="_law_maker_here"
abbrev ge:Str:="_law_parts"
abbrev gl:Str:="_law_known"
abbrev ii:Str:="_law_makers_here"
abbrev im:Str:="_law_names"
abbrev kt:Str:="_law_wanted"
abbrev lc:Str:="_law_own"
abbrev pc:Str:="_law_lessers"
abbrev py:Str:="_law_others"
abbrev rc:Str:="maker"
abbrev rf:Str:="_law_rows"
abbrev ss:Str:="_law_expression"
abbrev sw:Str:="_law_arguments"
abbrev sB:Str:="_law_body_here"
abbrev sK:Str:="self"
abbrev tm:Str:="kinds"
abbrev tq:Str:="stock"
abbrev tu:Str:="_law_at"
abbrev tw:Str:="_law_k"
abbrev tz:Str:="_law_made"
abbrev tB:Str:="_law_levels"
abbrev tD:Str:="function"
abbrev tE:Str:="parts"
abbrev tH:Str:="_law_argument"
abbrev tJ:Str:="_law_due_here"
abbrev tK:Str:="kinds_by_name"
abbrev tL:Str:="_law_many"
abbrev tM:Str:="_law_word"
abbrev tN:Str:="kind"
abbrev tO:Str:="_law_kept"
abbrev tQ:Str:="makers_ahead"
abbrev tR:Str:="kinds_above"
abbrev tS:Str:="_law_way"
abbrev tU:Str:="_law_one"
abbrev tV:Str:="name"
abbrev tW:Str:="heads"
abbrev tX:Str:="scope"
seal FE FT FA FW FP GS GSs GT GTs FI FAn FIf
include X G T C_Program C_Scope C_Stock D
local macro_rules(kind:=Lean.Parser.Command.mutual)|s=>do
 let t:=((s.find? (·.isOfKind ``Lean.Parser.Tactic.tacticSeq1Indented)).get!)[0].getSepArgs
 let E:=Lean.Syntax.isOfKind (k:=`Lean.Parser.Tactic.«tacticExists_,,»)
 let o<-t[0]!.replaceM λx=>if E x then some<$>Zz9 x[1][0].isStrLit?.get! else return none
 let r i y:Lean.TSyntax `tactic:=⟨t[i]!.rewriteBottomUp λx=>if x.isIdent&&x.getId==`zz then y else if x.isOfKind ``Lean.Parser.Tactic.tacticTrivial then o else x⟩
 return Lean.mkNullNode (<-(s[1].getArgs.extract 1).mapM (·.replaceM λx=>if x.isOfKind ``Lean.Parser.Tactic.tacticTrivial then return some o else if !E x then return none else do
  let a:=x[1].getSepArgs.reverse
  let n:=a[0]!.isNatLit?
  let l:=if n==none then a.reverse.map (r 3) else ((a.extract 3).reverse.map (r 3)).push (r (if n==some 0 then 1 else 2) a[2]!) |>.push (r 4 a[1]!)
  `(tactic|($[$l];*))))
mutual
example:True:=by
 (
  intro cdv A outer s H E _ _ hr lk;have hu:=Ja5 hr;have a0:=T.zY;have a1:=T.zm;have a2:=T.zj;have a3:=T.zH;have a4:=T.z7;have a5:=T.zG;have a6:=T.zD;have a7:=T.zS;have a8:=T.zF;have a9:=T.zp;have a10:=T.zy;have a11:=T.zR;have a12:=T.zU;have a13:=T.zT
  first
   | refine Bh (GS.zero ?_) (Bh (GS.zero ?_) (Bh (GS.zero ?_) (Bh (GS.zero ?_) (Bh (GS.zero ?_) (Bh (GS.zero ?_) (Bh (GS.zero ?_) (Bh (GS.zero ?_) (Bh (GS.zero ?_) (Bh (P6 T.xt (by decide +kernel) 7 lk nd (fun _ _ lk=>?_) (fun _=>?_)) (GSs.zero ?_))))))))))
   | refine GSs.zero ?_
  repeat' first
   |intro _ _ _ _ _
   |(show FE _ _ _ _;first|exists "efe_v,_ rJbC,? eYt rYa,?"|refine Jbs hu ?_ ?_ (fun _ _=>rfl)|exists "rYw,!,%,$,? rYE,?,? eYd rYx,!,!,? rYp,T.yJ,? rYq,T.xt,T.zV,^,? rYl,?,? eJbE rYo,? rYk,!,%,$,?,? rYA,Xm,PySem.F.slot_list_append,PySem.F.type_list_append,HY,?,? rYA,Pw,PySem.F.slot_list_index,PySem.F.type_list_index,Pt,?,? eQn rUI,? rUJ,T.yX,? rYc,?,? eYu,+ rYy,?,? rQl,T.ze,? rJbt,?,?,? rYj,?,? rYm,!,%,? rJbD,?,? eYh rUK,T.yK,? rJbv,?,? rLA,rfl,T.zi,T.yT,?"|refine UH (by assumption) (hr.mono (by first | decide | omega)) ?_ (fun ho=>WM (by assumption) (hr.mono (by first | decide | omega)) WU ho)|exists "rUE,_,? rYb,T.yI,? rJbz,hu,?,? rYC,?,? eJbB,T.za rYD,T.yM,? rYr,T.xt,T.zV,T.zr,? rYi,? rYB,T.yL,? rYs,?,? rYg,? rYe,?,?,? eYu,+ rYf,?,? rUN,rfl,?,?,?,? rUL,?,? rYv,? rJbA,?,? rQm,_,? rQo,?,? rQp,T.zi,? rJbx,? rJbu,? rUG,?,? rYz,Pu,PySem.F.slot_str_strip,PySem.F.type_str_strip,Pr,?,? rJbw,?,? rNy,rfl,T.ze,T.zf,? rYn,!,%,$,?")
   |(show FEs _ _ _ _;exists "eFEs.nil rFEs.cons,?,?")
   |(show FA _ _ _ _;exists "eYF rUP,?,?")
   |(show GSs _ _ _ _;exists "rUh,? rPY,?,? eUi")
   |(show GS _ _ _ _;first|refine Uk rfl nd (Or.inl rfl) ?_ ?_ ?_ ?_|exists "rXI,_,nd,*,? rJba,?,?,? rXJ,? rUj,? rXM,lk.own,rfl,?,?,?"|refine XO (by assumption) (by assumption) _ ?_ (fun hv=>Wy (pv 0) hv rfl)|exists "rXQ,?,?"|refine P4 (by assumption) (by assumption) _ _ ?_ (fun hv=>Jl hu (J8 (pv _) rfl) (pv _) hv rfl)|refine PZ hu ?_ ?_ ?_ (fun he ho hi hs=>Rc he (WD ho hi hs))|exists "rP0,@,lk,rfl,?"|exact P2 hu T.zY T.z7 0 4 (pv 0) (pv 4)|refine P5 hu T.zY T.z7 0 4 9 (pv 0) (pv 4) (pv 9) ?_|exists "eP1")
   |(show FAn _ _ _ _;exists "rQq,?,? eUO")
   |(show GT _ _ _;first|refine Ug _ (by first | exact nd | exact Xi (by kernel_rfl)) (by first | exact Or.inl rfl | exact Or.inr rfl)|exists "rXG,rfl,? rXH,rfl,?")
   |(show GTs _ _ _;first|refine PX ?_ ?_ (fun h1 h2=>Pc h1 h2)|exists "eUe")
   |(show FT _ _ _ _;first|exists "rJbq,?,? rX3,?"|refine Qg ?_ (fun _=>rfl)|exists "rQh,hu,?,? rJbl,?,? rJbo,hu,?,? rJbp,?,?"|refine Qi of_le of_le ?_ ?_ ?_ (fun ha hb hc=>OY Ti Ti ha hb hc)|exists "rJbm,?,? rJbn,?,? rUv,<,?,? rX4,?,? rNm,?,? rFW.ft,? rNm,?,?")
   |(show FI _ _ _ _ _;exists "rX9,? rNv,T.yU,? rX8,T.yT,?,? rUC,T.zh,? rUD,?")
   |(show FIf _ _ _;exists "eUB rUA,?")
   |(show FP _ _ _ _;exists "rUy,? eUz")
   |(show FW _ _ _ _;exists "rJbk,?,? rX1,? rX2,?,? rUu,?"))
 (
  refine JbN X G rfl rfl rfl zz (fun kV dc pm an cdv ct us hl=>?_) (fun i f fd Fu Grec=>?_))
 (
  first
   | refine Vh X G zz (fun kV dc pm an cdv ct us hl=>?_) fun f fd Fu _=>?_
   | refine JbO (by first | exact T.zY | exact T.zm | exact T.zj) zz (fun kV dc pm an cdv ct us hl=>?_) fun f fd Fu=>?_
   | refine JbP X G (by assumption) zz (fun kV dc pm an cdv ct us hl=>?_) fun f fd Fu=>?_)
 have:=zz (P:=P) (w:=w) (base:=base) X G T C_Program C_Scope C_Stock D
 (
  ·first
    | (obtain⟨a,rfl⟩:=us1 hl;rfl)
    | (obtain⟨a,b,rfl⟩:=us2 hl;rfl)
    | (obtain⟨a,b,c,rfl⟩:=us3 hl;rfl)
    | (obtain⟨a,b,c,d,rfl⟩:=us4 hl;rfl)
    | (obtain⟨a,b,c,d,e,rfl⟩:=us5 hl;rfl)
    | (obtain⟨a,b,c,d,e,f,rfl⟩:=us6 hl;rfl)
  ·have nd:List.Nodup ((zz):List Str):=by decide +kernel
   refine RG (N:=zz) Fu ⟨rfl,rfl,rfl,nd,rfl,by decide +kernel,by decide +kernel⟩ _ _ rfl rfl ?_;trivial)
theorem c0:aF P w K mg base "_law_mix" 1 ["_law_cell",tw] 2 BS:=by exists D.d0,["_law_cell",tw,bn],2
theorem c1:aF P w K mg base "_law_letters" 1 [bn,tL] 2 Dh:=by exists D.d1,[bn,tL,tz,tw],2
theorem c2:aF P w K mg base "_law_words" 2 [bn,tL] 2 BI:=by exists c1,D.d2,[bn,tL,"_law_place",tz,tu,lc,tM,"_law_sign"],2
theorem c3:aF P w K mg base "_law_cell_at" 1 [ci,tw] 2 AM:=by exists D.d3,[ci,tw],2
theorem c4:aF P w K mg base "_law_kinds" 3 [ci] 1 EO:=by exists c0,c2,c3,D.d4,[ci,"_law_count",bi,bv,tz,tu,bn,ii,tw,ge,"_law_spot"],2
theorem c5:aF P w K mg base "_law_copy_row" 1 [lc,bl,dL,ge,im] 5 DB:=by exists D.d5,[lc,bl,dL,ge,im,sw,db,"_law_part"],2
theorem c6:aF P w K mg base "_law_makers" 1 [bi,bl] 2 BN:=by exists D.d6,[bi,bl,db,ii],2
theorem c7:aF P w K mg base "_law_put" 21 [ss,db,"_law_other"] 3 (Iv 20):=by exists D.d7,[ss,db,"_law_other"],0
theorem c8:aF P w K mg base "_law_least" 10 [bi,bl] 2 (DW 8):=by exists c6,D.d8,[bi,bl,dL,ge],0
theorem c9:aF P w K mg base "_law_stream" 17 [bi,gl,ce,bl,bn,tB] 6 (Co 6):=by exists c6,c8,D.d9,[bi,gl,ce,bl,bn,tB,im,"_law_funs",tS,tM,ii,db,kt,sw,tU,tH],0
theorem c10:aF P w K mg base "_law_grown" 18 [bi,gl,ce,bl,bn,tB] 6 ER:=by exists c9,D.yD,[bi,gl,ce,bl,bn,tB],2
theorem c11:aF P w K mg base "_law_body" 22 [bi,ce,cr,gl,pc,"_law_digit"] 6 G7:=by exists c7,c9,c10,D.yC,[bi,ce,cr,gl,pc,"_law_digit",lc,kt,bl,"_law_more",sw,tU,tH],2
theorem c12:aF P w K mg base "_law_function" 23 [bi,lc,ce,bn] 4 CF:=by exists c0,c2,c6,c11,D.yB,[bi,lc,ce,bn,bv,kt,bl,py,rf,tu,dL,ge,im,gl,pc,"_law_digit"],2
theorem c13:aF P w K mg base "_law_functions" 24 [ci,bi] 2 Cb:=by exists c0,c2,c3,c5,c12,D.yA,[ci,bi,bv,bn,bl,ii,im,rf,tz,ce,tw,cr],2
theorem c14:aF P w K mg base "_law_is_name" 1 ["_law_text"] 1 Di:=by exists D.yz,["_law_text"],2
theorem c15:aF P w K mg base "_law_maker" 1 [bi,db] 2 DV:=by exists D.yy,[bi,db,bl,ii,dL,ge],2
theorem c16:aF P w K mg base "_law_head_due" 2 [bi,ce,cr] 3 DA:=by exists c6,c14,c15,D.yx,[bi,ce,cr,db,kt,bl,py,rf,tU],2
theorem c17:aF P w K mg base "_law_kind" 22 [bi,gl,ce,lc,pc,ss] 6 (G5 20):=by exists c15,D.yw,[bi,gl,ce,lc,pc,ss,tM,db,"_law_got",bl,kt,tU,tH,"_law_told"],0
theorem c18:aF P w K mg base "_law_row_due" 23 [bi,ce,cr,ge,"_law_row"] 5 Cp:=by exists c14,c17,D.yv,[bi,ce,cr,ge,"_law_row",lc,kt,bl,py,rf,im,sB,"_law_every",tu,db,gl,pc,"_law_told"],2
theorem c19:aF P w K mg base "_law_due" 24 [bi,dK] 2 NA:=by exists c6,c16,c18,D.yu,[bi,dK,ce,cr,tJ,tw,dL,ge],2
theorem c20:aF P w K mg base "_law_every_maker" 1 [bi] 1 BJ:=by exists D.yr,[bi,tz,bl,ii,dL,ge],2
theorem c21:aF P w K mg base "_law_bad_name" 1 [db,bn] 2 BE:=by exists D.yq,[db,bn],2
theorem c22:aF P w K mg base "_law_bent_body" 21 [sB,bn,bv] 3 (Bp 20):=by exists D.yp,[sB,bn,bv,tS,tM,db,sw,tu],0
theorem c23:aF P w K mg base "_law_bent_rows" 22 [rf,py,bn,bv] 4 Cc:=by exists c21,c22,D.yo,[rf,py,bn,bv,tu,tS,im,sB],2
theorem c24:aF P w K mg base "_law_bent" 23 [dK,bn,bv] 3 Fm:=by exists c21,c23,D.yn,[dK,bn,bv,tu,db,kt,bl,py,rf,tS,"_law_more","_law_bad"],2
theorem c25:aF P w K mg base "is_name" 1 ["text"] 1 A5:=by exists D.ym,["text"],2
theorem c26:aM P w K mg base ah "makers" 1 [sK,tN] 2 (AS ah):=by exists D.yl,[sK,tN],2
theorem c27:aM P w K mg base ah tm 1 [sK] 1 (Bt ah):=by exists D.yk,[sK],2
theorem c28:aF P w K mg base "is_maker" 2 [tq,tV] 2 (Ei ah):=by exists c26,c27,D.yj,[tq,tV],2
theorem c29:aF P w K mg base "check_head" 3 [tq,tW,tD] 3 (Ca ah):=by exists c25,c26,c27,c28,D.yi,[tq,tW,tD,tV,tm,tN,"others","rows","each"],2
theorem c30:aM P w K mg base ah tE 1 [sK,rc] 2 (Bs ah):=by exists D.yh,[sK,rc],2
theorem c31:aF P w K mg base "check_names" 2 ["names"] 1 BV:=by exists c25,D.yg,["names","ahead",tV],2
theorem c32:aM P w K mg base ah "home" 1 [sK,rc] 2 (C4 ah):=by exists D.yf,[sK,rc],2
theorem c33:aF P w K mg base "kinds_of_head" 2 [tX,"form","head"] 3 (AG aj ah):=by exists c30,c32,D.ye,[tX,"form","head"],2
theorem c34:aF P w K mg base "kind_of_name" 1 [tX,tV] 2 (BG aj):=by exists D.yd,[tX,tV],2
theorem c35:aF P w K mg base "kind_within" 23 [tX,"expression"] 2 (Ba aj ah 20):=by exists c33,c34,D.yc,[tX,"expression","form","head","arguments","wanted",tN,"argument","kind_wanted"],0
theorem c36:aK P w K mg base "Scope" aj 1 [sK,tq,tW,tK,"own","lessers"] 6 (C5 aj):=by exists D.yb,[sK,tq,tW,tK,"own","lessers"],2
theorem c37:aF P w K mg base "check_row" 24 [tq,tW,tD,rc,"row"] 5 (Bm aj ah):=by exists c30,c31,c35,c36,D.ya,[tq,tW,tD,rc,"row",tV,tm,tN,"others","rows","names","body",tE,tK,"lessers"],2
theorem c38:aK P w K mg base "Program" ak 25 [sK,tq,"functions"] 3 (Bk ak aj ah):=by exists c26,c29,c37,D.x9,[sK,tq,"functions",tD,tV,tm,tN,"others","rows",rc,"row"],2
theorem c39:aF P w K mg base "_law_class" 1 [tO] 1 G6:=by exists D.x8,[tO,"_law_got",im],2
theorem c40:aF P w K mg base "check_kinds" 2 [tm] 1 CD:=by exists c25,D.x6,[tm,"above",tN,"makers"],2
theorem c41:aF P w K mg base "check_maker" 2 [rc,tE,tQ,"all_kinds"] 4 BW:=by exists c25,D.x5,[rc,tE,tQ,"all_kinds","part"],2
theorem c42:aF P w K mg base "check_ground" 1 [rc,tE,tR] 3 BH:=by exists D.x4,[rc,tE,tR,"part"],2
theorem c43:aF P w K mg base "check_makers" 3 [tm] 1 Cg:=by exists c41,c42,D.xZ,[tm,"all_kinds",tR,tQ,tN,"makers","first",rc,tE],2
theorem c44:aK P w K mg base "Stock" ah 4 [sK,tm] 2 (C3 ah):=by exists c40,c43,D.xY,[sK,tm,tN,"makers",rc,tE],2
theorem W7{f:Addr}{fd:FuncData}(F:Fun K "law" "law" (top 69) f fd):D4 P w K mg base (CX1 P w) 27 f fd [ci] (spX K 1 (YG ak aj ah)):=by
 exists c0,c3,c4,c13,c19,c20,c24,c38,c39,c44
 have nd:List.Nodup ([ci,"_law_head",bi,dK,bv,tJ,tO,"e"]:List Str):=by decide +kernel
 refine RG (N:=[ci,"_law_head",bi,dK,bv,tJ,tO,"e"]) F ⟨rfl,rfl,rfl,nd,rfl,by decide +kernel,by decide +kernel⟩ _ _ rfl rfl ?_;trivial
end
end
theorem all_mk{l:OpenLaw}{w:World}{K:Fg}{h:Heap}{mg:Str->Option Value}{fa ak aj ah:Addr}(X:K.In h)(G:h.Ns mainGlobals mg)(nR:mg "law"=some (.ref fa))(C_Program:CC K "Program" ak)(C_Scope:CC K "Scope" aj)(C_Stock:CC K "Stock" ah)(T:Tx K mg ak aj ah)(D:Ds K ak aj ah):
  ∃fd:FuncData,(∀(s:Shared)(v:Value),BindsTo s fd ⟨[v],[]⟩ [(ci,v)])/\∀base:Heap,K.In base->base.Ns mainGlobals mg->D4 l.prog w K mg base (CX1 l.prog w) 27 fa fd [ci] (OL K):=by
 obtain⟨f,fd,a,F⟩:=D.xX;cases nR.symm.trans (mg_of X G a);refine⟨fd,by obtain⟨_,_,_,_,_,_,_,_,_,rfl,_⟩:=F.ex;exact λs v=>.of_eq rfl,λbase _ _=>?_⟩;exact(W7 (P:=l.prog) (w:=w) (base:=base) X G T C_Program C_Scope C_Stock D F).imp (Xr (good ak aj ah))
theorem exG{α:Type}{K:Fg}{h:Heap}{mg:Str->Option Value}{x:Str}{v:α->Value}{t:α}(X:K.In h)(G:h.Ns mainGlobals mg)(e:nsIn K mainGlobals x=some (some (v t))):∃t,mg x=some (v t):=⟨t,mg_of X G e⟩
theorem naG{K:Fg}{C:Addr}{f:Str}(e:findIn K (.ref C) f=some none):A8 K C f:=e
theorem walk{l:OpenLaw}{q:Program}{loose:List Str}{XP:(Str->Option Value)->Heap->Prop}{d:DefRec}{K:Params->Fg}{as:List Addr}{N tk:Nat}(hn:l.most=some 63)(je:d.params.defaults=[])(hK:∀P:Params,as=(K P).map (·.1))
  (F:∀(w:World)(mg:Str->Option Value)(fa:Addr)(h:Heap),(K w.params).In h->h.Ns mainGlobals mg->mg d.name=some (.ref fa) ->
   ∃fd:FuncData,(∀(s:Shared)(u:Value),BindsTo s fd ⟨[u],[]⟩ [(ci,u)])/\∀base:Heap,(K w.params).In base->base.Ns mainGlobals mg->D4 l.prog w (K w.params) mg base (CX1 l.prog w) 27 fa fd [ci] (OL (K w.params))) :
  WalkX q loose XP (PySem.W.X.obsZ as) (PySem.W.X.valZ K N tk) l.row.toRowW d [] (λf vs=>PySem.call f vs) :=
 L2.Jb (n:=63) (k:=27) (x:=ci) (CX:=λw=>CX1 l.prog w) (sp:=OL) hn (by decide) je ⟨rfl,by decide,by decide⟩ hK F (λ_ _ a ns hl hb _ hS=>⟨a,ns,rfl,hS,hl,hb,λ_=>rfl⟩) λ_ _ _ _ _ ⟨_,_,_,_,_,_,_,_,_,_,_,q⟩=>q
end Lake.Sy
structure PySem.W.Fast:Prop where(tw2926297641581505868 tw5302299745789335538 tw5645314416989898072 tw3445603628452120288 tw2609156988421922262 tw7599741231269250005 tw12518401915719151884 tw2876728218017135510 tw4807267626531918073 tw17385989780080847881 tw13006113977802591150 tw18079636064136899228 tw2101324344015334313 tw13386354829871550762 tw14375534713880271771 tw14361752653866558211 tw4291311693592770035 tw1800936280657550385 tw15419387040765702241 tw12091644737908180051 tw3553118950934189592 tw8871320223720167616 tw15066516710226849464 tw7790490855544717268 tw15642911206724091011 tw13024216394049977663 tw1420483735502316525 tw11089547966543137922 tw18266041154684125064 tw4324961036686396840 tw9438722062876515534 tw13870346231171467679 tw11376002232022352172 tw14148769397036174895 tw3678639999654292492 tw12847645929893146520 tw4194013530273855496 tw11893823852477153160 tw5007949058925028536 tw15325872252640208204 tw748029722417785501 tw16617109663779203530 tw11102376888837584146 tw6660515800784654774 tw11638524832656993891 tw8886788568283685253 tw16349872372257268828 tw17344148227455610694 tw12973214169253106138 tw10494151021983487604 tw15779177207807437276 tw8517002142584494596 tw6229436176442822646 tw14612837758686958532 tw5129354127404504567 tw9405851261521636538 tw3926926616730595564 tw13212758909932724486 tw7380083350464622374 tw6574078835780473118 tw12757429104899191270 tw15060933501788354281 tw16310651282625813134 tw14347844309458338674 tw6260833166218138086 tw2749439090826373408 tw10083208746251365615 tw12840806886452677458 tw7474673144747152993 tw16236296061092754578 tw14254312511755136549 tw8703482970941472807 tw5741416129619704146 tw2583786935083953238 tw14051651326479132299 tw17470123310526645236 tw11509602553276867619 tw9947871600482322342 tw1687893731662980766 tw7375279390423809390 tw1367744496248865243 tw9309372498985396770 tw11932986157168026797 tw2074738287615312834 tw3359105163117847679 tw12406288140596030724 tw1682273246481187392 tw5824584038515256074 tw18143996279738576440 tw14998546617633006751 tw14584858411020390849 tw18297751168462339463 tw11105412093688106346 tw6673495003454856238 tw14732738795264145077 tw6324706944694893589 tw5847529718606525168 tw7766506032868776233 tw1238851528732774940 tw13513999695445134009 tw7563938198708617507 tw11828209928299044143 tw10631763947702591959 tw792957249441830221 tw11822599882689109454 tw17871355669041517545 tw10461386084726811670 tw12432685214951413368 tw7779661888757693597 tw150018255719074637 tw2817504502875547218 tw15280774359806696910 tw10694702660348530235 tw3090169989870395073 tw15963913359882269302 tw3499412420857969096 tw18162178007549737315 tw10400766552492829167 tw528213739199228545 tw10014905145023717588 tw9214504995564449317 tw10147614626272933530 tw16336300699022323967 tw13943450976444222442 tw8651054136612395220 tw16942371345299194647 tw9533155318158904062 tw5769538545705711920 tw2611609824219185122 tw16574661802236712527 tw10095504251025066654 tw282879499353463783 tw3715481649824194221 tw7705285659500771728 tw4037941392281237802 tw14221938236479635224 tw9848969919074879208 tw8186694894026327184 tw6655828910041506444 tw3585357288545465182 tw1914617200334837702 tw10266483670487877276 tw6403117138194661131 tw15919187158588745989 tw11960955922973822357 tw11895026424510170802 tw13264966079794673549 tw5135976799481196121 tw14279065910912824639 tw2160839022362082863 tw14469096561756187282 tw2193900302594854553 tw13708602054698898479 tw6929587503444476371:True)
end
open PySem PySem.W PyProof.Rows
set_option maxRecDepth 100000 in
set_option maxHeartbeats 0 in
theorem PySem.Challenge.cw_stairsay_k11_programs_refused_holds : PySem.Challenge.rw_stairsay_k11_programs_refused.Holds := by
 w_on;o_law;z_head;(case hw=>w_witness2)
 k_fill
 refine Sy.walk (l:=PySem.Challenge.rw_stairsay_k11_programs_refused) rfl rfl (λP=>rfl) ?F
 case F =>
  intro w mg fa h KX G ie;refine' Sy.all_mk KX G ie ⟨?_,?_,?_⟩ ⟨?_,?_,?_⟩ ⟨?_,?_,?_⟩ ?_ ?_
  all_goals try k_is
  constructor
  all_goals first|refine' PySem.W.mg_none_of KX G ?_|refine' Sy.exG KX G ?_|refine' Sy.naG ?_|refine' .of KX G (by kernel_rfl)|refine' ⟨?_,?_,?_,?_⟩|skip
  all_goals try k_is
  constructor
  all_goals first|refine' ⟨_,_,?_,L2.RE ?_ ?_ ?_⟩|refine' ⟨_,_,?_,?_,L2.RE ?_ ?_ ?_⟩
  all_goals try k_is
