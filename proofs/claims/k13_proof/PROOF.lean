import PyProof.Rows.All
import Wide.All
import OpenK.AllK
import Wide.FinOn
import PyProof.EqAt
import PyProof.EqKinds
import PyProof.TupleCall
import PyProof.DictWalks
import KE.KSortTup
import KE.KTryMore
import PyProof.NsDelKeeps
import PyProof.ReprStr
import PyProof.StrLawsRepr
import PyProof.Rows.FStr
import PyProof.ListMulRoad
import PyProof.FactsAll.tuple_2
import KE.KPairComp
import PyProof.AttrMissHeap
import PyProof.FactsAll.zip_1
import KE.KDictOf
import KE.KMinBuiltin
import PyProof.Rows.CallKwBuiltin
import KE.KEqDict
import PySem.Challenge.RW_stairsay_k13_kinds_of_expressions
set_option Elab.async false
set_option linter.all false
set_option maxRecDepth 100000
set_option maxHeartbeats 4000000
set_option bootstrap.genMatcherCode false
set_option genSizeOf false
set_option compiler.extract_closed false
noncomputable section
open PySem.W (Frag instObj lookIn InstAt plainGet hasDictIn findIn handedIn plainGet_of isFn plainOver takerIn makesIn emptyDict keepIn specialIn takesIn mroIn kitOne kia_one kitx_list kitx_dict methodCall_KW callWith_K fnOf codeIn excIn exmOne Looks clsIn OpenLaw WalkO WalkX nsIn mg_of)
open PyProof.Rows (callWith_type1 slot_tuple_getitem len_tuple boot_sum boot_all boot_list boot_tuple boot_int boot_isinstance boot_dict envOfC boot_any boot_str)
open PySem.F (slot_tuple_add entry_tuple_add args_tuple_add_2)
abbrev tM:=@PySem.wpAny_bind
abbrev tN:=@PySem.Heap.get?_push_of_some
abbrev tO:=@List.getElem?_eq_getElem
abbrev tQ:=@List.nodup_append
abbrev tR:=@List.map_cons
abbrev tS:=@PySem.wpAny_pure
abbrev tU:=@List.map_append
abbrev tV:=@List.mem_cons_of_mem
abbrev tW:=@List.mem_append
abbrev tX:=@List.getElem?_eq_some_iff
abbrev tY:=@PySem.Heap.get?_push_size
abbrev tZ:=@List.length_map
abbrev t9:=@PySem.Heap.lt_size
abbrev ua:=@List.size_toArray
abbrev ub:=@List.mem_singleton
abbrev uc:=@Option.map_eq_some_iff
abbrev ud:=@List.mem_append_left
abbrev ue:=@List.mem_append_right
abbrev uf:=@Nat.lt_of_lt_of_le
abbrev ug:=@List.mem_map
abbrev uh:=@Nat.le_refl
abbrev uj:=@List.mem_cons_self
abbrev uk:=@List.mem_cons
abbrev um:=@of_decide_eq_true
abbrev uq:=@Bool.and_eq_true
abbrev ur:=@Nat.ne_of_lt
abbrev uu:=@Bool.false_ne_true
abbrev uw:=@PySem.wpAny_field
abbrev ux:=@List.getElem?_map
abbrev uz:=@Nat.le_trans
abbrev uA:=@decide_eq_false
abbrev uB:=@Option.bind_eq_some_iff
abbrev uC:=@List.length_cons
abbrev uD:=@List.map_map
abbrev uE:=@decide_eq_true
abbrev uF:=@List.nodup_nil
abbrev uG:=@List.nodup_cons
abbrev uH:=@List.length_append
abbrev uI:=@List.not_mem_nil
abbrev uJ:=@Bool.false_eq_true
abbrev uK:=@List.append_nil
abbrev uL:=@List.append_assoc
abbrev uM:=@List.lookup_cons
abbrev uN:=@List.length_take
abbrev uO:=@Int.toNat_natCast
abbrev uP:=@List.mem_of_getElem?
abbrev uQ:=@List.getElem?_set_self
abbrev uR:=@Nat.lt_irrefl
abbrev uS:=@List.all_eq_true
abbrev uT:=@List.getElem?_set_ne
abbrev uU:=@PySem.Heap.get?_update_other
abbrev uV:=@List.pairwise_iff_getElem
abbrev uW:=@List.length_range
abbrev uX:=@PySem.Heap.get?_update_self
abbrev uY:=@List.mem_of_mem_take
abbrev uZ:=@Option.bind_some
abbrev u0:=@List.mem_flatMap
abbrev u3:=@List.map_nil
abbrev u4:=@PySem.Heap.size_push
abbrev u5:=@List.getElem?_append_right
abbrev u6:=@List.mem_iff_getElem?
abbrev u7:=@List.getElem?_eq_none
abbrev u9:=@Array.getElem?_eq_getElem
abbrev va:=@List.mem_filter
abbrev vc:=@Bool.eq_iff_iff
abbrev vd:=@List.length_pos_iff
abbrev vf:=@Array.length_toList
abbrev vg:=@List.length_drop
abbrev vh:=@List.getElem_map
abbrev vi:=@List.eq_nil_of_length_eq_zero
abbrev vj:=@List.mem_range
abbrev vm:=@List.take_of_length_le
abbrev vn:=@List.drop_eq_nil_of_le
abbrev vo:=@Nat.lt_trans
abbrev vp:=@List.forIn_cons
abbrev vq:=@Bool.or_eq_true
abbrev vt:=@List.take_sublist
abbrev vv:=@Array.getElem?_eq_some_iff
abbrev vw:=@List.mem_of_mem_drop
abbrev vz:=@List.getElem?_append_left
abbrev vA:=@List.map_fst_zip
abbrev vB:=@List.map_flatMap
abbrev vC:=@List.cons_append
abbrev vD:=@List.getElem_of_mem
abbrev vE:=@List.filterMap_cons
abbrev vF:=@Option.isSome_iff_exists
abbrev vG:=@List.of_mem_zip
abbrev vH:=@List.nil_append
abbrev vI:=@List.getElem?_cons_zero
abbrev vJ:=@List.find?_cons
abbrev vK:=@List.append_of_mem
abbrev vL:=@List.any_cons
abbrev vM:=@Int.emod_lt_of_pos
abbrev vN:=@List.take_append_drop
abbrev vO:=@Option.map_some
abbrev vP:=@List.length_zip
abbrev vQ:=@Int.emod_nonneg
abbrev vR:=@Nat.zero_add
abbrev vS:=@Nat.ne_of_gt
abbrev vT:=@Nat.le_of_lt
abbrev vU:=@List.mem_filterMap
abbrev vV:=@List.mem_take_iff_getElem
abbrev vW:=@List.drop_eq_getElem_cons
abbrev vX:=@List.reverse_cons
abbrev vY:=@List.getElem?_take_of_lt
abbrev vZ:=@List.any_eq_false
abbrev v3:=@Nat.zero_le
abbrev v5:=@List.map_take
abbrev v7:=@List.all_cons
abbrev v8:=@List.getElem_mem
abbrev v9:=@List.filter_cons
abbrev wa:=@List.any_eq_true
abbrev Fg:=Frag
namespace L2
open PySem PySem.Spec PyProof.Rows
abbrev Key:=Sum Int Str
noncomputable def Gj:Key->Value->Bool
 |.inl k,v=>Value.isInt k v
 |.inr x,v=>Value.isStrOf x v
noncomputable def keyH(w:World):Key->Int
 |.inl k=>hashInt k
 |.inr x=>hashStr w x
theorem AU:∀{k:Key}{v:Value},Gj k v=true->(∃i t,k=Sum.inl i/\v=Value.int i t)\/(∃x t,k=Sum.inr x/\v=Value.str x t)
 |.inl i,v,h=>by obtain⟨t,e⟩:=Value.isInt_shape h;exact .inl ⟨i,t,rfl,e⟩
 |.inr x,v,h=>by obtain⟨t,e⟩:=Value.isStrOf_shape h;exact .inr ⟨x,t,rfl,e⟩
theorem Nr(i:Int)(t:Tok):Gj (.inl i) (.int i t)=true:=by simp[Gj,Value.isInt]
theorem Np(x:Str)(t:Tok):Gj (.inr x) (.str x t)=true:=by simp[Gj,Value.isStrOf]
theorem W3(a b:Int):decide ((Sum.inl a:Key)=Sum.inl b)=(a==b):=by
 by_cases e:a=b
 .subst e;simp
 .have h:¬(Sum.inl a:Key)=Sum.inl b:=λq=>e (Sum.inl.inj q)
  rw[uA h];exact(beq_eq_false_iff_ne.mpr e).symm
theorem WY(a b:Str):decide ((Sum.inr a:Key)=Sum.inr b)=decide (a=b):=by
 by_cases e:a=b
 .subst e;simp
 .have h:¬(Sum.inr a:Key)=Sum.inr b:=λq=>e (Sum.inr.inj q)
  rw[uA h,uA e]
theorem W0(a:Int)(b:Str):decide ((Sum.inl a:Key)=Sum.inr b)=false:=uA (λq=>nomatch q)
theorem WZ(a:Str)(b:Int):decide ((Sum.inr a:Key)=Sum.inl b)=false:=uA (λq=>nomatch q)
noncomputable def AY(prog:Program)(w:World):PySem.KeyKind prog w Key where
 is:=Gj
 hash:=keyH w
 inj:=λv a b ha hb=>by
  rcases AU ha with⟨i,t,rfl,rfl⟩|⟨x,t,rfl,rfl⟩
  .rcases AU hb with⟨j,u,rfl,e⟩|⟨y,u,rfl,e⟩
   .injection e with e1 _;rw[e1]
   .exact nomatch e
  .rcases AU hb with⟨j,u,rfl,e⟩|⟨y,u,rfl,e⟩
   .exact nomatch e
   .injection e with e1 _;rw[e1]
 byValue:=λk v h=>by rcases AU h with⟨i,t,rfl,rfl⟩|⟨x,t,rfl,rfl⟩<;>rfl
 pyHash:=λhv h=>by
  rcases AU hv with⟨i,t,rfl,rfl⟩|⟨x,t,rfl,rfl⟩
  .exact wpAny_pyHash_int h
  .exact wpAny_pyHash_str h
 eqBool:=λhu hv h=>by
  rcases AU hu with⟨i,t,rfl,rfl⟩|⟨x,t,rfl,rfl⟩
  .rcases AU hv with⟨j,u,rfl,rfl⟩|⟨y,u,rfl,rfl⟩
   .rw[W3]at h;exact wpAny_eqBool_int h
   .rw[W0]at h;exact SeqAt.EqAt.int_str i t y u _ _ _ _ h
  .rcases AU hv with⟨j,u,rfl,rfl⟩|⟨y,u,rfl,rfl⟩
   .rw[WZ]at h;exact SeqAt.EqAt.str_int x t j u _ _ _ _ h
   .rw[WY]at h;exact wpAny_eqBool_str h
 «strs»:=λk x t v h=>by
  rcases AU h with⟨i,u,rfl,e⟩|⟨y,u,rfl,e⟩
  .exact nomatch e
  .injection e with e1 _
   subst e1;cases v<;>rfl
theorem JL(prog:Program)(w:World)(i:Int)(t:Tok):(AY prog w).is (.inl i) (.int i t)=true:=Nr i t
theorem JK(prog:Program)(w:World)(x:Str)(t:Tok):(AY prog w).is (.inr x) (.str x t)=true:=Np x t
inductive V where
 |o|v (b:Bool)|int (i:Int)|str (x:Str)|zH (b:Array UInt8)|zg (b:UInt64)|ref (a:Addr)|ty (n:String)
 deriving DecidableEq
def RelV:V->Value->Prop
 |.o,u=>u=Value.none
 |.v b,u=>u=Value.bool b
 |.int i,u=>∃t,u=Value.int i t
 |.str x,u=>∃t,u=Value.str x t
 |.zH b,u=>∃t,u=Value.bytes b t
 |.zg b,u=>∃t,u=Value.float b t
 |.ref a,u=>u=Value.ref a
 |.ty n,u=>u=Value.type n
abbrev Vals:List V->List Value->Prop:=Paired RelV
theorem Vals.length(r:Vals xs us):xs.length=us.length:=Paired.length r
theorem Vals.get:∀{xs:List V}{us:List Value}{i:Nat}{x:V},Vals xs us->xs[i]?=some x->∃u,us[i]?=some u/\RelV x u
 |_,_,_,_,.nil,e=>by simp at e
 |_,_,0,_,.cons r _,e=>by simp at e;subst e;exact⟨_,rfl,r⟩
 |_,_,i+1,x,.cons _ t,e=>by obtain⟨u,h1,h2⟩:=Vals.get t (by simpa using e);exact⟨u,by simpa using h1,h2⟩
theorem Vals.set(r:RelV x u):∀{xs:List V}{us:List Value}(i:Nat),Vals xs us->Vals (xs.set i x) (us.set i u)
 |_,_,_,.nil=>.nil
 |_,_,0,.cons _ t=>.cons r t
 |_,_,i+1,.cons q t=>.cons q (Vals.set r i t)
theorem Vals.append:∀{xs ys:List V}{us ws:List Value},Vals xs us->Vals ys ws->Vals (xs++ys) (us++ws)
 |_,_,_,_,.nil,s=>s
 |_,_,_,_,.cons r t,s=>.cons r (Vals.append t s)
theorem Vals.take:∀{xs:List V}{us:List Value}(n:Nat),Vals xs us->Vals (xs.take n) (us.take n)
 |_,_,0,_=>.nil
 |_,_,_+1,.nil=>.nil
 |_,_,n+1,.cons r t=>.cons r (Vals.take n t)
theorem Vals.drop:∀{xs:List V}{us:List Value}(n:Nat),Vals xs us->Vals (xs.drop n) (us.drop n)
 |_,_,0,r=>r
 |_,_,_+1,.nil=>.nil
 |_,_,n+1,.cons _ t=>Vals.drop n t
def Ao:Option V->Option Value->Prop
 |some v,some u=>RelV v u
 |none,none=>True
 |_,_=>False
def KV{κ:Type}:List (κ×V)->List (κ×Value)->Prop:=Paired λ(p:κ×V)(q:κ×Value)=>p.1=q.1/\RelV p.2 q.2
noncomputable def kV:Key->V
 |.inl i=>.int i
 |.inr x=>.str x
inductive HO where
 |lst (xs:List V)
 |tup (xs:List V)
 |l (ah:List (Key×V))|dT (ah:List (List Key×V))
 |set (S:Int->Bool) (n:Nat)
 |ins (C dx:Addr) (fs:List (Str×V))
 |own (x:Addr)
 |xd (fs:List (Str×V))
 |met (f x:Addr)
 |yT (lo hi:Int)
 |frz (o:Obj) (u:HO)
 |zi (ps:Array Value)
 |ext (φ:Heap->Prop)
abbrev Hp:=Addr->Option HO
noncomputable def upd(H:Hp)(a:Addr)(o:HO):Hp:=λb=>if b=a then some o else H b
theorem Ak:upd H a o a=some o:=by unfold upd;rw[if_pos rfl]
theorem Aj(h:b≠a):upd H a o b=H b:=by unfold upd;rw[if_neg h]
theorem Jag{H:Hp}(h:H a=some o)(h':H b=some u)(d:o≠u):a≠b:=by intro e;subst e;rw[h]at h';exact d (Option.some.inj h')
theorem A3{H:Hp}(h:H a=some o)(h':H b=none):a≠b:=by intro e;subst e;rw[h]at h';cases h'
def PlT(h:Heap)(a:Addr)(items:Array Value):Prop:=∃o,h.get? a=some o/\o.cls=.type "tuple"/\∃n,o.data=.seq items n/\o.dict=none
theorem PlT.tup{h:Heap}{a:Addr}{items:Array Value}(x:PlT h a items):IsTup h a items:=let⟨o,e,c,n,d,_⟩:=x;⟨o,e,c,n,d⟩
theorem PlT.lt{h:Heap}{a:Addr}{items:Array Value}(x:PlT h a items):a<h.objs.size:=x.tup.lt
theorem PlT.new(h:Heap)(items:Array Value):PlT (h.push {cls:=.type "tuple",data:=.seq items}) h.objs.size items:=⟨_,tY _ rfl,rfl,_,rfl,rfl⟩
section
variable(P:Program)(w:World)
def AZ(H:Hp)(h:Heap)(a:Addr):HO->Prop
 |.lst xs=>xs.length<=sizeLine/\∃(aq:List Value)(n:Nat),Vals xs aq/\h.get? a=some {cls:=.type "list",data:=.seq aq.toArray n}
 |.tup xs=>xs.length<=sizeLine/\∃aq:List Value,Vals xs aq/\PlT h a aq.toArray
 |.l ah=>ah.length<=sizeLine/\(a==sysModules)=false/\∃vs,KV ah vs/\h.DictOf (AY P w) a vs
 |.dT ah=>ah.length<=sizeLine/\(a==sysModules)=false/\∃xs:List (List Key×Addr×Value),
   Paired (λ(p:List Key×V)(q:List Key×Addr×Value)=>p.1=q.1/\H q.2.1=some (.tup (p.1.map kV))/\RelV p.2 q.2.2) ah xs /\
   ∃o es ep,h.get? a=some o/\o.ExactDict/\o.data=.dict es ep/\es.toList=xs.map (entryOfKey (tupleKind (AY P w)))/\(xs.map (·.1)).Nodup
 |.set S n=>h.SetOf (intKind P w) a S n
 |.ins C dx fs=>H dx=some (.own a)/\fs.length<=1000/\dx≠a/\h.get? a=some (instObj C dx) /\
   ∃mA,h.Ns1 dx mA/\(∀f,Ao (fs.lookup f) (mA f))/\PySem.Within mA (fs.map (·.1))
 |.own _=>∃o,h.get? a=some o
 |.xd fs=>∃mA,h.Ns1 a mA/\∀f,Ao (fs.lookup f) (mA f)
 |.yT lo hi=>∃t u v,h.get? a=some {cls:=.type "range",data:=.fields #[.int lo t,.int hi u,.int 1 v]}
 |.frz o u=>h.get? a=some o/\AZ H h a u
 |.zi ps=>h.get? a=some {cls:=.none,data:=.fields ps}
 |.met f x=>h.get? a=some (PySem.W.methodObj (.ref f) (.ref x))
 |.ext φ=>φ h/\(∃o,h.get? a=some o)/\∀h1 h2:Heap,φ h1->(∀o,h1.get? a=some o->h2.get? a=some o)->φ h2
def HOk(H:Hp)(h:Heap):Prop:=∀a o,H a=some o->AZ P w H h a o
end
section
variable{P:Program}{w:World}{H H':Hp}{h h':Heap}{a:Addr}{o:HO}
theorem AZ.lt(x:AZ P w H h a o):a<h.objs.size:=by cases o with|lst xs=>obtain⟨_,_,_,_,e⟩:=x;exact t9 e|tup xs=>obtain⟨_,_,_,p⟩:=x;exact p.lt|l ah=>obtain⟨_,_,_,_,o,_,_,e,_⟩:=x;exact t9 e|dT ah=>obtain⟨_,_,_,_,o,_,_,e,_⟩:=x;exact t9 e|set S n=>obtain⟨o,_,_,_,e,_⟩:=x;exact t9 e|ins C dx fs=>obtain⟨_,_,_,e,_⟩:=x;exact t9 e|own y=>obtain⟨_,e⟩:=x;exact t9 e|xd fs=>obtain⟨_,⟨_,_,_,e,_⟩,_⟩:=x;exact t9 e|yT lo hi=>obtain⟨_,_,_,e⟩:=x;exact t9 e|frz ob u=>obtain⟨e,_⟩:=x;exact t9 e|zi ps=>exact t9 (show h.get? a=some _ from x)|met f y=>exact t9 (show h.get? a=some _ from x)|ext φ=>obtain⟨_,⟨_,e⟩,_⟩:=x;exact t9 e
theorem Paired.Jai:∀{l₁:List α}{l₂:List β},Paired F l₁ l₂->(∀a b,F a b->G a b)->Paired G l₁ l₂
 |_,_,.nil,_=>.nil
 |_,_,.cons r t,f=>.cons (f _ _ r) (Paired.Jai t f)
theorem AZ.MB(x:AZ P w H h a o)(k:∀b u,(b=a\/H b=some (.own a))->h.get? b=some u->h'.get? b=some u)
  (ho:∀b,H b=some (.own a)->H' b=some (.own a)) (ht:∀b xs,H b=some (.tup xs)->H' b=some (.tup xs)):AZ P w H' h' a o:=by
 induction o with|lst xs=>obtain⟨z,aq,n,r,e⟩:=x;exact⟨z,aq,n,r,k _ _ (.inl rfl) e⟩|tup xs=>obtain⟨z,aq,r,ob,e,c⟩:=x;exact⟨z,aq,r,ob,k _ _ (.inl rfl) e,c⟩|l ah=>obtain⟨z,y,vs,r,ob,es,ep,e,c⟩:=x;exact⟨z,y,vs,r,ob,es,ep,k _ _ (.inl rfl) e,c⟩|dT ah =>obtain⟨z,y,xs,r,ob,es,ep,e,c⟩:=x;exact⟨z,y,xs,Paired.Jai r λp q z=>⟨z.1,ht _ _ z.2.1,z.2.2⟩,ob,es,ep,k _ _ (.inl rfl) e,c⟩|set S n=>obtain⟨ob,es,ep,t,e,c⟩:=x;exact⟨ob,es,ep,t,k _ _ (.inl rfl) e,c⟩|ins C dx fs =>obtain⟨d,z,ne,e,mA,⟨od,es,ep,e2,c⟩,r⟩:=x;exact⟨ho _ d,z,ne,k _ _ (.inl rfl) e,mA,⟨od,es,ep,k _ _ (.inr d) e2,c⟩,r⟩|own y=>obtain⟨ob,e⟩:=x;exact⟨ob,k _ _ (.inl rfl) e⟩|xd fs=>obtain⟨mA,⟨od,es,ep,e,c⟩,r⟩:=x;exact⟨mA,⟨od,es,ep,k _ _ (.inl rfl) e,c⟩,r⟩|yT lo hi=>obtain⟨t,u,v,e⟩:=x;exact⟨t,u,v,k _ _ (.inl rfl) e⟩|frz ob u ih=>obtain⟨e,q⟩:=x;exact⟨k _ _ (.inl rfl) e,ih q⟩|zi ps =>have e:=x;exact k a _ (.inl rfl) e|met f y =>have e:=x;exact k a _ (.inl rfl) e|ext φ=>obtain⟨p,⟨o,e⟩,st⟩:=x;exact⟨st _ _ p λo q=>k _ _ (.inl rfl) q,⟨o,k _ _ (.inl rfl) e⟩,st⟩
theorem HOk.lt(x:HOk P w H h)(e:H a=some o):a<h.objs.size:=(x a o e).lt
theorem HOk.fresh(x:HOk P w H h)(e:h.objs.size<=a):H a=none:=by cases q:H a with|none=>rfl|some u=>exact absurd (uf (x.lt q) e) (uR _)
theorem HOk.kept(x:HOk P w H h)(k:∀b u,h.get? b=some u->h'.get? b=some u):HOk P w H h':=λa o e =>(x a o e).MB (λb u _ q=>k b u q) (λ_ q=>q) λ_ _ q=>q
theorem HOk.laid(x:HOk P w H h)(k:∀b u,h.get? b=some u->h'.get? b=some u)(hp:h.objs.size<=a)(new:AZ P w (upd H a o) h' a o):HOk P w (upd H a o) h':=λb u e=>by
 have hn:=x.fresh hp;by_cases hb:b=a
 .subst hb;rw[Ak]at e;cases e;exact new
 .rw[Aj hb]at e;exact(x b u e).MB (λc v _ q=>k c v q) (λc q=>by rw[Aj (A3 q hn)];exact q) λc xs q=>by rw[Aj (A3 q hn)];exact q
end
def Rd(H:Hp)(a:Addr)(u:HO):Prop:=H a=some u\/∃o,H a=some (.frz o u)
theorem Rd.ok(r:Rd H a u)(x:HOk P w H h):AZ P w H h a u:=by
 rcases r with r|⟨o,r⟩
 .exact x a u r
 .obtain⟨_,q⟩:=x a _ r;exact q
def Mut:Option HO->Prop
 |some (.lst _)=>True
 |some (.l _)=>True
 |some (.dT _)=>True
 |some (.set _ _)=>True
 |some (.ins _ _ _)=>True
 |some (.ext _)=>True
 |_=>False
section
variable{P:Program}{w:World}{H:Hp}{h h':Heap}{x e:Addr}{o':HO}
theorem HOk.write(ok:HOk P w H h)(mu:Mut (H x))(he:e=x\/H e=some (.own x))(k:∀b u,b≠e->h.get? b=some u->h'.get? b=some u)(iF:∃u,h'.get? e=some u)
  (new:AZ P w (upd H x o') h' x o'):HOk P w (upd H x o') h':=λb u q=>by
 have jx:∀c y,H c=some (.own y)->c≠x:=λc y r z=>by subst z;rw[r]at mu;exact mu
 have lL:∀c xs,H c=some (.tup xs)->c≠x:=λc xs r z=>by subst z;rw[r]at mu;exact mu
 by_cases hb:b=x
 .subst hb;rw[Ak]at q;cases q;exact new
 .rw[Aj hb]at q;by_cases fE:b=e
  .have q':H b=some (.own x):=by
    rcases he with z|z
    .exact absurd (fE.trans z) hb
    .rw[fE];exact z
   rw[q]at q';cases q';obtain⟨v,hv⟩:=iF;exact⟨v,by rw[fE];exact hv⟩
  .refine(ok b u q).MB (λc v hc r=>k c v ?_ r) (λc r=>by rw[Aj (jx c b r)];exact r) λc xs r=>by rw[Aj (lL c xs r)];exact r
   rcases hc with rfl|hc
   .exact fE
   .rintro rfl
    rcases he with z|z
    .exact jx c b hc z
    .rw[hc]at z;cases z;exact hb rfl
end
structure Un(fs ex:List Addr)(H H':Hp)(h h':Heap):Prop where
 keep:∀b o,h.get? b=some o->H b=none->b∉fs->b∉ex->h'.get? b=some o
 slot:∀b o,h.get? b=some o->H b=none->b∈fs->b∉ex->∃sl,h'.get? b=some {o with slots:=sl}
 free:∀b o,h.get? b=some o->H b=none->b∉ex->H' b=none
 there:∀b o,h.get? b=some o->b∉ex->∃o',h'.get? b=some o'
 zL:∀b xs,H b=some (.tup xs)->H' b=some (.tup xs)
 zV:∀b o u,H b=some (.frz o u)->H' b=some (.frz o u)
 zN:∀b ps,H b=some (.zi ps)->∃more,H' b=some (.zi (ps++more))
section
variable{fs ar ex kD:List Addr}{H H1 H2:Hp}{h h1 h2 h':Heap}{a x e:Addr}{o:HO}
theorem Un.any(u:Un fs ex H H1 h h1){b:Addr}{ob:Obj}(q:h.get? b=some ob)(n:H b=none)(hx:b∉ex):∃sl,h1.get? b=some {ob with slots:=sl}:=by
 by_cases hb:b∈fs
 .exact u.slot b ob q n hb hx
 .exact⟨ob.slots,u.keep b ob q n hb hx⟩
theorem Un.kept(k:∀b u,h.get? b=some u->h'.get? b=some u):Un fs ex H H h h' :=
 ⟨λb ob q _ _ _=>k b ob q,λb ob q _ _ _=>⟨ob.slots,k b ob q⟩,λ_ _ _ n _=>n,λb ob q _=>⟨ob,k b ob q⟩,λ_ _ q=>q,λ_ _ _ q=>q,λ_ ps q=>⟨#[],by rw[q];simp⟩⟩
theorem Un.refl:Un fs ex H H h h:=Un.kept λ_ _ q=>q
theorem Un.laid(k:∀b u,h.get? b=some u->h'.get? b=some u)(hp:h.objs.size<=a)(hn:H a=none):Un fs ex H (upd H a o) h h' where
 keep:=λb u q _ _ _=>k b u q
 slot:=λb u q _ _ _=>⟨u.slots,k b u q⟩
 free:=λb u q n _=>by rw[Aj (ur (uf (t9 q) hp))];exact n
 there:=λb u q _=>⟨u,k b u q⟩
 zL:=λb xs q=>by rw[Aj (A3 q hn)];exact q
 zV:=λb u xs q=>by rw[Aj (A3 q hn)];exact q
 zN:=λb ps q=>⟨#[],by rw[Aj (A3 q hn),q];simp⟩
theorem Un.write(mu:Mut (H x))(he:e=x\/H e=some (.own x))(k:∀b u,b≠e->h.get? b=some u->h'.get? b=some u)(iF:∃u,h'.get? e=some u):Un fs ex H (upd H x o) h h':=by
 have hx:∀b,H b=none->b≠x:=λb n z=>by subst z;rw[n]at mu;exact mu
 have hb:∀b,H b=none->b≠e:=λb n z=>by
  subst z;rcases he with r|r
  .exact hx b n r
  .rw[n]at r;cases r
 have hm:∀b u,H b=some u->¬Mut (some u)->b≠x:=λb u q nm z=>by subst z;rw[q]at mu;exact nm mu
 refine⟨λb u q n _ _=>k b u (hb b n) q,λb u q n _ _=>⟨u.slots,k b u (hb b n) q⟩,λb u q n _=>by rw[Aj (hx b n)];exact n,λb u q _=>?_,
  λb xs q=>by rw[Aj (hm b _ q λz=>z)];exact q,λb u xs q=>by rw[Aj (hm b _ q λz=>z)];exact q,λb ps q=>⟨#[],by rw[Aj (hm b _ q λz=>z),q];simp⟩⟩
 by_cases fE:b=e
 .subst fE;exact iF
 .exact⟨u,k b u fE q⟩
end
noncomputable def trk(h:Heap)(H:Hp):List Addr:=(List.range h.objs.size).filter λa=>(H a).isSome
noncomputable def PL(h:Heap)(H:Hp):Heap:=PySem.W.hideAll h (trk h H)
theorem NG(h:Heap)(H:Hp):(PL h H).objs.size=h.objs.size:=PySem.W.hideAll_size _ _
theorem PK(e:h.get? b=some o)(n:H b=none):(PL h H).get? b=some o :=
 PySem.W.hideAll_get _ e λhm=>by have q:=(va.mp hm).2;rw[n]at q;simp at q
theorem S4(e:(PL h H).get? b=some o):h.get? b=some o/\H b=none:=by have e':=PySem.W.of_hideAll (trk h H) e;refine⟨e',?_⟩;cases q:H b with|none=>rfl|some x =>have hm:b∈trk h H:=va.mpr ⟨vj.mpr (t9 e'),by simp[q]⟩;have z:(PL h H).get? b=none:=PySem.W.hideAll_none (trk h H) hm;rw[z]at e;cases e
structure Mod(K:Fg)(mg:Str->Option Value)(base:Heap):Prop where
 y0:K.In base
 glob:base.Ns mainGlobals mg
 blt:∃mb,base.Ns builtinsNs mb/\∀x:Str,x≠"__name__"->mb x=bootBuiltins x
 nolimit:base.NoLimit
structure Cx where
 prog:Program
 w:World
 K:Fg
 mg:Str->Option Value
 base:Heap
 A:Around
 N:List Str
 zZ:Shared
 zu:Hp
 env:Env
 outer:List Env
 stack:List Env
 ex:List Addr
 fn:Str->Bool
 calm:Bool
 pn:List (Addr×Obj)
 xe:Value->Shared->Prop
noncomputable def frs(l:List Env):List Addr:=l.filterMap (·.frame)
abbrev Cx.fs(X:Cx):List Addr:=frs X.outer
def Vis(sc:Scope)(x:Str):Prop:=sc.names.lookup x=some .local\/sc.names.lookup x=some .cell\/sc.names.lookup x=some .free
def Loc(sc:Scope)(x:Str):Prop:=sc.names.lookup x=some .local\/sc.names.lookup x=some .cell
def Look(env:Env)(h:Heap)(m:Str->Option Value)(x:Str)(u:Value):Prop :=
 (env.kindOf x=some .local/\m x=some u)\/((env.kindOf x=some .cell\/env.kindOf x=some .free)/\∃c,env.cells.lookup x=some c/\h.IsCell c (some u))
structure Cx.Ok(X:Cx):Prop where
 mod:Mod X.K X.mg X.base
 kind:X.env.scope.kind=.function
 glob:X.env.globals=mainGlobals
 blt:X.env.builtins=builtinsNs
 above:X.zZ.heap.objs.size<=X.env.locals
 inj:∀x y c,X.env.cells.lookup x=some c->X.env.cells.lookup y=some c->x=y
 has:∀x,(X.env.kindOf x=some .cell\/X.env.kindOf x=some .free)->∃c,X.env.cells.lookup x=some c
 zh:∀x c,X.fn x=true->X.env.cells.lookup x=some c->X.zZ.heap.objs.size<=c
 hd:X.calm=true->X.A.handled=none
 frames:X.A.frames=some X.stack
 yZ:X.stack=X.outer\/(X.stack=X.env::X.outer/\X.env.frame=some X.env.locals)
 yW:∀b∈X.ex,b≠X.env.locals/\∀x c,X.env.cells.lookup x=some c->c≠b
 bs:∀b o,X.base.get? b=some o->X.zZ.heap.get? b=some o/\X.zu b=none
 zA:X.base.objs.size<=X.zZ.heap.objs.size
 zx:∀b o,X.base.get? b=some o->b∉X.ex
 zy:∀b∈X.ex,b∉X.fs
 KR:X.zZ.heap.FunFrames X.base X.outer
 zo:∀b∈X.fs,X.zu b=none
structure Inv(X:Cx)(aa:List (Addr×Obj))(U:List (Option V))(H:Hp)(s:Shared):Prop where
 ok:X.Ok
 os:s.os=X.zZ.os
 bare:AllBare s.gens
 base:Un X.fs X.ex X.zu H X.zZ.heap s.heap
 loc:∃m,s.heap.Ns X.env.locals m/\∀(i:Nat)(x:Str)(v:V),X.N[i]?=some x->U[i]?=some (some v)->Vis X.env.scope x->∃u,RelV v u/\Look X.env s.heap m x u
 cell:∀x c,X.env.cells.lookup x=some c->∃v,s.heap.IsCell c v
 free:H X.env.locals=none
 zX:∀x c,X.env.cells.lookup x=some c->H c=none
 pin:∀p∈X.pn++aa,s.heap.get? p.1=some p.2/\H p.1=none/\p.1≠X.env.locals/\p.1∉X.fs/\∀v,p.2.data≠.cell v
 z9:HOk X.prog X.w H s.heap
 len:U.length=X.N.length
section
variable{X:Cx}{aa:List (Addr×Obj)}{U:List (Option V)}{H H':Hp}{s:Shared}{h':Heap}
theorem Cx.Ok.nofr(ok:X.Ok)(e:X.base.get? b=some o):b∉X.fs:=λhb=>by have:=(ok.KR.mem hb).1;rw[e]at this;cases this
theorem Inv.bs(I:Inv X aa U H s):∀b o,X.base.get? b=some o->s.heap.get? b=some o/\H b=none:=λb o e =>⟨I.base.keep b o (I.ok.bs b o e).1 (I.ok.bs b o e).2 (I.ok.nofr e) (I.ok.zx b o e),I.base.free b o (I.ok.bs b o e).1 (I.ok.bs b o e).2 (I.ok.zx b o e)⟩
theorem Inv.bk(I:Inv X aa U H s):∀b o,X.base.get? b=some o->s.heap.get? b=some o:=λb o e=>(I.bs b o e).1
theorem Inv.mod(I:Inv X aa U H s):Mod X.K X.mg X.base:=I.ok.mod
theorem Inv.kIn(I:Inv X aa U H s):X.K.In s.heap:=I.ok.mod.y0.keeps I.bk
theorem Inv.lt(I:Inv X aa U H s):X.env.locals<s.heap.objs.size:=let⟨_,hn,_⟩:=I.loc;hn.lt
theorem Inv.sz(I:Inv X aa U H s):X.zZ.heap.objs.size<=s.heap.objs.size:=uz I.ok.above (vT I.lt)
theorem Inv.nofs(I:Inv X aa U H s)(h:s.heap.objs.size<=a):a∉X.fs:=λhb=>by obtain⟨_,o,ho,_⟩:=I.ok.KR.mem hb;exact absurd (uf (t9 ho) (uz I.sz h)) (uR _)
theorem Inv.cne(I:Inv X aa U H s):∀x c,X.env.cells.lookup x=some c->c≠X.env.locals:=λx c e z=>by obtain⟨v,o,ho,hd⟩:=I.cell x c e;obtain⟨m,⟨o',es,ep,bN,fG,_⟩,_⟩:=I.loc;rw[z,bN]at ho;cases ho;rw[fG]at hd;cases hd
theorem Inv.KR(I:Inv X aa U H s):s.heap.FunFrames X.base X.outer:=by
 have all:∀(l:List Env),(∀b∈frs l,b∈X.fs)->X.zZ.heap.FunFrames X.base l->s.heap.FunFrames X.base l:=by
  intro l
  induction l with
  |nil=>intro _ _;trivial
  |cons env r ih =>
   intro hs hl;obtain⟨hk,⟨L,o,hf,hn,ho,hd⟩,hr⟩:=hl;have hL:=hs L (by unfold frs;rw[vE,hf];exact uj);obtain⟨sl,e⟩:=I.base.slot L o ho (I.ok.zo L hL) hL λz=>I.ok.zy L z hL
   exact⟨hk,⟨L,_,hf,hn,e,hd⟩,ih (λb hb=>hs b (by unfold frs;rw[vE,hf];exact tV _ hb)) hr⟩
 exact all X.outer (λ_ hb=>hb) I.ok.KR
theorem Inv.stack(I:Inv X aa U H s):s.heap.FunFrames X.base X.stack:=by
 rcases I.ok.yZ with e|⟨e,hf⟩
 .rw[e];exact I.KR
 .rw[e];obtain⟨m,hn,_⟩:=I.loc;refine .cons (by rw[I.ok.kind];decide) hf hn ?_ I.KR;exact Heap.get?_none_of_le (uz I.ok.zA I.ok.above)
theorem Inv.HU(I:Inv X aa U H s):∀b∈frs X.stack,b∈X.env.locals::X.fs:=λb hb=>by
 rcases I.ok.yZ with e|⟨e,hf⟩
 .rw[e]at hb;exact tV _ hb
 .rw[e]at hb;unfold frs at hb;rw[vE,hf]at hb;exact hb
theorem Inv.Js(I:Inv X aa U H s):∀b∈frs X.stack,H b=none:=λb hb=>by
 rcases uk.mp (I.HU b hb)with e|hb
 .rw[e];exact I.free
 .obtain⟨_,o,ho,_⟩:=I.ok.KR.mem hb;exact I.base.free b o ho (I.ok.zo b hb) λz=>I.ok.zy b z hb
theorem Inv.step{ch:List Addr}(I:Inv X aa U H s)
  (fY:∀b∈ch,(b∈X.ex\/X.zZ.heap.objs.size<=b)/\b≠X.env.locals/\(∀x c,X.env.cells.lookup x=some c->c≠b)/\∀p∈X.pn++aa,p.1≠b)
  (keep:∀b o,b≠X.env.locals->b∉X.fs->b∉ch->s.heap.get? b=some o->H b=none->h'.get? b=some o)
  (slot:∀b o,b≠X.env.locals->b∈X.fs->b∉ch->s.heap.get? b=some o->H b=none->∃sl,h'.get? b=some {o with slots:=sl}) (free:∀b o,b∉ch->s.heap.get? b=some o->H b=none->H' b=none)
  (there:∀b o,b∉ch->s.heap.get? b=some o->∃o',h'.get? b=some o')
  (zL:∀b xs,H b=some (.tup xs)->H' b=some (.tup xs)) (zV:∀b o u,H b=some (.frz o u)->H' b=some (.frz o u)) (zN:∀b ps,H b=some (.zi ps)->∃more,H' b=some (.zi (ps++more)))
  (ns:∀m,s.heap.Ns X.env.locals m->h'.Ns X.env.locals m) (z9:HOk X.prog X.w H' h') (hg:AllBare g') :
  Inv X aa U H' {s with heap:=h',gens:=g',drawn:=d',toks:=t' }:=by
 have iJ:∀b o,X.zZ.heap.get? b=some o->b≠X.env.locals:=λb o e=>ur (uf (t9 e) I.ok.above)
 have j9:∀b o,X.zZ.heap.get? b=some o->b∉X.ex->b∉ch:=λb o e hx hb=>by
  rcases(fY b hb).1 with z|z
  .exact hx z
  .exact absurd (uf (t9 e) z) (uR _)
 have c7:∀x c,X.env.cells.lookup x=some c->∀v,s.heap.IsCell c v->h'.IsCell c v:=λx c e v ⟨o,ho,hd⟩=>by
  have js:=λz=>(fY c z).2.2.1 x c e rfl
  by_cases hc:c∈X.fs
  .obtain⟨sl,q⟩:=slot c o (I.cne x c e) hc js ho (I.zX x c e);exact⟨_,q,hd⟩
  .exact⟨o,keep c o (I.cne x c e) hc js ho (I.zX x c e),hd⟩
 refine⟨I.ok,I.os,hg,⟨λb o e n hb hx=>?_,λb o e n hb hx=>?_,λb o e n hx=>?_,λb o e hx=>?_,λb xs e=>zL b xs (I.base.zL b xs e),λb o xs e=>zV b o xs (I.base.zV b o xs e),λb ps e=>?_⟩,?_,λx c e=>?_,?_,λx c e=>?_,λp hp=>?_,z9,I.len⟩
 .exact keep b o (iJ b o e) hb (j9 b o e hx) (I.base.keep b o e n hb hx) (I.base.free b o e n hx)
 .obtain⟨sl,e1⟩:=I.base.slot b o e n hb hx;obtain⟨lW,e2⟩:=slot b _ (iJ b o e) hb (j9 b o e hx) e1 (I.base.free b o e n hx);exact⟨lW,e2⟩
 .obtain⟨o',e1⟩:=I.base.there b o e hx;exact free b o' (j9 b o e hx) e1 (I.base.free b o e n hx)
 .obtain⟨o',e1⟩:=I.base.there b o e hx;exact there b o' (j9 b o e hx) e1
 .obtain⟨m1,e1⟩:=I.base.zN b ps e;obtain⟨m2,e2⟩:=zN b _ e1;exact⟨m1++m2,by rw[e2,Array.append_assoc]⟩
 .obtain⟨m,hn,hl⟩:=I.loc;refine⟨m,ns m hn,λi x v e1 e2 e3=>?_⟩;obtain⟨u,r,l⟩:=hl i x v e1 e2 e3;refine⟨u,r,?_⟩;rcases l with l|⟨k,c,e,z⟩
  .exact .inl l
  .exact .inr ⟨k,c,e,c7 x c e _ z⟩
 .obtain⟨v,z⟩:=I.cell x c e;exact⟨v,c7 x c e v z⟩
 .obtain⟨m,⟨o,_,_,ho,_⟩,_⟩:=I.loc;exact free _ o (λz=>(fY _ z).2.1 rfl) ho I.free
 .obtain⟨v,o,ho,hd⟩:=I.cell x c e;exact free c o (λz=>(fY c z).2.2.1 x c e rfl) ho (I.zX x c e)
 .obtain⟨e,n,ne,nf,d⟩:=I.pin p hp;have js:=λz=>(fY p.1 z).2.2.2 p hp rfl
  exact⟨keep p.1 p.2 ne nf js e n,free p.1 p.2 js e n,ne,nf,d⟩
theorem Inv.un(I:Inv X aa U H s)(u:Un X.fs [] H H' s.heap h')(z9:HOk X.prog X.w H' h'):Inv X aa U H' {s with heap:=h',toks:=t' }:=by obtain⟨m,⟨o,es,ep,ho,r⟩,_⟩:=id I.loc;obtain⟨sl,hL⟩:=u.any ho I.free (by simp);exact I.step (ch:=[]) (λ_ z=>nomatch z) (λb o _ hb _ e n=>u.keep b o e n hb (by simp)) (λb o _ hb _ e n=>u.slot b o e n hb (by simp)) (λb o _ e n=>u.free b o e n (by simp)) (λb o _ e=>u.there b o e (by simp)) u.zL u.zV u.zN (λm' hm=>by obtain⟨o',kC,kB,bN,r'⟩:=hm;rw[ho]at bN;cases bN;exact⟨_,kC,kB,hL,r'⟩) z9 I.bare
theorem Inv.call(I:Inv X aa U H s)(u:Un (frs X.stack) ch H H' s.heap h')(z9:HOk X.prog X.w H' h')(hg:AllBare g')
  (fY:∀b∈ch,(b∈X.ex\/X.zZ.heap.objs.size<=b)/\b≠X.env.locals/\(∀x c,X.env.cells.lookup x=some c->c≠b)/\∀p∈X.pn++aa,p.1≠b) :
  Inv X aa U H' {s with heap:=h',gens:=g',drawn:=d',toks:=t' }:=by
 obtain⟨m,⟨o,es,ep,ho,r⟩,_⟩:=id I.loc;obtain⟨sl,hL⟩:=u.any ho I.free λz=>(fY _ z).2.1 rfl
 exact I.step fY (λb o hL hb hc e n=>u.keep b o e n (λz=>(uk.mp (I.HU b z)).elim hL hb) hc) (λb o _ _ hc e n=>u.any e n hc) (λb o hc e n=>u.free b o e n hc) (λb o hc e=>u.there b o e hc) u.zL u.zV u.zN (λm' hm=>by obtain⟨o',kC,kB,bN,r'⟩:=hm;rw[ho]at bN;cases bN;exact⟨_,kC,kB,hL,r'⟩) z9 hg
theorem Inv.turned(I:Inv X aa U H s)(k:∀b o,b≠it->s.heap.get? b=some o->h'.get? b=some o)(hn:H it=none)(hL:it≠X.env.locals)
  (h1:it∈X.ex\/X.zZ.heap.objs.size<=it) (h2:∀x c,X.env.cells.lookup x=some c->c≠it) (h3:∀p∈X.pn++aa,p.1≠it):Inv X aa U H {s with heap:=h',toks:=t' }:=by
 have hU:∀b u,H b=some u->b≠it:=λb u e z=>by rw[z,hn]at e;cases e
 refine I.step (ch:=[it]) (λb hb=>?_) (λb o _ _ hc e _=>k b o (λz=>hc (by simp[z])) e) (λb o _ _ hc e _=>⟨o.slots,k b o (λz=>hc (by simp[z])) e⟩) (λ_ _ _ _ n=>n)
  (λb o hc e=>⟨o,k b o (λz=>hc (by simp[z])) e⟩) (λ_ _ e=>e) (λ_ _ _ e=>e) (λb ps e=>⟨#[],by rw[e];simp⟩) (λm hm=>?_) (λb u e=>?_) I.bare
 .have e:=by simpa using hb
  subst e;exact⟨h1,hL,h2,h3⟩
 .obtain⟨o,es,ep,ho,r⟩:=hm;exact⟨o,es,ep,k _ o (Ne.symm hL) ho,r⟩
 .refine(I.z9 b u e).MB (λc v hc q=>k c v ?_ q) (λ_ q=>q) λ_ _ q=>q
  rcases hc with z|z
  .rw[z];exact hU b u e
  .exact hU c _ z
theorem Inv.tok(I:Inv X aa U H s)(t:Nat):Inv X aa U H {s with toks:=t}:=I.un Un.refl I.z9
theorem Inv.kept(I:Inv X aa U H s)(k:∀b u,s.heap.get? b=some u->h'.get? b=some u):Inv X aa U H {s with heap:=h',toks:=t' }:=I.un (Un.kept k) (I.z9.kept k)
theorem Inv.laid(I:Inv X aa U H s)(k:∀b u,s.heap.get? b=some u->h'.get? b=some u)(hp:s.heap.objs.size<=a)(new:AZ X.prog X.w (upd H a o) h' a o) :
  Inv X aa U (upd H a o) {s with heap:=h',toks:=t' }:=I.un (Un.laid k hp (I.z9.fresh hp)) (I.z9.laid k hp new)
theorem Inv.write(I:Inv X aa U H s)(mu:Mut (H x))(he:e=x\/H e=some (.own x))(k:∀b u,b≠e->s.heap.get? b=some u->h'.get? b=some u)(iF:∃u,h'.get? e=some u)
  (new:AZ X.prog X.w (upd H x o) h' x o):Inv X aa U (upd H x o) {s with heap:=h',toks:=t' }:=I.un (Un.write mu he k iF) (I.z9.write mu he k iF new)
theorem Inv.Hf(I:Inv X aa U H s)(h:∀p∈pins',s.heap.get? p.1=some p.2/\H p.1=none/\p.1≠X.env.locals/\p.1∉X.fs/\∀v,p.2.data≠.cell v):Inv X pins' U H s :=
 ⟨I.ok,I.os,I.bare,I.base,I.loc,I.cell,I.free,I.zX,λp hp=>(tW.mp hp).elim (λz=>I.pin p (ud _ z)) (h p),I.z9,I.len⟩
theorem Ho{N:List Str}(hN:N.Nodup){i j:Nat}(a:N[i]?=some x)(b:N[j]?=some x):i=j:=by obtain⟨h1,e1⟩:=tX.mp a;obtain⟨h2,e2⟩:=tX.mp b;exact(List.getElem_inj hN).mp (e1.trans e2.symm)
theorem HS(I:Inv X aa U H s)(hN:X.N.Nodup)(hi:X.N[i]?=some x)(hx:Loc X.env.scope x)(r:RelV v u)
  (h:∀s',Inv X aa (U.set i (some v)) H s'->(∃a,Heap.SameBut a s.heap s'.heap/\(a=X.env.locals\/X.env.cells.lookup x=some a))->Q () s') (hf:X.fn x=true\/X.env.scope.names.lookup x=some .local:=by first|exact .inl rfl|exact .inr rfl|assumption):wpAny M A (storeName X.env x u) Q E s:=by
 obtain⟨m,hn,hl⟩:=id I.loc;have cf:(X.env.scope.kind==.class||(X.env.scope.kind==.module&&X.env.locals !=X.env.globals))=false:=by rw[I.ok.kind];rfl
 have fH:i<U.length:=by rw[I.len];exact(tX.mp hi).1
 have cne:=I.cne;have eB:∀{a:Addr}{h':Heap},(∃o,s.heap.get? a=some o/\H a=none)->Heap.SameBut a s.heap h'->HOk X.prog X.w H h':=λ{a h'} ha hs b ob e=>by
  obtain⟨_,_,g5⟩:=ha;refine(I.z9 b ob e).MB (λc w' hc q=>(hs.2 c ?_).trans q) (λ_ q=>q) λ_ _ q=>q
  rintro rfl
  rcases hc with rfl|hc
  .rw[g5]at e;cases e
  .rw[g5]at hc;cases hc
 rcases hx with hk|hk
 .refine wpAny_storeName_local hk hn (λh' qM hs=>?_) cf;obtain⟨oL,_,_,qP,_⟩:=id hn;refine h _ ⟨I.ok,I.os,I.bare,⟨λb o e n hb hx=>?_,λb o e n hb hx=>?_,I.base.free,λb o e hx=>?_,I.base.zL,I.base.zV,I.base.zN⟩,⟨_,qM,λj y v' e1 e2 e3=>?_⟩,λy c e=>?_,I.free,I.zX,λp hp=>?_,eB ⟨oL,qP,I.free⟩ hs,by simpa using I.len⟩ ⟨_,hs,.inl rfl⟩
  .exact(hs.2 b (ur (uf (t9 e) I.ok.above))).trans (I.base.keep b o e n hb hx)
  .obtain⟨sl,e1⟩:=I.base.slot b o e n hb hx;exact⟨sl,(hs.2 b (ur (uf (t9 e) I.ok.above))).trans e1⟩
  .obtain⟨o',e1⟩:=I.base.there b o e hx;exact⟨o',(hs.2 b (ur (uf (t9 e) I.ok.above))).trans e1⟩
  .by_cases hj:j=i
   .subst hj;rw[hi]at e1;cases e1;rw[uQ fH]at e2;cases e2;exact⟨u,r,.inl ⟨hk,by simp⟩⟩
   .rw[uT (Ne.symm hj)]at e2;obtain⟨u',r',q⟩:=hl j y v' e1 e2 e3;refine⟨u',r',?_⟩;rcases q with⟨k,e⟩|⟨k,c,e,z⟩
    .refine .inl ⟨k,?_⟩;have:y≠x:=λe=>hj (Ho hN e1 (e▸hi))
     simp[this,e]
    .exact .inr ⟨k,c,e,z.sameBut hs (cne y c e)⟩
  .obtain⟨w',z⟩:=I.cell y c e;exact⟨w',z.sameBut hs (cne y c e)⟩
  .obtain⟨e,n,ne,nf,d⟩:=I.pin p hp;exact⟨(hs.2 p.1 ne).trans e,n,ne,nf,d⟩
 .have gx:X.fn x=true:=by
   rcases hf with z|z
   .exact z
   .rw[z]at hk;cases hk
  obtain⟨c,hc⟩:=I.ok.has x (.inl hk);obtain⟨w',z⟩:=I.cell x c hc;refine wpAny_storeName_cell I.ok.kind hk hc z (λh' jS hs=>?_);obtain⟨oc,jY,k8⟩:=id z;refine h {s with heap:=h' } ⟨I.ok,I.os,I.bare,⟨λb o e n hb hx=>?_,λb o e n hb hx=>?_,I.base.free,λb o e hx=>?_,I.base.zL,I.base.zV,I.base.zN⟩,⟨m,hn.sameBut hs (Ne.symm (cne x c hc)),λj y v' e1 e2 e3=>?_⟩,λy c' e=>?_,I.free,I.zX,λp hp=>?_,eB ⟨oc,jY,I.zX x c hc⟩ hs,by simpa using I.len⟩ ⟨c,hs,.inr hc⟩
  .exact(hs.2 b (ur (uf (t9 e) (I.ok.zh x c gx hc)))).trans (I.base.keep b o e n hb hx)
  .obtain⟨sl,e1⟩:=I.base.slot b o e n hb hx;exact⟨sl,(hs.2 b (ur (uf (t9 e) (I.ok.zh x c gx hc)))).trans e1⟩
  .obtain⟨o',e1⟩:=I.base.there b o e hx;exact⟨o',(hs.2 b (ur (uf (t9 e) (I.ok.zh x c gx hc)))).trans e1⟩
  .by_cases hj:j=i
   .subst hj;rw[hi]at e1;cases e1;rw[uQ fH]at e2;cases e2;exact⟨u,r,.inr ⟨.inl hk,c,hc,jS⟩⟩
   .rw[uT (Ne.symm hj)]at e2;obtain⟨u',r',q⟩:=hl j y v' e1 e2 e3;refine⟨u',r',?_⟩;rcases q with q|⟨k,c',e,z'⟩
    .exact .inl q
    .refine .inr ⟨k,c',e,z'.sameBut hs ?_⟩
     rintro rfl
     exact hj (Ho hN e1 (I.ok.inj _ _ _ e hc▸hi))
  .by_cases kN:c'=c
   .subst kN;exact⟨_,jS⟩
   .obtain⟨w2,z2⟩:=I.cell y c' e;exact⟨w2,z2.sameBut hs kN⟩
  .obtain⟨e,n,ne,nf,d⟩:=I.pin p hp;refine⟨(hs.2 p.1 ?_).trans e,n,ne,nf,d⟩;intro q;rw[q,jY]at e;have q':=Option.some.inj e;exact d w' (by rw[<- q'];exact k8)
theorem EK(I:Inv X aa U H s)(hN:X.N.Nodup)(hi:X.N[i]?=some x)(hx:Loc X.env.scope x)(r:RelV v u)
  (h:∀s',Inv X aa (U.set i (some v)) H s'->Q () s') (hf:X.fn x=true\/X.env.scope.names.lookup x=some .local:=by first|exact .inl rfl|exact .inr rfl|assumption):wpAny M A (storeName X.env x u) Q E s :=
 HS I hN hi hx r (λs' I' _=>h s' I') hf
theorem Inv.Yv(I:Inv X aa U H s)(ho:s'.os=s.os)(u:Un (frs X.stack) ch H H' s.heap s'.heap)(z9:HOk X.prog X.w H' s'.heap)(hg:AllBare s'.gens)
  (fY:∀b∈ch,(b∈X.ex\/X.zZ.heap.objs.size<=b)/\b≠X.env.locals/\(∀x c,X.env.cells.lookup x=some c->c≠b)/\∀p∈X.pn++aa,p.1≠b):Inv X aa U H' s':=by
 obtain⟨h',g',d',t',o'⟩:=s';have e:=ho;subst e;exact I.call u z9 hg fY
end
abbrev XK:=Value->Option Addr->Hp->Prop
abbrev St:=List (Option V)
abbrev VK:=V->Hp->Prop
abbrev TE:=St->Hp->VK->Prop
abbrev TT:=St->Hp->(Bool->Hp->Prop)->Prop
abbrev TA:=St->Hp->(List V->Hp->Prop)->Prop
structure Ends where
 nx:St->Hp->Prop
 rt:VK
 bk:St->Hp->Prop:=λ_ _=>False
 ct:St->Hp->Prop:=λ_ _=>False
abbrev TS:=Ends->St->Hp->Prop
inductive EP(X:Cx)(aa:List (Addr×Obj))(U:St)(Q:VK)(u:Value)(s':Shared):Prop
 |mk (v:V) (H':Hp) (h0:Inv X aa U H' s') (h1:RelV v u) (h2:Q v H')
def TP(X:Cx)(aa:List (Addr×Obj))(U:St)(Q:Bool->Hp->Prop)(b:Bool)(s':Shared):Prop:=∃H',Inv X aa U H' s'/\Q b H'
inductive AP(X:Cx)(aa:List (Addr×Obj))(U:St)(Q:List V->Hp->Prop)(us:List Value)(s':Shared):Prop
 |mk (vs:List V) (H':Hp) (h0:Inv X aa U H' s') (h1:Vals vs us) (h2:Q vs H')
inductive NP(X:Cx)(aa:List (Addr×Obj))(Q:St->Hp->Prop)(s':Shared):Prop
 |mk (au:St) (H':Hp) (h0:Inv X aa au H' s') (h1:Q au H')
inductive RtP(X:Cx)(aa:List (Addr×Obj))(Q:VK)(u:Value)(s':Shared):Prop
 |mk (v:V) (au:St) (H':Hp) (h0:Inv X aa au H' s') (h1:RelV v u) (h2:Q v H')
inductive HP(X:Cx)(aa:List (Addr×Obj))(U:St)(Q:Hp->Prop)(s':Shared):Prop
 |mk (H':Hp) (h0:Inv X aa U H' s') (h1:Q H')
def SP(X:Cx)(aa:List (Addr×Obj))(D:Ends)(f:Flow)(s':Shared):Prop :=
 match f with|.next=>NP X aa D.nx s'|.brk=>NP X aa D.bk s'|.cont=>NP X aa D.ct s'|.ret u=>RtP X aa D.rt u s'
def PE(X:Cx)(e:Expr)(t:TE):Prop :=
 ∀(aa:List (Addr×Obj))(s:Shared)(U:St)(H:Hp)(Q:VK),Inv X aa U H s->t U H Q->wpAny (model X.prog X.w) X.A (eval e X.env) (EP X aa U Q) X.xe s
def PT(X:Cx)(e:Expr)(t:TT):Prop :=
 ∀(aa:List (Addr×Obj))(s:Shared)(U:St)(H:Hp)(Q:Bool->Hp->Prop),Inv X aa U H s->t U H Q->wpAny (model X.prog X.w) X.A (isTrue e X.env (eval e X.env)) (TP X aa U Q) X.xe s
def PW(X:Cx)(e:Expr)(t:TT):Prop :=
 ∀(bE:Sem Value)(aa:List (Addr×Obj))(s:Shared)(U:St)(H:Hp)(Q:Bool->Hp->Prop),Inv X aa U H s->t U H Q->wpAny (model X.prog X.w) X.A (isTrue e X.env bE) (TP X aa U Q) X.xe s
theorem PW.pt(h:PW X e t):PT X e t:=h _
def PA(X:Cx)(es:List Expr)(t:TA):Prop :=
 ∀(pos:Pos)(aa:List (Addr×Obj))(s:Shared)(U:St)(H:Hp)(Q:List V->Hp->Prop),Inv X aa U H s->t U H Q->wpAny (model X.prog X.w) X.A (spliced (backTo pos (starEach es X.env))) (AP X aa U Q) X.xe s
def PS(X:Cx)(st:Stmt)(t:TS):Prop :=
 ∀(aa:List (Addr×Obj))(s:Shared)(U:St)(H:Hp)(D:Ends),Inv X aa U H s->t D U H->wpAny (model X.prog X.w) X.A (exec st X.env) (SP X aa D) X.xe s
def PSs(X:Cx)(st:List Stmt)(t:TS):Prop :=
 ∀(aa:List (Addr×Obj))(s:Shared)(U:St)(H:Hp)(D:Ends),Inv X aa U H s->t D U H->wpAny (model X.prog X.w) X.A (execs st X.env) (SP X aa D) X.xe s
theorem thn(h:wpAny M A t Q E s)(hQ:∀a s,Q a s->Q' a s):wpAny M A t Q' E s:=wpAny_mono h hQ λ_ _ x=>x
section
variable{X:Cx}
def Oz(i:Nat):TE:=λU H Q=>∃v,U[i]?=some (some v)/\Q v H
def tC(v:V):TE:=λ_ H Q=>Q v H
theorem Wb(hN:X.N[i]?=some x)(hv:Vis X.env.scope x)(hd:(x==("__debug__":Str))=false:=by decide)(eG:(x==("__classdict__":Str))=false:=by decide):PE X (.Name x pos) (Oz i):=by
 intro aa s U H Q I h;obtain⟨v,e,h⟩:=h;obtain⟨m,hn,hl⟩:=I.loc;obtain⟨u,r,l⟩:=hl i x v hN e hv;have aT:EP X aa U Q u s:=⟨v,H,I,r,h⟩
 rcases l with⟨hk,hm⟩|⟨hk,c,hc,hcell⟩
 .exact wpAny_Name (wpAny_loadName_local I.ok.kind hk hn hm aT) hd
 .rcases hk with hk|hk
  .exact wpAny_Name (wpAny_loadName_cell I.ok.kind hk hc hcell aT) hd
  .exact wpAny_Name (wpAny_loadName_free I.ok.kind hk hc hcell aT eG) hd
theorem Wi:PE X (.Constant (.int i) j pos) (tC (.int i)):=λ_ _ _ H _ I h=>wpAny_Constant_int ⟨.int i,H,I.tok _,⟨_,rfl⟩,h⟩
theorem Jac:PE X (.Constant (.bool b) j pos) (tC (.v b)):=λ_ _ _ H _ I h=>Constant_bool ⟨.v b,H,I,rfl,h⟩
theorem Wf:PE X (.Constant .none j pos) (tC .o):=λ_ _ _ H _ I h=>Constant_none ⟨.o,H,I,rfl,h⟩
theorem Ik:PE X (.Constant (.str x) j pos) (tC (.str x)):=λ_ _ _ H _ I h=>Calls.Constant_str ⟨.str x,H,I.tok _,⟨_,rfl⟩,h⟩
def Gl(X:Cx)(x:Str):Prop:=X.env.kindOf x=some .globalImplicit
theorem Ee(I:Inv X aa U H s)(hg:Gl X x)(hm:X.mg x=some u)(h:Q u s)
  (hd:(x==("__debug__":Str))=false:=by decide):wpAny (model X.prog X.w) X.A (eval (.Name x pos) X.env) Q E s :=
 Calls.Name_function_global I.ok.kind hg (Calls.loadGlobal_global (by rw[I.ok.glob];exact I.mod.glob.keeps I.bk) hm h) hd
theorem Dm(I:Inv X aa U H s)(hg:Gl X x)(hm:X.mg x=none)(hv:bootBuiltins x=some u)(h:Q u s)
  (hn:x≠"__name__":=by decide) (hd:(x==("__debug__":Str))=false:=by decide):wpAny (model X.prog X.w) X.A (eval (.Name x pos) X.env) Q E s:=by
 obtain⟨mb,h1,h2⟩:=I.mod.blt;exact Calls.Name_function_global I.ok.kind hg (Calls.loadGlobal_builtin (by rw[I.ok.glob];exact I.mod.glob.keeps I.bk) hm (by rw[I.ok.blt];exact h1.keeps I.bk) ((h2 x hn).trans hv) h) hd
theorem MV(hg:Gl X x)(hm:X.mg x=some u)(r:RelV v u)(hd:(x==("__debug__":Str))=false:=by decide):PE X (.Name x pos) (tC v) :=
 λ_ _ _ H _ I h=>Ee I hg hm ⟨v,H,I,r,h⟩ hd
theorem MX(hg:Gl X x)(hm:X.mg x=none)(hv:bootBuiltins x=some u)(r:RelV v u)(hn:x≠"__name__":=by decide)(hd:(x==("__debug__":Str))=false:=by decide):PE X (.Name x pos) (tC v) :=
 λ_ _ _ H _ I h=>Dm I hg hm hv ⟨v,H,I,r,h⟩ hn hd
variable{a b:Expr}{ta tb:TE}{pos:Pos}
variable{tA kj:TT}{rest:List Expr}
def Jcf(t u:TT):TT:=λU H Q=>t U H λc H1=>if c=true then u U H1 Q else Q false H1
def tOr(t u:TT):TT:=λU H Q=>t U H λc H1=>if c=true then Q true H1 else u U H1 Q
def Jb9(t:TT):TT:=λU H Q=>t U H λc H1=>Q (!c) H1
theorem Sm(ha:PT X a tA):PW X (.BoolOp .And [a] pos) tA:=by intro wh aa s U H Q I h;refine isTrue_and (thn (ha aa s U H Q I h) λc s1 e=>?_);cases c with|true=>exact isTrue_and_nil e|false=>exact e
theorem VX(ha:PT X a tA):PW X (.BoolOp .Or [a] pos) tA:=by intro wh aa s U H Q I h;refine isTrue_or (thn (ha aa s U H Q I h) λc s1 e=>?_);cases c with|false=>exact isTrue_or_nil e|true=>exact e
theorem VY(ha:PT X a tA)(hb:PW X (.BoolOp .And (b::rest) pos) kj):PW X (.BoolOp .And (a::b::rest) pos) (Jcf tA kj):=by intro wh aa s U H Q I h;refine isTrue_and (thn (ha aa s U H _ I h) λc s1 ao=>?_);obtain⟨H1,I1,q1⟩:= ao;cases c with|true=>exact hb wh aa s1 U H1 Q I1 q1|false=>exact⟨H1,I1,q1⟩
theorem Z2(ha:PT X a tA)(hb:PW X (.BoolOp .Or (b::rest) pos) kj):PW X (.BoolOp .Or (a::b::rest) pos) (tOr tA kj):=by intro wh aa s U H Q I h;refine isTrue_or (thn (ha aa s U H _ I h) λc s1 ao=>?_);obtain⟨H1,I1,q1⟩:= ao;cases c with|true=>exact⟨H1,I1,q1⟩|false=>exact hb wh aa s1 U H1 Q I1 q1
theorem V1(ha:PT X a tA):PT X (.UnaryOp .Not a pos) (Jb9 tA):=by intro aa s U H Q I h;exact isTrue_not (ha aa s U H (λc H1=>Q (!c) H1) I h)
def ZQ(ta tb:TE):TE:=λU H Q=>ta U H λx H1=>∃c,x=.v c/\if c=true then tb U H1 Q else Q (.v false) H1
def Jb8(ta tb:TE):TE:=λU H Q=>ta U H λx H1=>∃c,x=.v c/\if c=true then Q (.v true) H1 else tb U H1 Q
theorem We(h:PE X a t):PE X (.BoolOp op [a] pos) t:=λaa s U H Q I hw=>BoolOp_one (h aa s U H Q I hw)
theorem Wn(ha:PE X a ta)(hb:PE X (.BoolOp .And (b::rest) pos) tb):PE X (.BoolOp .And (a::b::rest) pos) (ZQ ta tb):=by intro aa s U H Q I h;refine BoolOp_and (thn (ha aa s U H _ I h) λv s1 ao=>?_);obtain⟨x,H1,I1,r1,q1⟩:= ao;obtain⟨c,rfl,q1⟩:=q1;cases r1;refine wpAny_truthy_bool ?_;cases c with|true=>exact hb aa s1 U H1 Q I1 q1|false=>exact⟨.v false,H1,I1,rfl,q1⟩
theorem Z4(ha:PE X a ta)(hb:PE X (.BoolOp .Or (b::rest) pos) tb):PE X (.BoolOp .Or (a::b::rest) pos) (Jb8 ta tb):=by intro aa s U H Q I h;refine BoolOp_or (thn (ha aa s U H _ I h) λv s1 ao=>?_);obtain⟨x,H1,I1,r1,q1⟩:= ao;obtain⟨c,rfl,q1⟩:=q1;cases r1;refine wpAny_truthy_bool ?_;cases c with|false=>exact hb aa s1 U H1 Q I1 q1|true=>exact⟨.v true,H1,I1,rfl,q1⟩
end
def SqL(K:Fg)(H:Hp)(a:Addr)(xs:List V):Prop :=
 Rd H a (.lst xs)\/
  ∃(o:Obj)(aq:Array Value)(n:Nat),K.lookup a=some o/\o.cls=.type "list"/\o.dict=none/\o.data=.seq aq n/\aq.size<=sizeLine/\Vals xs aq.toList
def SqT(K:Fg)(H:Hp)(a:Addr)(xs:List V):Prop :=
 Rd H a (.tup xs)\/
  ∃(o:Obj)(aq:Array Value)(n:Nat),K.lookup a=some o/\o.cls=.type "tuple"/\o.data=.seq aq n/\aq.size<=sizeLine/\Vals xs aq.toList
noncomputable def absV:Value->Option V
 |.none=>some .o
 |.bool b=>some (.v b)
 |.int i _=>some (.int i)
 |.str x _=>some (.str x)
 |.bytes b _=>some (.zH b)
 |.float b _=>some (.zg b)
 |.ref a=>some (.ref a)
 |.type n=>some (.ty n)
 |_=>none
theorem RelV.abs(r:RelV x u):absV u=some x:=by cases x with|o=>cases r;rfl|v _=>cases r;rfl|int _=>obtain⟨t,rfl⟩:=r;rfl|str _=>obtain⟨t,rfl⟩:=r;rfl|zH _=>obtain⟨t,rfl⟩:=r;rfl|zg _=>obtain⟨t,rfl⟩:=r;rfl|ref _=>cases r;rfl|ty _=>cases r;rfl
theorem RelV.inj(r:RelV x u)(q:RelV y u):x=y:=Option.some.inj (r.abs.symm.trans q.abs)
theorem Vals.inj:∀{xs ys:List V}{us:List Value},Vals xs us->Vals ys us->xs=ys
 |_,_,_,.nil,.nil=>rfl
 |_,_,_,.cons r t,.cons r' t'=>by rw[r.inj r',Vals.inj t t']
section
variable{X:Cx}{aa:List (Addr×Obj)}{U:St}{H:Hp}{s:Shared}{a:Addr}{xs ys:List V}
theorem SqL.of{K:Fg}(h:H a=some (.lst xs)):SqL K H a xs:=.inl (.inl h)
theorem SqT.of{K:Fg}(h:H a=some (.tup xs)):SqT K H a xs:=.inl (.inl h)
theorem Inv.list(I:Inv X aa U H s)(h:SqL X.K H a xs):∃aq:List Value,Vals xs aq/\PlainL s.heap a aq.toArray/\xs.length<=sizeLine:=by
 rcases h with h|⟨o,aq,n,hk,hc,hd,hs,hz,r⟩
 .obtain⟨z,aq,n,r,e⟩:=h.ok I.z9;exact⟨aq,r,⟨_,n,e,rfl,rfl,rfl⟩,z⟩
 .refine⟨aq.toList,r,⟨o,n,I.kIn a o hk,hc,hd,by simpa using hs⟩,?_⟩;have e:=r.length;simp only[vf]at e
  lia
theorem Inv.tuple(I:Inv X aa U H s)(h:SqT X.K H a xs):∃aq:List Value,Vals xs aq/\IsTup s.heap a aq.toArray/\xs.length<=sizeLine:=by
 rcases h with h|⟨o,aq,n,hk,hc,hs,hz,r⟩
 .obtain⟨z,aq,r,p⟩:=h.ok I.z9;exact⟨aq,r,p.tup,z⟩
 .refine⟨aq.toList,r,⟨o,I.kIn a o hk,hc,n,by simpa using hs⟩,?_⟩;have e:=r.length;simp only[vf]at e
  lia
theorem Inv.KG(I:Inv X aa U H s)(h:SqL X.K H a xs)(h':SqL X.K H a ys):xs=ys:=by
 obtain⟨aq,r,⟨o,n,e,_,_,d⟩,_⟩:=I.list h;obtain⟨aS,r',⟨o',n',e',_,_,d'⟩,_⟩:=I.list h';rw[e]at e';cases e';rw[d]at d';injection d' with d1 _;have:=by simpa using congrArg Array.toList d1
 subst this;exact r.inj r'
theorem Inv.HR(I:Inv X aa U H s)(h:SqT X.K H a xs)(h':SqT X.K H a ys):xs=ys:=by
 obtain⟨aq,r,⟨o,e,_,n,d⟩,_⟩:=I.tuple h;obtain⟨aS,r',⟨o',e',_,n',d'⟩,_⟩:=I.tuple h';rw[e]at e';cases e';rw[d]at d';injection d' with d1 _;have:=by simpa using congrArg Array.toList d1
 subst this;exact r.inj r'
end
abbrev Cx.E3(X:Cx)(E:Value->Shared->Prop):Cx:={X with xe:=E}
theorem Cx.Ok.E3{X:Cx}(ok:X.Ok)(E:Value->Shared->Prop):(X.E3 E).Ok :=
 ⟨ok.mod,ok.kind,ok.glob,ok.blt,ok.above,ok.inj,ok.has,ok.zh,ok.hd,ok.frames,ok.yZ,ok.yW,ok.bs,ok.zA,ok.zx,ok.zy,ok.KR,ok.zo⟩
theorem Cx.Ok.Di{X:Cx}(ok:(X.E3 E).Ok):X.Ok :=
 ⟨ok.mod,ok.kind,ok.glob,ok.blt,ok.above,ok.inj,ok.has,ok.zh,ok.hd,ok.frames,ok.yZ,ok.yW,ok.bs,ok.zA,ok.zx,ok.zy,ok.KR,ok.zo⟩
section
variable{X:Cx}{aa:List (Addr×Obj)}{U:St}{H:Hp}{s:Shared}{E:Value->Shared->Prop}
theorem Inv.E3(I:Inv X aa U H s)(E:Value->Shared->Prop):Inv (X.E3 E) aa U H s:=⟨I.ok.E3 E,I.os,I.bare,I.base,I.loc,I.cell,I.free,I.zX,I.pin,I.z9,I.len⟩
theorem Inv.Di(I:Inv (X.E3 E) aa U H s):Inv X aa U H s:=⟨I.ok.Di,I.os,I.bare,I.base,I.loc,I.cell,I.free,I.zX,I.pin,I.z9,I.len⟩
theorem SP.Di(h:SP (X.E3 E) aa D f s'):SP X aa D f s':=by cases f with|next=>obtain⟨au,H',I,q⟩:=h;exact⟨au,H',I.Di,q⟩|brk=>obtain⟨au,H',I,q⟩:=h;exact⟨au,H',I.Di,q⟩|cont=>obtain⟨au,H',I,q⟩:=h;exact⟨au,H',I.Di,q⟩|ret u=>obtain⟨v,au,H',I,r,q⟩:=h;exact⟨v,au,H',I.Di,r,q⟩
end
section
variable{X:Cx}{st:Stmt}{rest:List Stmt}{t u:TS}{e:Expr}{te:TE}{pos:Pos}
def ZL:TS:=λD U H=>D.nx U H
def Jbh(t u:TS):TS:=λD U H=>t {D with nx:=u D} U H
theorem Sq:PSs X [] ZL:=λ_ _ U H _ I h=>wpAny_execs_nil ⟨U,H,I,h⟩
theorem O1(h1:PS X st t)(h2:PSs X rest u):PSs X (st::rest) (Jbh t u):=by intro aa s U H D I h;refine wpAny_execs_cons (thn (h1 aa s U H {D with nx:=u D} I h) λf s1 q=>?_);cases f with|next =>obtain⟨au,H',I',q⟩:=q;exact h2 aa s1 au H' D I' q|ret v=>exact q|brk=>exact q|cont=>exact q
theorem So(h1:PS X st t):PSs X [st] t:=by intro aa s U H D I h;refine wpAny_execs_cons (thn (h1 aa s U H D I h) λf s1 q=>?_);cases f with|next=>exact wpAny_execs_nil q|ret v=>exact q|brk=>exact q|cont=>exact q
theorem Inv.quiet(I:Inv X aa U H s):interactive X.env=false:=by simp[interactive,I.ok.kind]
def ZM(te:TE):TS:=λD U H=>te U H λ_ H1=>D.nx U H1
theorem Sr(he:PE X e te)(hs:swapsWith e none pos.line X.env=pure false:=by rfl):PS X (.Expr e pos) (ZM te):=by intro aa s U H D I h;exact wpAny_Expr_any (thn (he aa s U H _ I h) λv s1 ⟨x,H1,I1,r1,q1⟩=>⟨U,H1,I1,q1⟩) I.quiet hs
def Jb7(te:TE):TS:=λD U H=>te U H D.rt
theorem V3(he:PE X e te):PS X (.Return (some e) pos) (Jb7 te):=by intro aa s U H D I h;exact wpAny_Return_some (thn (he aa s U H _ I h) λv s1 ⟨x,H1,I1,r1,q1⟩=>⟨x,U,H1,I1,r1,q1⟩)
def Jcb(c:TT)(t u:TS):TS:=λD U H=>c U H λb H1=>if b=true then t D U H1 else u D U H1
theorem Z3(hc:PT X c tc)(ha:PSs X a t)(hb:PSs X b u):PS X (.If c a b pos) (Jcb tc t u):=by intro aa s U H D I h;refine wpAny_If (thn (hc aa s U H _ I h) λd s1 ao=>?_);obtain⟨H1,I1,q1⟩:= ao;cases d with|true=>exact ha aa s1 U H1 D I1 q1|false=>exact hb aa s1 U H1 D I1 q1
def Vp:TS:=λ_ _ _=>False
theorem O2:PS X st Vp:=λ_ _ _ _ _ _ h=>h.elim
end
abbrev TG:=V->St->Hp->(St->Hp->Prop)->Prop
abbrev TGs:=List V->St->Hp->(St->Hp->Prop)->Prop
def PG(X:Cx)(target:Expr)(t:TG):Prop :=
 ∀(aa:List (Addr×Obj))(s:Shared)(U:St)(H:Hp)(v:V)(u:Value)(Q:St->Hp->Prop),Inv X aa U H s->RelV v u->t v U H Q ->
  wpAny (model X.prog X.w) X.A (assign target X.env u) (λ_ s'=>NP X aa Q s') X.xe s
def PGs(X:Cx)(ts:List Expr)(t:TGs):Prop :=
 ∀(aa:List (Addr×Obj))(s:Shared)(U:St)(H:Hp)(vs:List V)(us:List Value)(Q:St->Hp->Prop),Inv X aa U H s->Vals vs us->t vs U H Q ->
  wpAny (model X.prog X.w) X.A (assignInOrder ((assignEach ts X.env).map (·.2)) us) (λ_ s'=>NP X aa Q s') X.xe s
abbrev UW:=V->V->V->Hp->(Hp->Prop)->Prop
def QL(X:Cx)(t:UW):Prop :=
 ∀(aa:List (Addr×Obj))(s:Shared)(U:St)(H:Hp)(o i v:V)(ov iv u:Value)(Q:Hp->Prop),Inv X aa U H s->RelV o ov->RelV i iv->RelV v u->t o i v H Q ->
  wpAny (model X.prog X.w) X.A (setItem ov iv u) (λ_ s'=>HP X aa U Q s') X.xe s
section
variable{X:Cx}{pos:Pos}
def P6(i:Nat):TG:=λv U H Q=>Q (U.set i (some v)) H
theorem SD(hN:X.N.Nodup)(hi:X.N[i]?=some x)(hx:Loc X.env.scope x)(hf:X.fn x=true\/X.env.scope.names.lookup x=some .local:=by first|exact .inl rfl|exact .inr rfl|assumption):PG X (.Name x pos) (P6 i):=by intro aa s U H v u Q I r h;exact wpAny_assign_Name (EK I hN hi hx r (λs' I'=>⟨_,H,I',h⟩) hf)
noncomputable def gNil:TGs:=λvs U H Q=>vs=[]/\Q U H
noncomputable def Xs(t:TG)(u:TGs):TGs:=λvs U H Q=>∃v r,vs=v::r/\t v U H λau H'=>u r au H' Q
theorem SA:PGs X [] gNil:=by intro aa s U H vs us Q I r h;obtain⟨e,h⟩:=h;subst e;cases r;exact assignInOrder_nil ⟨U,H,I,h⟩
theorem DK(h1:PG X e t)(h2:PGs X es u)
  (hs:(assignEach (e::es) X.env).map (·.2)=assign e X.env::(assignEach es X.env).map (·.2):=by rfl):PGs X (e::es) (Xs t u):=by
 intro aa s U H vs us Q I r h;obtain⟨v,vr,e1,h⟩:=h;subst e1;cases r with|cons r rr =>rw[hs];refine assignInOrder_cons (thn (h1 aa s U H _ _ _ I r h) λ_ s1 ao=>?_);obtain⟨iK,H1,I1,q1⟩:= ao;exact h2 aa s1 iK H1 _ _ Q I1 rr q1
def gTup(K:Fg)(n:Nat)(t:TGs):TG:=λv U H Q=>∃a xs,v=.ref a/\SqT K H a xs/\xs.length=n/\t xs U H Q
theorem V8(hc:X.calm=true)(h:PGs X es t)
  (hn:(assignEach es X.env).length=n:=by rfl) (dH:(assignEach es X.env).findIdx? (·.1)=none:=by rfl):PG X (.Tuple es k pos) (gTup X.K n t):=by
 intro aa s U H v u Q I r hw;obtain⟨a,xs,e1,hq,hl,hw⟩:=hw;subst e1;cases r;obtain⟨aq,rv,ht,hz⟩:=I.tuple hq;refine assign_Tuple_tuple (I.ok.hd hc) ht (by simp[hn,<- hl,rv.length]) dH λh' hx=>?_
 have I1:Inv X aa U H {s with heap:=h' }:=I.kept λb o e=>hx b o (ur (t9 e)) e
 exact h aa _ U H xs _ Q I1 (by simpa using rv) hw
def Jay(to ti:TE)(t:UW):TG:=λv U H Q=>to U H λo H1=>ti U H1 λi H2=>t o i v H2 λH3=>Q U H3
theorem V9(ho:PE X o to)(hi:PE X i ti)(hs:QL X t)
  (ha:∀v,assign (.Subscript o i pos) X.env v=(do
   let ov <- holding [v] (eval o X.env)
   let iv <- holding [v,ov] (eval i X.env)
   standAt pos
   holding [v,ov,iv] (setItem ov iv v)
   release [v,ov,iv] []):=by intro _;rfl):PG X (.Subscript o i pos) (Jay to ti t):=by
 intro aa s U H v u Q I r h;rw[ha];refine tM (wpAny_holding (thn (ho aa s U H _ I h) λov s1 ao=>?_));obtain⟨x,H1,I1,r1,q1⟩:= ao;refine tM (wpAny_holding (thn (hi aa s1 U H1 _ I1 q1) λiv s2 ao=>?_));obtain⟨y,H2,I2,r2,q2⟩:= ao;refine tM (wpAny_standAt (tM (wpAny_holding (thn (hs aa s2 U H2 x y v ov iv u _ I2 r1 r2 r q2) λ_ s3 ao=>?_))));obtain⟨H3,I3,q3⟩:= ao;exact wpAny_release ⟨U,H3,I3,q3⟩
def Vv(te:TE)(g:TG):TS:=λD U H=>te U H λx H1=>g x U H1 D.nx
theorem Q5(he:PE X e te)(hg:PG X tg g)(hs:swapsWithSole [tg] e pos.line X.env=pure false:=by rfl)(hw:swappedStores [tg] e X.env=pure none:=by rfl)
  (h1:(assignEach [tg] X.env).map (·.2)=[assign tg X.env]:=by rfl):PS X (.Assign [tg] e pos) (Vv te g):=by
 intro aa s U H D I h;refine wpAny_Assign_stores (thn (he aa s U H _ I h) λv s1 ao=>?_) hs hw;obtain⟨x,H1,I1,r1,q1⟩:= ao;rw[h1];exact thn (hg aa s1 U H1 x v _ I1 r1 q1) λ_ s2 q=>q
theorem V2(hN:X.N.Nodup)(hi:X.N[i]?=some x)(hx:Loc X.env.scope x)(he:PE X e te)(hs:swapsWith e (some (.Name x aR)) pos.line X.env=pure false:=by rfl)(hf:X.fn x=true\/X.env.scope.names.lookup x=some .local:=by first|exact .inl rfl|exact .inr rfl|assumption) :
  PS X (.Assign [.Name x aR] e pos) (Vv te (P6 i)):=by
 intro aa s U H D I h;refine wpAny_Assign_Name (thn (he aa s U H _ I h) λv s1 ao=>?_) hs;obtain⟨y,H1,I1,r1,q1⟩:= ao;exact EK I1 hN hi hx r1 (λs2 I2=>⟨_,H1,I2,q1⟩) hf
end
section
variable{X:Cx}{pos:Pos}
end
structure It where
 go:Nat->Hp->Prop
 yV:Nat->Hp->V->Hp->Prop
 stop:Nat->Hp->Prop
def Jj(X:Cx)(aa:List (Addr×Obj))(H:Hp)(b:Addr):Prop :=
 H b=none/\b≠X.env.locals/\b∉X.fs/\(b∈X.ex\/X.zZ.heap.objs.size<=b)/\(∀x c,X.env.cells.lookup x=some c->c≠b)/\∀p∈X.pn++aa,p.1≠b
theorem Inv.Qd(I:Inv X aa U H s)(hb:s.heap.objs.size<=b)(hn:H' b=none):Jj X aa H' b:=by
 refine⟨hn,vS (uf I.lt hb),I.nofs hb,.inr (uz I.sz hb),λx c e z=>?_,λp hp z=>?_⟩
 .obtain⟨v,q⟩:=I.cell x c e;exact absurd (uf q.lt (by rw[z];exact hb)) (uR _)
 .exact absurd (uf (t9 (I.pin p hp).1) (by rw[z];exact hb)) (uR _)
structure Turn(P:Program)(w:World)(K:Fg)(tg:Expr)(J:It)(fp:List Addr)(it:Addr)(tn:Nat->Heap->Prop):Prop where
 mem:it∈fp
 obj:∀i h,tn i h->∀b∈fp,∃o,h.get? b=some o/\∀v,o.data≠.cell v
 keep:∀i h h',tn i h->(∀b∈fp,∀o,h.get? b=some o->h'.get? b=some o)->tn i h'
 item:∀(X:Cx),X.prog=P->X.w=w->X.K=K->X.calm=true->∀(i:Nat)(aa:List (Addr×Obj))(s:Shared)(U:St)(H:Hp)(E:Value->Shared->Prop),Inv X aa U H s->(∀b∈fp,Jj X aa H b)->tn i s.heap->J.go i H ->
  wpAny (model P w) X.A (pyNext (.ref it)) (λr s1=>∃u,r=some u /\
   wpAny (model P w) X.A (letOwnedTupleGo tg (.ref it) u) (λ_ s2=>∃x H',Inv X aa U H' s2/\RelV x u/\J.yV i H x H'/\tn (i+1) s2.heap/\∀b∈fp,H' b=none) E s1) E s
 done:∀(X:Cx),X.prog=P->X.w=w->X.K=K->X.calm=true->∀(i:Nat)(aa:List (Addr×Obj))(s:Shared)(U:St)(H:Hp)(E:Value->Shared->Prop),Inv X aa U H s->(∀b∈fp,Jj X aa H b)->tn i s.heap->J.stop i H ->
  wpAny (model P w) X.A (pyNext (.ref it)) (λr s1=>r=none/\Inv X aa U H s1) E s
 self:∀(A:Around)(i:Nat)(s:Shared)(Q:Value->Shared->Prop)(E:Value->Shared->Prop),tn i s.heap->Q (.ref it) s->wpAny (model P w) A (pyIter (.ref it)) Q E s
abbrev TI:=St->Hp->(It->Hp->Prop)->Prop
def PIE(X:Cx)(aa:List (Addr×Obj))(U:St)(tg:Expr)(R:It->Hp->Prop)(j4:Value)(s2:Shared):Prop :=
 ∃(it:Addr)(fp:List Addr)(tn:Nat->Heap->Prop)(J:It)(H':Hp),j4=.ref it/\Inv X aa U H' s2/\Turn X.prog X.w X.K tg J fp it tn/\tn 0 s2.heap/\(∀b∈fp,Jj X aa H' b)/\R J H'
def PI(X:Cx)(tg aC:Expr)(wi:TI):Prop :=
 ∀(aa:List (Addr×Obj))(s:Shared)(U:St)(H:Hp)(R:It->Hp->Prop),Inv X aa U H s->wi U H R ->
  wpAny (model X.prog X.w) X.A (eval aC X.env) (λv s1=>wpAny (model X.prog X.w) X.A (pyIter v) (PIE X aa U tg R) X.xe s1) X.xe s
theorem P0(ho:s.heap.get? it=some o)(hc:o.cls=.type n)(hd:o.data=.fields vs)
    (hn:["enumerate","zip","dict_itemiterator","dict_reverseitemiterator","odict_iterator","itertools.zip_longest","itertools.pairwise"].contains n=false) (hQ:Q () s):wpAny M A (letOwnedTupleGo tg (.ref it) u) Q E s:=by
  unfold letOwnedTupleGo;cases tg<;>first
    |exact tS hQ
    | (cases u <;> first
        |exact tS hQ
        | (refine tM (wpAny_load ho ?_)
           rw[hc,hd];show wpAny M A (if(["enumerate","zip","dict_itemiterator","dict_reverseitemiterator","odict_iterator","itertools.zip_longest","itertools.pairwise"].contains n&&vs[0]?==some (rawInt _))=true then _ else _) Q E s;rw[if_neg (by intro h;rw[hn,Bool.false_and]at h;cases h)];exact tS hQ))
def Itl(K:Fg)(a:Addr):It :=
 ⟨λi H=>∃xs x,SqL K H a xs/\xs[i]?=some x,λi H x H'=>H'=H/\∀xs,SqL K H a xs->xs[i]?=some x,λi H=>∃xs,SqL K H a xs/\xs.length<=i⟩
def Itt(K:Fg)(a:Addr):It :=
 ⟨λi H=>∃xs x,SqT K H a xs/\xs[i]?=some x,λi H x H'=>H'=H/\∀xs,SqT K H a xs->xs[i]?=some x,λi H=>∃xs,SqT K H a xs/\xs.length<=i⟩
def Itr(lo:Int)(n:Nat):It:=⟨λi _=>i<n,λi H x H'=>H'=H/\x=.int (lo+i),λi _=>n<=i⟩
theorem Ms{K:Fg}(a it:Addr):Turn P w K tg (Itl K a) [it] it (λi h=>h.IsListIter it a i) where
 mem:=by simp
 obj:=λi h st b hb=>by
  have e:=by simpa using hb
  subst e;obtain⟨o,e,c,d⟩:=st;exact⟨o,e,λv z=>by rw[d]at z;cases z⟩
 keep:=λi h h' st k=>st.at λo e=>k it (by simp) o e
 item:=by
  intro X hP hw hK hc i aa s U H E I hf st hg;subst hP hw hK;obtain⟨xs,x,hq,hx⟩:=hg;obtain⟨aq,rv,p,hz⟩:=I.list hq;obtain⟨u,hu,ru⟩:=rv.get hx;obtain⟨f0,f1,f2,f3,f4,f5⟩:=hf it (by simp);refine wpAny_pyNext_list_item st p.isList (by simpa using hu) λh' dQ sb=>?_
  have I1:Inv X aa U H {s with heap:=h' }:=I.turned (λb o hb e=>(sb.2 b hb).trans e) f0 f1 f3 f4 f5;obtain⟨o,e,c,d⟩:=id dQ;exact⟨u,rfl,P0 e c d (by decide) ⟨x,H,I1,ru,⟨rfl,λys hy=>by rw[I.KG hy hq];exact hx⟩,dQ,λb hb=>(hf b hb).1⟩⟩
 done:=by intro X hP hw hK hc i aa s U H E I hf st hg;subst hP hw hK;obtain⟨xs,hq,hx⟩:=hg;obtain⟨aq,rv,p,hz⟩:=I.list hq;obtain⟨f0,f1,f2,f3,f4,f5⟩:=hf it (by simp);have hl:=rv.length;exact wpAny_pyNext_list_end (I.ok.hd hc) st p.isList (by simp;lia) λh' eb=>⟨rfl,I.turned (λb o hb e=>eb b o hb e) f0 f1 f3 f4 f5⟩
 self:=λ_ _ _ _ _ st h=>wpAny_pyIter_listiter st h
theorem Lu{K:Fg}(a it:Addr):Turn P w K tg (Itt K a) [it] it (λi h=>h.IsTupleIter it a i) where
 mem:=by simp
 obj:=λi h st b hb=>by
  have e:=by simpa using hb
  subst e;obtain⟨o,e,c,d⟩:=st;exact⟨o,e,λv z=>by rw[d]at z;cases z⟩
 keep:=λi h h' st k=>st.at λo e=>k it (by simp) o e
 item:=by
  intro X hP hw hK hc i aa s U H E I hf st hg;subst hP hw hK;obtain⟨xs,x,hq,hx⟩:=hg;obtain⟨aq,rv,p,hz⟩:=I.tuple hq;obtain⟨u,hu,ru⟩:=rv.get hx;obtain⟨f0,f1,f2,f3,f4,f5⟩:=hf it (by simp);refine wpAny_pyNext_tuple_item st (show s.heap.IsTuple a aq.toArray from p) (by simpa using hu) λh' dQ sb=>?_
  have I1:Inv X aa U H {s with heap:=h' }:=I.turned (λb o hb e=>(sb.2 b hb).trans e) f0 f1 f3 f4 f5;obtain⟨o,e,c,d⟩:=id dQ;exact⟨u,rfl,P0 e c d (by decide) ⟨x,H,I1,ru,⟨rfl,λys hy=>by rw[I.HR hy hq];exact hx⟩,dQ,λb hb=>(hf b hb).1⟩⟩
 done:=by intro X hP hw hK hc i aa s U H E I hf st hg;subst hP hw hK;obtain⟨xs,hq,hx⟩:=hg;obtain⟨aq,rv,p,hz⟩:=I.tuple hq;obtain⟨f0,f1,f2,f3,f4,f5⟩:=hf it (by simp);have hl:=rv.length;exact wpAny_pyNext_tuple_end (I.ok.hd hc) st (show s.heap.IsTuple a aq.toArray from p) (by simp;lia) λh' eb=>⟨rfl,I.turned (λb o hb e=>eb b o hb e) f0 f1 f3 f4 f5⟩
 self:=λ_ _ _ _ _ st h=>wpAny_pyIter_tupleiter st h
theorem Lv{K:Fg}(it:Addr)(lo:Int)(n:Nat):Turn P w K tg (Itr lo n) [it] it (λi h=>IsRangeIter h it (lo+(i:Nat)*1) ((n:Int)-(i:Nat)) 1) where
 mem:=by simp
 obj:=λi h st b hb=>by
  have e:=by simpa using hb
  subst e;exact⟨_,st,λv z=>by have z':=z;cases z'⟩
 keep:=λi h h' st k=>k it (by simp) _ st
 item:=by
  intro X hP hw hK hc i aa s U H E I hf st hg;subst hP hw hK;obtain⟨f0,f1,f2,f3,f4,f5⟩:=hf it (by simp);have W:=Walks.range (prog:=X.prog) (w:=X.w) (I.ok.hd hc) it lo 1 n;refine W.item i s _ _ hg st λv h' tk hv dQ kk=>?_
  obtain⟨t,rfl⟩:=hv;have I1:Inv X aa U H {s with heap:=h',toks:=tk}:=I.turned (λb o hb e=>kk b o (by simpa using hb) e) f0 f1 f3 f4 f5;refine⟨_,rfl,P0 dQ rfl rfl (by decide) ⟨.int (lo+i),H,I1,⟨t,?_⟩,⟨rfl,rfl⟩,dQ,λb hb=>(hf b hb).1⟩⟩;rw[Int.mul_one]
 done:=by intro X hP hw hK hc i aa s U H E I hf st hg;subst hP hw hK;obtain⟨f0,f1,f2,f3,f4,f5⟩:=hf it (by simp);exact wpAny_pyNext_range_end (I.ok.hd hc) st (by have:n<=i:=hg;lia) λh' eb=>⟨rfl,I.turned (λb o hb e=>eb b o hb e) f0 f1 f3 f4 f5⟩
 self:=λ_ _ _ _ _ st h=>wpAny_pyIter_rangeiter st h
section
variable{X:Cx}{tg:Expr}
theorem OU{lo hi:Int}(I:Inv X aa U H s)(h1:-(2^62)<=lo)(h2:lo<2^62)(h3:-(2^62)<=hi)(h4:hi<2^62)
  (q:R (Itr lo (hi-lo).toNat) H):wpAny (model X.prog X.w) X.A (pyIter (.ref s.heap.objs.size)) (PIE X aa U tg R) E {s with heap:=s.heap.push {cls:=.type "range",data:=.fields #[.int lo t,.int hi u,.int 1 v]},toks:=tk}:=by
 refine wpAny_pyIter_range (IsRange.new ..) (small_one h1 h2 h3 h4) ?_;have I1:Inv X aa U H {s with heap:=s.heap.push {cls:=.type "range",data:=.fields #[.int lo t,.int hi u,.int 1 v]},toks:=tk}:=I.kept λb o e=>tN _ e
 refine⟨(s.heap.push {cls:=.type "range",data:=.fields #[.int lo t,.int hi u,.int 1 v]}).objs.size,[(s.heap.push {cls:=.type "range",data:=.fields #[.int lo t,.int hi u,.int 1 v]}).objs.size],_,_,H,rfl,
  I1.kept λb o e=>tN _ e,Lv _ lo (hi-lo).toNat,?_,λb hb=>?_,q⟩
 .have e1:lo+((0:Nat):Int)*1=lo:=by simp
  have e2:(((hi-lo).toNat:Nat):Int)-((0:Nat):Int)=Builtin.Range.rangeSize lo hi 1:=by rw[rangeSize_one];split<;>lia
  show IsRangeIter _ _ (lo+((0:Nat):Int)*1) ((((hi-lo).toNat:Nat):Int)-((0:Nat):Int)) 1;rw[e1,e2];exact tY _ rfl
 .have e:b=(s.heap.push {cls:=.type "range",data:=.fields #[.int lo t,.int hi u,.int 1 v]}).objs.size:=by simpa using hb
  subst e;exact I1.Qd (uh _) (I1.z9.fresh (uh _))
def Jap(ta:TA):TI:=λU H R=>ta U H λvs H1=>∃j:Int,vs=[.int j]/\-(2^62)<=j/\j<2^62/\R (Itr 0 j.toNat) H1
theorem MQ{p pos:Pos}(hg:Gl X "range")(hm:X.mg "range"=none)(ha:PA X [a] ta)(hs:starEach [a] X.env=[(false,eval a X.env)]:=by rfl):PI X tg (.Call (.Name "range" p) [a] [] pos) (Jap ta):=by intro aa s U H R I h;refine Call_ (Dm I hg hm boot_range (callWith_type1 (thn (ha pos aa s U H _ I h) λus s1 ao=>?_) hs rfl));obtain⟨vs,H1,I1,r1,q1⟩:= ao;obtain⟨j,e,q1,q2,q⟩:=q1;subst e;cases r1 with|cons r rr =>cases rr;obtain⟨t,rfl⟩:=r;exact call_range_1 (OU I1 (by lia) (by lia) q1 q2 (by simpa using q))
def Jce(wi:TI)(g:TG)(tb:TS):TS:=λD U H=>wi U H λJ H1=>∃W:Nat->Nat->St->Hp->Prop,(∃m,W 0 m U H1)/\∀i m U H,W i m U H ->
 (J.stop i H/\D.nx U H)\/(J.go i H/\∃N:St->Hp->Prop,(∀au H',N au H'->∃m',m'<m/\W (i+1) m' au H')/\∀x H',J.yV i H x H'->g x U H' λfU H2=>tb {D with nx:=N,ct:=N,bk:=D.nx} fU H2)
noncomputable def Ii(fp:List Addr)(h:Heap):List (Addr×Obj):=fp.filterMap λb=>(h.get? b).map λo=>(b,o)
theorem C9(hb:b∈fp)(e:h.get? b=some o):(b,o)∈Ii fp h:=vU.mpr ⟨b,hb,by rw[e];rfl⟩
theorem Nc(hp:p∈Ii fp h):p.1∈fp/\h.get? p.1=some p.2:=by obtain⟨b,hb,e⟩:=vU.mp hp;cases q:h.get? b with|none=>rw[q]at e;cases e|some o =>rw[q]at e;have e':=Option.some.inj e;subst e';exact⟨hb,q⟩
theorem Inv.pinned(I:Inv X aa U H s)(hf:∀b∈fp,Jj X aa H b)(ho:∀b∈fp,∃o,s.heap.get? b=some o/\∀v,o.data≠.cell v):Inv X (aa++Ii fp s.heap) U H s :=
 I.Hf λp hp=>(tW.mp hp).elim (λz=>I.pin p (ue _ z)) λz=>by obtain⟨hb,e⟩:=Nc z;obtain⟨f0,f1,f2,_⟩:=hf p.1 hb;obtain⟨o,e',d⟩:=ho p.1 hb;rw[e]at e';cases e';exact⟨e,f0,f1,f2,d⟩
theorem Inv.EJ(I:Inv X (aa++pl) U H s):Inv X aa U H s:=I.Hf λp hp=>I.pin p (ue _ (ud _ hp))
theorem V4(hp:PassesOwn (model X.prog X.w) X.A X.env X.xe)(hc:X.calm=true)(hi:PI X tg aC wi)(hg:PG X tg g)(hb:PSs X body tb)
  (hs:∀x,foldedSetIterable aC X.env x=pure x:=by intro _;rfl):PS X (.For tg aC body [] pos) (Jce wi g tb):=by
 intro aa s U H D I h;refine wpAny_For (thn (hi aa s U H _ I h) λv s1 h1=>thn h1 λj4 s2 h2=>?_) hs;obtain⟨it,fp,tn,J,H2,e,I2,T,sj,f2,W,⟨m0,w0⟩,turn⟩:=h2;subst e;have dR:∀{H':Hp},(∀b∈fp,H' b=none)->∀b∈fp,Jj X aa H' b:=λhn b hb=>⟨hn b hb,(f2 b hb).2⟩
 refine codeAny_forLoop_any (λn s'=>∃i au H',Inv X aa au H' s'/\tn i s'.heap/\(∀b∈fp,H' b=none)/\W i n au H') ?_ m0 ⟨0,U,H2,I2,sj,λb hb=>(f2 b hb).1,w0⟩
 rintro n s3 ⟨i,iL,H3,I3,st3,fr3,w3⟩
 rcases turn i n iL H3 w3 with⟨stop,qn⟩|⟨go,N,hN,step⟩
 .refine wpAny_passesOwn hp (thn (T.done X rfl rfl rfl hc i aa s3 iL H3 X.xe I3 (dR fr3) st3 stop) λr s4 ao=>?_);obtain⟨hr,I4⟩:= ao;subst hr;exact wpAny_execs_nil ⟨iL,H3,I4,qn⟩
 .refine wpAny_passesOwn hp (thn (T.item X rfl rfl rfl hc i aa s3 iL H3 X.xe I3 (dR fr3) st3 go) λr s4 ao=>?_);obtain⟨u,hr,h4⟩:= ao;subst hr;refine wpAny_passesOwn hp (thn h4 λ_ s5 ao=>?_);obtain⟨x,H5,I5,r5,y5,lX,qb⟩:= ao;have oV:=I5.pinned (dR qb) (T.obj _ _ lX);refine wpAny_passesOwn hp (thn (hg _ s5 iL H5 x u _ oV r5 (step x H5 y5)) λ_ s6 ao=>?_);obtain⟨sD,H6,I6,q6⟩:= ao;refine wpAny_passesOwn hp (thn (hb _ s6 sD H6 _ I6 q6) λf s7 q7=>?_);have again:∀{fV:St}{H7:Hp},Inv X (aa++Ii fp s5.heap) fV H7 s7->N fV H7->∃m,m<n/\∃i au H',Inv X aa au H' s7/\tn i s7.heap/\(∀b∈fp,H' b=none)/\W i m au H':=λ{fV H7} I7 n7=>by obtain⟨m',hm,w7⟩:=hN fV H7 n7;refine⟨m',hm,i+1,fV,H7,I7.EJ,T.keep _ _ _ lX λb hb o e=>(I7.pin (b,o) (ue _ (ue _ (C9 hb e)))).1,λb hb=>?_,w7⟩;obtain⟨o,e,d⟩:=T.obj _ _ lX b hb;exact(I7.pin (b,o) (ue _ (ue _ (C9 hb e)))).2.1
  cases f with|next=>obtain⟨fV,H7,I7,n7⟩:=q7;exact again I7 n7|cont=>obtain⟨fV,H7,I7,n7⟩:=q7;exact again I7 n7|brk=>obtain⟨fV,H7,I7,q7⟩:=q7;exact⟨fV,H7,I7.EJ,q7⟩|ret v=>obtain⟨x7,fV,H7,I7,r7,q7⟩:=q7;exact⟨x7,fV,H7,I7.EJ,r7,q7⟩
end
abbrev R2:=V->V->Hp->VK->Prop
def OpR(X:Cx)(f:Value->Value->Sem Value)(r:R2):Prop :=
 ∀(aa:List (Addr×Obj))(s:Shared)(U:St)(H:Hp)(x y:V)(v u:Value)(Q:VK),Inv X aa U H s->RelV x v->RelV y u->r x y H Q ->
  wpAny (model X.prog X.w) X.A (f v u) (EP X aa U Q) X.xe s
def BZ(X:Cx)(f:Value)(r:List V->Hp->VK->Prop):Prop :=
 ∀(aa:List (Addr×Obj))(s:Shared)(U:St)(H:Hp)(xs:List V)(us:List Value)(Q:VK),Inv X aa U H s->Vals xs us->r xs H Q ->
  wpAny (model X.prog X.w) X.A (call f us) (EP X aa U Q) X.xe s
def TruR(X:Cx)(r:V->Hp->(Bool->Hp->Prop)->Prop):Prop :=
 ∀(aa:List (Addr×Obj))(s:Shared)(U:St)(H:Hp)(x:V)(v:Value)(Q:Bool->Hp->Prop),Inv X aa U H s->RelV x v->r x H Q ->
  wpAny (model X.prog X.w) X.A (truthy v) (TP X aa U Q) X.xe s
def tOp(r:R2)(ta tb:TE):TE:=λU H Q=>ta U H λx H1=>tb U H1 λy H2=>r x y H2 Q
def rI(C:Int->Int->Prop)(g:Int->Int->V):R2:=λx y H Q=>∃i j,x=.int i/\y=.int j/\C i j/\Q (g i j) H
def rI0(g:Int->Int->V):R2:=λx y H Q=>∃i j,x=.int i/\y=.int j/\Q (g i j) H
section
variable{X:Cx}{a b c:Expr}{ta tb tc:TE}{pos:Pos}
theorem Jba(ha:PE X a ta)(hb:PE X b tb){R:V->V->Hp->Prop}(I:Inv X aa U H s)
  (h:ta U H λx H1=>tb U H1 λy H2=>R x y H2) {f:Value->Value->Sem Value}
  (hf:∀v u s2 x y H2,Inv X aa U H2 s2->RelV x v->RelV y u->R x y H2->wpAny (model X.prog X.w) X.A (f v u) Q X.xe s2) :
  wpAny (model X.prog X.w) X.A (eval a X.env) (λv az=>wpAny (model X.prog X.w) X.A (eval b X.env) (λu cR=>wpAny (model X.prog X.w) X.A (f v u) Q X.xe cR) X.xe az) X.xe s:=by
 refine thn (ha aa s U H _ I h) λv s1 ao=>?_
 obtain⟨x,H1,I1,r1,q1⟩:= ao;refine thn (hb aa s1 U H1 _ I1 q1) λu s2 ao=>?_
 obtain⟨y,H2,I2,r2,q2⟩:= ao;exact hf v u s2 x y H2 I2 r1 r2 q2
theorem Z5(ho:OpR X (binaryOp op) r)(ha:PE X a ta)(hb:PE X b tb):PE X (.BinOp a op b pos) (tOp r ta tb):=by intro aa s U H Q I h;exact wpAny_BinOp (Jba ha hb I h λv u s2 x y H2 I2 rx ry q=>ho aa s2 U H2 x y v u Q I2 rx ry q)
theorem opI{g:Int->Int->Int}
  (fT:∀(i j:Int)(t u:Tok)(s:Shared)(Q:Value->Shared->Prop)(E:Value->Shared->Prop),C i j->Q (.int (g i j) s.toks) {s with toks:=s.toks+1}->wpAny (model X.prog X.w) X.A (f (.int i t) (.int j u)) Q E s) :
  OpR X f (rI C λi j=>.int (g i j)):=by
 intro aa s U H x y v u Q I rx ry h;obtain⟨i,j,rfl,rfl,hc,q⟩:=h;obtain⟨t,rfl⟩:=rx;obtain⟨t',rfl⟩:=ry;exact fT i j t t' s _ _ hc ⟨.int (g i j),H,I.tok _,⟨_,rfl⟩,q⟩
theorem Jbr{g:Int->Int->Int}
  (fT:∀(i j:Int)(t u:Tok)(s:Shared)(Q:Value->Shared->Prop)(E:Value->Shared->Prop),Q (.int (g i j) s.toks) {s with toks:=s.toks+1}->wpAny (model X.prog X.w) X.A (f (.int i t) (.int j u)) Q E s) :
  OpR X f (rI0 λi j=>.int (g i j)):=by
 intro aa s U H x y v u Q I rx ry h;obtain⟨i,j,rfl,rfl,q⟩:=h;obtain⟨t,rfl⟩:=rx;obtain⟨t',rfl⟩:=ry;exact fT i j t t' s _ _ ⟨.int (g i j),H,I.tok _,⟨_,rfl⟩,q⟩
theorem Jae{g:Int->Int->Bool}
  (fT:∀(i j:Int)(t u:Tok)(s:Shared)(Q:Value->Shared->Prop)(E:Value->Shared->Prop),Q (.bool (g i j)) s->wpAny (model X.prog X.w) X.A (f (.int i t) (.int j u)) Q E s) :
  OpR X f (rI0 λi j=>.v (g i j)):=by
 intro aa s U H x y v u Q I rx ry h;obtain⟨i,j,rfl,rfl,q⟩:=h;obtain⟨t,rfl⟩:=rx;obtain⟨t',rfl⟩:=ry;exact fT i j t t' s _ _ ⟨.v (g i j),H,I,rfl,q⟩
def JbB(i j:Int):Prop:=0<j/\j<1073741824
def JbA(i j:Int):Prop:=0<=j/\j<=1000000/\i.natAbs<2^64
def YO(i j:Int):Prop:=(-(2^64)<i/\i<2^64)\/(-(2^64)<j/\j<2^64)
theorem YO.ok(h:YO i j):IntMulOk i j:=by
 rcases h with⟨h1,h2⟩|⟨h1,h2⟩
 .exact .of_left (intBits_le_64 h1 h2)
 .exact .of_right (intBits_le_64 h1 h2)
theorem WB:OpR X (binaryOp .Add) (rI0 λi j=>.int (i+j)):=Jbr λ_ _ _ _ _ _ _ q=>add_int q
theorem Wr:OpR X (binaryOp .Sub) (rI0 λi j=>.int (i-j)):=Jbr λ_ _ _ _ _ _ _ q=>sub_int q
theorem SS:OpR X (binaryOp .FloorDiv) (rI JbB λi j=>.int (i/j)):=opI λi j _ _ _ _ _ hc q=>by have h1:=hc.1;have h2:j<1073741824:=hc.2;exact floordiv_int (by lia) (by rw[Int.fdiv_eq_ediv_of_nonneg i (by lia)];exact q) (.inl (PyProof.noPylong_small (by lia)))
theorem Ww:OpR X (binaryOp .Mod) (rI (λ_ j=>0<j) λi j=>.int (i%j)):=opI λi j _ _ _ _ _ hc q=>by have h1:(0:Int)<j:=hc;exact mod_int' (by lia) (by rw[Int.fmod_eq_emod_of_nonneg i (by lia)];exact q)
theorem Ws:OpR X (binaryOp .Pow) (rI JbA λi j=>.int (i^j.toNat)):=opI λ_ _ _ _ _ _ _ hc q=>pow_int_small hc.1 hc.2.1 hc.2.2 q
end
noncomputable def QW:V->V->Bool
 |.o,.o=>true|.o,.int _=>true|.int _,.o=>true|.o,.v _=>true|.v _,.o=>true|.o,.str _=>true|.str _,.o=>true
 |.int _,.int _=>true|.v _,.v _=>true|.str _,.str _=>true|.zH _,.zH _=>true
 |.int _,.str _=>true|.str _,.int _=>true|.v _,.str _=>true|.str _,.v _=>true
 |_,_=>false
def rEq:R2:=λx y H Q=>QW x y=true/\Q (.v (decide (x=y))) H
def rNe:R2:=λx y H Q=>QW x y=true/\Q (.v (!decide (x=y))) H
theorem Ob:decide (V.int i=V.int j)=(i==j):=by rw[vc];simp
theorem RE:decide (V.v i=V.v j)=(i==j):=by rw[vc];simp
theorem Oa:decide (V.str i=V.str j)=(i==j):=by rw[vc];simp
theorem Oc:decide (V.zH i=V.zH j)=(i.toList==j.toList):=by rw[vc];cases i;cases j;simp
section
variable{X:Cx}{a b c:Expr}{ta tb tc:TE}{pos:Pos}
theorem AK(I:Inv X aa U H s)(q:Q (.v k) H)(e:k=k'):EP X aa U Q (.bool k') s:=by subst e;exact⟨.v k,H,I,rfl,q⟩
theorem Wz:OpR X (compareOp .Eq) rEq:=by
 intro aa s U H x y v u Q I rx ry h;obtain⟨hs,q⟩:=h;cases x with
 |o =>cases rx;cases y with|o=>cases ry;exact PySem.EqNone.eq_none_none (AK I q (by simp))|v j=>cases ry;exact PySem.EqNone.eq_none_bool (AK I q (by simp))|int j=>obtain⟨t',rfl⟩:=ry;exact PySem.EqNone.eq_none_int (AK I q (by simp))|str j=>obtain⟨t',rfl⟩:=ry;exact PySem.EqNone.eq_none_str (AK I q (by simp))|_=>exact absurd (show false=true from hs) uu
 |v i =>cases rx;cases y with|o=>cases ry;exact PySem.EqNone.eq_bool_none (AK I q (by simp))|v j=>cases ry;exact eq_bool (AK I q RE)|str j=>obtain⟨t',rfl⟩:=ry;exact PySem.EqMixed.eq_bool_str (AK I q (by simp))|_=>exact absurd (show false=true from hs) uu
 |int i =>obtain⟨t,rfl⟩:=rx;cases y with|o=>cases ry;exact PySem.EqNone.eq_int_none (AK I q (by simp))|int j=>obtain⟨t',rfl⟩:=ry;exact eq_int (AK I q Ob)|str j=>obtain⟨t',rfl⟩:=ry;exact PySem.EqMixed.eq_int_str (AK I q (by simp))|_=>exact absurd (show false=true from hs) uu
 |str i =>obtain⟨t,rfl⟩:=rx;cases y with|o=>cases ry;exact PySem.EqNone.eq_str_none (AK I q (by simp))|v j=>cases ry;exact PySem.EqMixed.eq_str_bool (AK I q (by simp))|int j=>obtain⟨t',rfl⟩:=ry;exact PySem.EqMixed.eq_str_int (AK I q (by simp))|str j=>obtain⟨t',rfl⟩:=ry;exact eq_str (AK I q Oa)|_=>exact absurd (show false=true from hs) uu
 |zH i =>obtain⟨t,rfl⟩:=rx;cases y with|zH j=>obtain⟨t',rfl⟩:=ry;exact PySem.W.eq_bytes (AK I q Oc)|_=>exact absurd (show false=true from hs) uu
 |_=>cases y<;>exact absurd (show false=true from hs) uu
theorem Wv:OpR X (compareOp .NotEq) rNe:=by
 intro aa s U H x y v u Q I rx ry h;obtain⟨hs,q⟩:=h;cases x with
 |o =>cases rx;cases y with|o=>cases ry;exact PySem.EqNone.ne_none_none (AK I q (by simp))|v j=>cases ry;exact PySem.EqNone.ne_none_bool (AK I q (by simp))|int j=>obtain⟨t',rfl⟩:=ry;exact PySem.EqNone.ne_none_int (AK I q (by simp))|str j=>obtain⟨t',rfl⟩:=ry;exact PySem.EqNone.ne_none_str (AK I q (by simp))|_=>exact absurd (show false=true from hs) uu
 |v i =>cases rx;cases y with|o=>cases ry;exact PySem.EqNone.ne_bool_none (AK I q (by simp))|v j=>cases ry;exact ne_bool (AK I q (congrArg not RE))|str j=>obtain⟨t',rfl⟩:=ry;exact PySem.EqMixed.ne_bool_str (AK I q (by simp))|_=>exact absurd (show false=true from hs) uu
 |int i =>obtain⟨t,rfl⟩:=rx;cases y with|o=>cases ry;exact PySem.EqNone.ne_int_none (AK I q (by simp))|int j=>obtain⟨t',rfl⟩:=ry;exact ne_int (AK I q (congrArg not Ob))|str j=>obtain⟨t',rfl⟩:=ry;exact PySem.EqMixed.ne_int_str (AK I q (by simp))|_=>exact absurd (show false=true from hs) uu
 |str i =>obtain⟨t,rfl⟩:=rx;cases y with|o=>cases ry;exact PySem.EqNone.ne_str_none (AK I q (by simp))|v j=>cases ry;exact PySem.EqMixed.ne_str_bool (AK I q (by simp))|int j=>obtain⟨t',rfl⟩:=ry;exact PySem.EqMixed.ne_str_int (AK I q (by simp))|str j=>obtain⟨t',rfl⟩:=ry;exact ne_str (AK I q (congrArg not Oa))|_=>exact absurd (show false=true from hs) uu
 |zH i =>obtain⟨t,rfl⟩:=rx;cases y with|zH j=>obtain⟨t',rfl⟩:=ry;exact PySem.W.ne_bytes (AK I q (congrArg not Oc))|_=>exact absurd (show false=true from hs) uu
 |_=>cases y<;>exact absurd (show false=true from hs) uu
theorem Jad:OpR X (compareOp .Lt) (rI0 λi j=>.v (decide (i<j))):=Jae λ_ _ _ _ _ _ _ q=>lt_int q
theorem SR:OpR X (compareOp .LtE) (rI0 λi j=>.v (decide (i<=j))):=Jae λ_ _ _ _ _ _ _ q=>le_int q
theorem Wy:OpR X (compareOp .Gt) (rI0 λi j=>.v (decide (j<i))):=Jae λ_ _ _ _ _ _ _ q=>gt_int q
theorem Iq:OpR X (compareOp .In) (λx y H Q=>∃i j,x=.str i/\y=.str j/\Q (.v (!(Builtin.Str.occurrences j i 0 j.length 1).isEmpty)) H):=by intro aa s U H x y v u Q I rx ry h;obtain⟨i,j,rfl,rfl,q⟩:=h;obtain⟨t,rfl⟩:=rx;obtain⟨t',rfl⟩:=ry;exact in_str (AK I q rfl)
theorem Rc:OpR X (compareOp .Is) (λx y H Q=>y=.o/\Q (.v (decide (x=.o))) H):=by
 intro aa s U H x y v u Q I rx ry h;obtain⟨rfl,q⟩:=h;cases ry;refine is_none_gen (AK I q ?_);cases x<;>first
  |(cases rx;rfl)
  |(obtain⟨t,rfl⟩:=rx;rfl)
theorem Dl(b:Expr)(h:op≠.In:=by decide)(h2:op≠.NotIn:=by decide):behindInMarks op b=false:=by
 have e1:(op==CmpOp.In)=false:=by cases op<;>first|rfl|exact absurd rfl h
 have e2:(op==CmpOp.NotIn)=false:=by cases op<;>first|rfl|exact absurd rfl h2
 cases b<;>simp[behindInMarks,e1,e2]
theorem SK(ho:OpR X (compareOp op) r)(ha:PE X a ta)(hb:PE X b tb)(hm:behindInMarks op b=false):PE X (.Compare a [op] [b] pos) (tOp r ta tb):=by intro aa s U H Q I h;exact wpAny_Compare1 (Jba ha hb I h λv u s2 x y H2 I2 rx ry q=>ho aa s2 U H2 x y v u Q I2 rx ry q) hm
def R9(t:TE):TT:=λU H Q=>t U H λx H'=>∃k,x=.v k/\Q k H'
theorem Sn(ho:OpR X (compareOp op) r)(ha:PE X a ta)(hb:PE X b tb)(hm:behindInMarks op b=false):PT X (.Compare a [op] [b] pos) (R9 (tOp r ta tb)):=by intro aa s U H Q I h;refine wpAny_isTrue_Compare1 (thn (ha aa s U H _ I h) λv s1 ⟨x,H1,I1,r1,q1⟩=>thn (hb aa s1 U H1 _ I1 q1) λu s2 ⟨y,H2,I2,r2,q2⟩ =>thn (ho aa s2 U H2 x y v u _ I2 r1 r2 q2) λc s3 ⟨z,H3,I3,r3,k,e,q3⟩=>?_) hm;subst e;cases r3;exact wpAny_truthy_bool ⟨H3,I3,q3⟩
def MA(r r':R2)(ta tb tc:TE):TE:=λU H Q=>ta U H λx H1=>tb U H1 λy H2=>r x y H2 λz H3=>∃k,z=.v k /\
 (if k=true then tc U H3 λw' H4=>r' y w' H4 Q else Q (.v false) H3)
theorem O0(ho:OpR X (compareOp op) r)(bN:OpR X (compareOp op') r')(ha:PE X a ta)(hb:PE X b tb)(hc:PE X c tc)
  (hm:lastMarks [op,op'] [b,c]=false:=by with_unfolding_all rfl):PT X (.Compare a [op,op'] [b,c] pos) (R9 (MA r r' ta tb tc)):=by
 intro aa s U H Q I h;refine isTrue_chain (thn (ha aa s U H _ I h) λv s1 ⟨x,H1,I1,r1,q1⟩=>test_link (thn (hb aa s1 U H1 _ I1 q1) λu s2 ⟨y,H2,I2,r2,q2⟩ =>thn (ho aa s2 U H2 x y v u _ I2 r1 r2 q2) λd s3 ⟨z,H3,I3,r3,k,e,q3⟩=>?_)) hm;subst e;cases r3;refine wpAny_truthy_bool ?_;cases k with|false =>obtain⟨k',e',q'⟩:=q3;cases e';exact ite_ff ⟨H3,I3,q'⟩|true =>refine ite_tt (test_last (thn (hc aa s3 U H3 _ I3 q3) λw' s4 ⟨z',H4,I4,r4,q4⟩=>thn (bN aa s4 U H4 y z' u w' _ I4 r2 r4 q4) λd' s5 ao=>?_));obtain⟨z2,H5,I5,r5,k2,e2,q5⟩:= ao;subst e2;cases r5;exact wpAny_truthy_bool ⟨H5,I5,q5⟩
def Jbe(K:Fg)(x:V)(H:Hp)(k:Bool):Prop :=
 match x with|.o=>k=false|.v b=>k=b|.int i=>k=(i !=0)|.str y=>y.length<=sizeLine/\k=((y.length:Int)!=0)|.zH y=>y.size<=sizeLine/\k=((y.size:Int)!=0)|.ref p=>(∃xs,SqL K H p xs/\k=!xs.isEmpty)\/(∃xs,SqT K H p xs/\k=!xs.isEmpty)\/∃ah,H p=some (.l ah)/\k=!ah.isEmpty|_=>False
theorem LS(r:KV ah vs):(!vs.isEmpty)=!ah.isEmpty:=by cases r<;>rfl
theorem GH(r:Vals xs aq):(!aq.toArray.isEmpty)=!xs.isEmpty:=by cases r<;>simp
theorem Ft:(sizeLine:Nat)<2^63:=by rw[sizeLine_eq];decide
theorem Vn:TruR X (λx H Q=>∃k,Jbe X.K x H k/\Q k H):=by
 intro aa s U H x v Q I rx h;obtain⟨k,e,q⟩:=h;have hl:=Ft;have hs:=sizeLine_eq;cases x with
 |o =>cases rx;have e':=e;subst e';exact truthy_none ⟨H,I,q⟩
 |v b =>cases rx;have e':k=b:=e;subst e';exact wpAny_truthy_bool ⟨H,I,q⟩
 |int i =>obtain⟨t,rfl⟩:=rx;have e':=e;subst e';exact PySem.P.truthy_int ⟨H,I,q⟩
 |str y =>obtain⟨t,rfl⟩:=rx;obtain⟨hy,e'⟩:y.length<=sizeLine/\k=((y.length:Int)!=0):=e;subst e';exact PySem.P.truthy_str (by lia) ⟨H,I.tok _,q⟩
 |zH y =>obtain⟨t,rfl⟩:=rx;obtain⟨hy,e'⟩:y.size<=sizeLine/\k=((y.size:Int)!=0):=e;subst e';exact PySem.W.truthy_bytes (by lia) ⟨H,I.tok _,q⟩
 |ref p =>
  cases rx;have e':=e;rcases e' with⟨xs,hx,e'⟩|⟨xs,hx,e'⟩|⟨ah,hx,e'⟩
  .subst e';obtain⟨aq,r,pl,hz⟩:=I.list hx;have hlen:=r.length;exact wpAny_truthy_list pl.isList (by simp only[ua];lia) ⟨H,I.tok _,by rw[GH r];exact q⟩
  .subst e';obtain⟨aq,r,pl,hz⟩:=I.tuple hx;have hlen:=r.length;exact truthy_tuple pl (by simp only[ua];lia) ⟨H,I.tok _,by rw[GH r];exact q⟩
  .subst e';obtain⟨hz,hS,vs,r,m⟩:ah.length<=sizeLine/\(p==sysModules)=false/\∃vs,KV ah vs/\s.heap.DictOf (AY X.prog X.w) p vs:=I.z9 p _ hx;have hlen:=Paired.length r;exact wpAny_truthy_dict hS m (by lia) ⟨H,I.tok _,by rw[LS r];exact q⟩
 |_=>exact(show False from e).elim
theorem OZ(ha:PE X a ta)(he:∀bE,isTrue a X.env bE=(do let v <- bE;standAt a.pos;holding [v] (truthy v))) :
  PT X a (λU H Q=>ta U H λx H'=>∃k,Jbe X.K x H' k/\Q k H'):=by
 intro aa s U H Q I h;exact isTrue_plain (thn (ha aa s U H _ I h) λv s1 ⟨x,H1,I1,r1,q1⟩=>Vn aa s1 U H1 x v Q I1 r1 q1) (he _)
theorem LI:OpR X (binaryOp .Add) (λx y H Q=>∃i j,x=.str i/\y=.str j/\i.length+j.length<=sizeLine/\Q (.str (i++j)) H):=by intro aa s U H x y v u Q I rx ry h;obtain⟨i,j,rfl,rfl,hz,q⟩:=h;obtain⟨t,rfl⟩:=rx;obtain⟨t',rfl⟩:=ry;exact add_str (λt' tk=>⟨.str (i++j),H,I.tok _,⟨_,rfl⟩,q⟩) hz
theorem vals1(r:Vals [x] us):∃u,us=[u]/\RelV x u:=by cases r with|cons r1 r2=>cases r2;exact⟨_,rfl,r1⟩
theorem Oi:BZ X (.type "int") (λxs H Q=>(∃i,xs=[.int i]/\Q (.int i) H)\/∃k,xs=[.v k]/\Q (.int (if k then 1 else 0)) H):=by
 intro aa s U H xs us Q I r h;rcases h with⟨i,rfl,q⟩|⟨k,rfl,q⟩
 .obtain⟨u,rfl,t,rfl⟩:=vals1 r;exact call_int_int ⟨.int i,H,I,⟨_,rfl⟩,q⟩
 .obtain⟨u,rfl,r1⟩:=vals1 r;cases r1;exact call_int_bool ⟨.int (if k then 1 else 0),H,I.tok _,⟨_,rfl⟩,q⟩
end
structure UN(h:Heap)(x dx C:Addr)(mA:Str->Option Value):Prop where
 obj:h.get? x=some (instObj C dx)
 ns:h.Ns1 dx mA
 ne:dx≠x
theorem Nk{h:Heap}(n:h.Ns1 dx mA):∃od,h.get? dx=some od/\∀name,lookIn name od=some (mA name):=by
 obtain⟨o,es,ep,ho,hd,hk,_,hm⟩:=n;refine⟨o,ho,λname=>?_⟩;have e:=hm name;unfold nsFind findBy at e;rw[<- Array.find?_toList]at e;unfold lookIn;rw[hd];dsimp only;split
 next y q=>rw[q]at e;exact congrArg some e
 .rename_i q;rw[q]at e;have a:es.toList.any (·.refKey)=false:=by rw[vZ];intro y hy;obtain⟨z,t,kU⟩:=hk y (Array.mem_toList_iff.mp hy);simp[DictEntry.refKey,kU]
  have a':¬es.toList.any (·.refKey)=true:=by rw[a];exact uu
  rw[if_neg a'];exact congrArg some e
theorem UN.look(I:UN h x dx C mA):∃od,InstAt h x (instObj C dx) C (some od)/\∀name,lookIn name od=some (mA name) :=
 let⟨od,ho,hl⟩:=Nk I.ns
 ⟨od,⟨I.obj,rfl,rfl,ho⟩,hl⟩
section
variable{prog:Program}{w:World}{A:Around}{E:Value->Shared->Prop}{s:Shared}{K:Fg}{x dx C f:Addr}{mA:Str->Option Value}{name:Str}{v:Value}
theorem get_map(X:K.In s.heap)(I:UN s.heap x dx C mA)(hg:plainGet K C name=true)(hh:hasDictIn K C=true)
  (ha:findIn K (.ref C) name=some none) (hv:mA name=some v) (qZ:handedIn v=true) (h:Q v {s with toks:=s.toks+1}) :
  wpAny (model prog w) A (getAttr (.ref x) name expr) Q E s:=by
 obtain⟨od,J,hl⟩:=I.look;exact PySem.W.get_value X J (plainGet_of hg).1 (PySem.W.findObj_own hh ha rfl (by rw[hl,hv])) qZ h
theorem P1(X:K.In s.heap)(I:UN s.heap x dx C mA)(hg:plainGet K C name=true)
  (hf:findIn K (.ref C) name=some (some (.ref f))) (ht:isFn K (.ref f)=true) (hv:mA name=none) (h:Q (.ref f,[.ref x]) s) :
  wpAny (model prog w) A (getMethod (.ref x) name pl) Q E s:=by
 obtain⟨od,J,hl⟩:=I.look;exact PySem.W.method_fn X J (plainGet_of hg).1 (plainGet_of hg).2 hf (beq_iff_eq.mp ht) (by show(lookIn name od).map (·.isSome)=some false;rw[hl,hv];rfl) h
theorem Sh(X:K.In s.heap)(I:UN s.heap x dx C mA)
  (hs:findIn K (.ref C) "__setattr__"=some (some (.builtin "object.__setattr__"))) (hp:plainOver K C=true) (ht:takerIn K C name=some none) (hh:hasDictIn K C=true)
  (hw:PySem.Within mA ns) (hsz:ns.length<=sizeLine)
  (h:∀h',UN h' x dx C (λy=>if y=name then some v else mA y)->Heap.SameBut dx s.heap h'->Q () {s with heap:=h',toks:=s.toks+2}) :
  wpAny (model prog w) A (setAttr (.ref x) name v) Q E s:=by
 obtain⟨od,J,hl⟩:=I.look;refine PySem.W.set_plain X J hs (PySem.W.osa_open X J hp ht λb=>?_);obtain⟨cd,hc,fG⟩:=PySem.W.any_some hh;have hx:=I.obj;refine tM (tS (tM (tM (wpAny_loadPart hx (tM (PySem.W.Looks.here (PySem.W.looks_clsIn X hc) ?_))))));rw[fG];refine tS (tM (tS (tM ?_)));refine wpAny_nsSet1 I.ns λh' gf aY=>?_
 obtain⟨oD,sM,sL,qO,qA,qw⟩:=gf.count (PySem.Within.cons name v hw);refine tM (wpAny_lookBehind qO (by rw[qA];exact pastItsLine_dict (uz qw (by rw[uC];lia))) ?_);exact tS (h _ ⟨(aY.2 _ (Ne.symm I.ne)).trans I.obj,gf,I.ne⟩ aY)
theorem Pt(X:K.In s.heap)(hm:makesIn K C=true)
  (hi:findIn K (.ref C) "__init__"=some (some (.ref f))) (hf:PySem.W.typeIn K (.ref f)=some (.type "function"))
  (h:codeAny (model prog w) (A.under (.builtin "type.__call__" ⟨.ref C::vs,kw⟩)) (.call (.ref f) ⟨.ref (s.heap.objs.size+1)::vs,kw⟩) (PySem.W.InitBack (s.heap.objs.size+1) R)
   {s with heap:=(s.heap.push emptyDict).push (instObj C s.heap.objs.size)}) :
  codeAny (model prog w) A (.call (.ref C) ⟨vs,kw⟩) R s:=by
 obtain⟨hh,g,d,t,os⟩:=s;exact PySem.W.make_core (PySem.W.makes_of X hm) (PySem.W.looks_findIn X hi) (λself=>PySem.W.bind_fn X self hf) (.inl rfl) h
end
noncomputable def Er(f:Str)(v:V):List (Str×V)->List (Str×V)
 | []=>[(f,v)]
 |(g,x)::r=>if g=f then(g,v)::r else(g,x)::Er f v r
theorem Fs(f g:Str)(v:V):∀fs:List (Str×V),(Er f v fs).lookup g=if g=f then some v else fs.lookup g
 | []=>by
  show List.lookup g [(f,v)]=_;by_cases h:g=f
  .have hb:=beq_iff_eq.mpr h;simp only[List.lookup,hb,if_pos h]
  .have hb:=beq_eq_false_iff_ne.mpr h;simp only[List.lookup,hb,if_neg h]
 |(k,x)::r=>by
  have ih:=Fs f g v r;rw[show Er f v ((k,x)::r)=(if k=f then(k,v)::r else(k,x)::Er f v r)from rfl];by_cases hk:k=f
  .rw[if_pos hk];by_cases h:g=k
   .have hb:=beq_iff_eq.mpr h;simp only[List.lookup,hb,if_pos (h.trans hk)]
   .have hb:=beq_eq_false_iff_ne.mpr h;simp only[List.lookup,hb,if_neg (λe:g=f=>h (e.trans hk.symm))]
  .rw[if_neg hk];by_cases h:g=k
   .have hb:=beq_iff_eq.mpr h;simp only[List.lookup,hb,if_neg (λe:g=f=>hk (h.symm.trans e))]
   .have hb:=beq_eq_false_iff_ne.mpr h;simp only[List.lookup,hb];exact ih
theorem Fw(f:Str)(v:V):∀fs:List (Str×V),f∈(Er f v fs).map (·.1)/\∀g,g∈fs.map (·.1)->g∈(Er f v fs).map (·.1)
 | []=>⟨by simp[Er],λg h=>by simp at h⟩
 |(k,x)::r=>by
  obtain⟨i1,i2⟩:=Fw f v r;rw[show Er f v ((k,x)::r)=(if k=f then(k,v)::r else(k,x)::Er f v r)from rfl];by_cases hk:k=f
  .rw[if_pos hk];subst hk;exact⟨by simp,λg h=>by simpa using h⟩
  .rw[if_neg hk];refine⟨?_,λg h=>?_⟩
   .rw[tR];exact tV _ i1
   .rw[tR]at h ⊢;rcases uk.mp h with e|e
    .exact uk.mpr (.inl e)
    .exact tV _ (i2 g e)
theorem Fv(f:Str)(v:V):∀fs:List (Str×V),(Er f v fs).length<=fs.length+1
 | []=>by simp[Er]
 |(k,x)::r=>by
  have ih:=Fv f v r;rw[show Er f v ((k,x)::r)=(if k=f then(k,v)::r else(k,x)::Er f v r)from rfl];by_cases hk:k=f
  .rw[if_pos hk,uC,uC];lia
  .rw[if_neg hk,uC,uC];lia
theorem Ao.some_of(r:Ao (some v) o):∃u,o=some u/\RelV v u:=by cases o with|none=>exact(show False from r).elim|some u=>exact⟨u,rfl,r⟩
theorem Ao.none_of(r:Ao none o):o=none:=by cases o with|none=>rfl|some u=>exact(show False from r).elim
theorem NH(r:RelV v u):handedIn u=true:=by cases v with|o=>cases(show u=Value.none from r);rfl|v b=>cases(show u=Value.bool b from r);rfl|int i=>obtain⟨t,e⟩:=(show ∃t,u=Value.int i t from r);cases e;rfl|str x=>obtain⟨t,e⟩:=(show ∃t,u=Value.str x t from r);cases e;rfl|zH b=>obtain⟨t,e⟩:=(show ∃t,u=Value.bytes b t from r);cases e;rfl|zg b=>obtain⟨t,e⟩:=(show ∃t,u=Value.float b t from r);cases e;rfl|ref a=>cases(show u=Value.ref a from r);rfl|ty n=>cases(show u=Value.type n from r);rfl
section
variable{P:Program}{w:World}{H H':Hp}{h h':Heap}{a C dx:Addr}{fs ar:List (Str×V)}
theorem Hr(z9:HOk P w H h)(e:H a=some (.ins C dx fs)):∃mA,UN h a dx C mA/\(∀f,Ao (fs.lookup f) (mA f))/\PySem.Within mA (fs.map (·.1))/\fs.length<=1000/\H dx=some (.own a):=by
 obtain⟨d,z,ne,ob,mA,n,r,q⟩:=(show AZ P w H h a (.ins C dx fs)from z9 a _ e)
 exact⟨mA,⟨ob,n,ne⟩,r,q,z,d⟩
end
structure Cls(K:Fg)(C:Addr):Prop where
 pg:plainGet K C Str.empty=true
 hd:hasDictIn K C=true
 po:plainOver K C=true
 sa:findIn K (.ref C) "__setattr__"=some (some (.builtin "object.__setattr__"))
theorem Cls.get{K:Fg}(c:Cls K C)(f:Str):plainGet K C f=true:=c.pg
def Ba(K:Fg)(C:Addr)(f:Str):Prop:=findIn K (.ref C) f=some none
theorem Ba.ZI{K:Fg}(n:Ba K C f):takerIn K C f=some none:=by unfold takerIn;rw[show findIn K (.ref C) f=some none from n];rfl
structure Meth(K:Fg)(C:Addr)(m:Str)(f:Addr):Prop where
 at_:findIn K (.ref C) m=some (some (.ref f))
 fn:isFn K (.ref f)=true
 kp:keepIn K (.ref f)=true
section
variable{X:Cx}{aa:List (Addr×Obj)}{U:St}{H:Hp}{s:Shared}{a C dx:Addr}{fs:List (Str×V)}{f:Str}{v:V}{A:Around}{E:Value->Shared->Prop}
theorem LX(I:Inv X aa U H s)(e:H a=some (.ins C dx fs))(c:Cls X.K C)(n:Ba X.K C f)(l:fs.lookup f=some v)
  (h:∀u s',Inv X aa U H s'->RelV v u->Q u s'):wpAny (model X.prog X.w) A (getAttr (.ref a) f b) Q E s:=by
 obtain⟨mA,O,r,_,_,_⟩:=Hr I.z9 e;obtain⟨u,hu,ru⟩:=Ao.some_of (by rw[<- l];exact r f);exact get_map I.kIn O (c.get f) c.hd n hu (NH ru) (h u _ (I.tok _) ru)
theorem GJ(I:Inv X aa U H s)(e:H a=some (.ins C dx fs))(c:Cls X.K C)(k:Meth X.K C m g)(l:fs.lookup m=none)
  (h:Q (.ref g,[.ref a]) s):wpAny (model X.prog X.w) A (getMethod (.ref a) m pl) Q E s:=by
 obtain⟨mA,O,r,_,_,_⟩:=Hr I.z9 e;have hn:=Ao.none_of (by rw[<- l];exact r m);exact P1 I.kIn O (c.get m) k.at_ k.fn hn h
theorem Lz(I:Inv X aa U H s)(e:H a=some (.ins C dx fs))(c:Cls X.K C)(n:Ba X.K C f)(hl:fs.length<1000)(ry:RelV y u)
  (h:∀s',Inv X aa U (upd H a (.ins C dx (Er f y fs))) s'->Q () s'):wpAny (model X.prog X.w) A (setAttr (.ref a) f u) Q E s:=by
 obtain⟨mA,O,r,wi,_,ho⟩:=Hr I.z9 e;have hz:(fs.map (·.1)).length<=sizeLine:=by rw[tZ,sizeLine_eq];lia
 refine Sh I.kIn O c.sa c.po n.ZI c.hd wi hz λh' O' sb=>h _ ?_
 have hd:∃o,h'.get? dx=some o:=let⟨o,_,_,e',_⟩:=O'.ns;⟨o,e'⟩;refine I.write (by rw[e];exact True.intro) (.inr ho) (λb q hb z=>(sb.2 b hb).trans z) hd ?_;refine⟨by rw[Aj O.ne];exact ho,?_,O.ne,O'.obj,_,O'.ns,λg=>?_,λg hg=>?_⟩
 .have:=Fv f y fs;lia
 .show Ao ((Er f y fs).lookup g) (if g=f then some u else mA g);rw[Fs];by_cases q:g=f
  .rw[if_pos q,if_pos q];exact ry
  .rw[if_neg q,if_neg q];exact r g
 .by_cases q:g=f
  .rw[q];exact(Fw f y fs).1
  .refine(Fw f y fs).2 g (wi g λz=>hg ?_);show(if g=f then some u else mA g)=none;rw[if_neg q];exact z
theorem Inv.made(I:Inv X aa U H s):Inv X aa U (upd (upd H s.heap.objs.size (.own (s.heap.objs.size+1))) (s.heap.objs.size+1) (.ins C s.heap.objs.size []))
  {s with heap:=(s.heap.push emptyDict).push (instObj C s.heap.objs.size)}:=by
 have e1:(s.heap.push emptyDict).get? s.heap.objs.size=some emptyDict:=tY s.heap rfl;have e2:((s.heap.push emptyDict).push (instObj C s.heap.objs.size)).get? (s.heap.objs.size+1)=some (instObj C s.heap.objs.size):=by have:=tY (s.heap.push emptyDict) (o:=instObj C s.heap.objs.size) rfl;rwa[u4]at this
 have e3:(s.heap.push emptyDict).Ns s.heap.objs.size (λ_=>none):=⟨emptyDict,#[],_,e1,rfl,(λe he=>absurd he (by simp)),λ_=>rfl⟩
 have I1:=I.laid (a:=s.heap.objs.size) (o:=.own (s.heap.objs.size+1)) (h':=s.heap.push emptyDict) (t':=s.toks) (λb u q=>tN _ q) (uh _) ⟨_,e1⟩;refine I1.laid (a:=s.heap.objs.size+1) (o:=.ins C s.heap.objs.size []) (t':=s.toks) (λb u q=>tN _ q) (Nat.le_of_eq (u4 _ _)) ?_;have ne:s.heap.objs.size≠s.heap.objs.size+1:=ur (Nat.lt_succ_self _);refine⟨by rw[Aj ne,Ak],v3 _,ne,e2,λ_=>none,(Heap.Ns1.of_empty e3).at λo q=>tN _ q,λ_=>True.intro,λy hy=>absurd rfl hy⟩
theorem UM(hb:attributeBase e f env (eval e env)=eval e env)
  (h:wpAny (model prog w) A (eval e env) (λo az=>wpAny (model prog w) A (getAttr o f true) Q E az) E s):wpAny (model prog w) A (eval (.Attribute e f pos) env) Q E s :=
 Attribute_any_ h (by rw[arm_eval_Attribute,hb])
end
def Jbi(K:Fg)(ta:TE)(f:Str):TE:=λU H Q=>ta U H λx H1=>∃a C dx fs v,x=.ref a/\H1 a=some (.ins C dx fs)/\Cls K C/\Ba K C f/\fs.lookup f=some v/\Q v H1
def Jbj(K:Fg)(ta tv:TE)(f:Str):TS:=λD U H=>tv U H λy H1=>ta U H1 λx H2=>∃a C dx fs,x=.ref a/\H2 a=some (.ins C dx fs)/\Cls K C/\Ba K C f/\fs.length<1000 /\
 D.nx U (upd H2 a (.ins C dx (Er f y fs)))
section
variable{X:Cx}{o e value:Expr}{f:Str}{pos aR bJ:Pos}{ta tv:TE}
theorem Kw(he:PE X e ta)(hb:attributeBase e f X.env (eval e X.env)=eval e X.env):PE X (.Attribute e f pos) (Jbi X.K ta f):=by intro aa s U H Q I h;refine UM hb (thn (he aa s U H _ I h) λu s1 ao=>?_);obtain⟨x,H1,I1,rx,a,C,dx,fs,v,ex,ea,c,n,l,q⟩:= ao;subst ex;obtain rfl:u=Value.ref a:=rx;exact LX I1 ea c n l λu' s2 I2 ru=>⟨v,H1,I2,ru,q⟩
theorem V5(ha:PE X o ta)(hv:PE X value tv)(hs:swapsWith value (some (.Attribute o f aR)) pos.line X.env=pure false):PS X (.Assign [.Attribute o f aR] value pos) (Jbj X.K ta tv f):=by intro aa s U H D I h;refine plainObj_wpAny_Assign_Attribute (thn (hv aa s U H _ I h) λu s1 ⟨y,H1,I1,ry,q⟩=>thn (ha aa s1 U H1 _ I1 q) λov s2 ao=>?_) hs;obtain⟨x,H2,I2,rx,a,C,dx,fs,ex,ea,c,n,l,q2⟩:= ao;subst ex;obtain rfl:ov=Value.ref a:=rx;exact Lz I2 ea c n l ry λs3 I3=>⟨U,_,I3,q2⟩
end
section
variable{X:Cx}{aa:List (Addr×Obj)}{U:St}{H:Hp}{s:Shared}{A:Around}{E:Value->Shared->Prop}{Q:Value->Shared->Prop}{c:Value}{b:Bool}
inductive Lo(K:Fg)(H:Hp):V->Value->Prop where
 |o:Lo K H .o (.type "NoneType")
 |v (x:Bool):Lo K H (.v x) (.type "bool")
 |int (i:Int):Lo K H (.int i) (.type "int")
 |str (x:Str):Lo K H (.str x) (.type "str")
 |zg (x:UInt64):Lo K H (.zg x) (.type "float")
 |lst {a:Addr} {xs:List V} (e:H a=some (.lst xs)):Lo K H (.ref a) (.type "list")
 |frz {a:Addr} {o:Obj} {xs:List V} (e:H a=some (.frz o (.lst xs))):Lo K H (.ref a) (.type "list")
 |tup {a:Addr} {xs:List V} (e:H a=some (.tup xs)):Lo K H (.ref a) (.type "tuple")
 |l {a:Addr} {ah:List (Key×V)} (e:H a=some (.l ah)):Lo K H (.ref a) (.type "dict")
 |dT {a:Addr} {ah:List (List Key×V)} (e:H a=some (.dT ah)):Lo K H (.ref a) (.type "dict")
 |ins {a C dx:Addr} {fs:List (Str×V)} (e:H a=some (.ins C dx fs)) (cl:Cls K C) (ha:findIn K (.ref C) "__class__"=some (some (.builtin "object.__class__")))
   (hn:specialIn K (.builtin "object.__class__") "__get__"=some (some (.builtin "getset_descriptor.__get__"))) (iI:takesIn K (.builtin "object.__class__")=some true)
   (hm:mroIn K C (.type "object")=some true):Lo K H (.ref a) (.ref C)
theorem Ny{x:V}{u t:Value}(I:Inv X aa U H s)(rx:RelV x u)(ty:Lo X.K H x t)(e:kitOne X.K t c=some b)(h:∀tk,Q (.bool b) {s with toks:=tk}) :
  wpAny (model X.prog X.w) A (call (.builtin "isinstance") [u,c]) Q E s:=by
 cases ty with
 |o=>cases(show u=Value.none from rx);exact kia_one PySem.W.kitx_none I.kIn True.intro e (λz=>nomatch z) h
 |v y=>cases(show u=Value.bool y from rx);exact kia_one PySem.W.kitx_bool I.kIn True.intro e (λz=>nomatch z) h
 |int i=>obtain⟨t,q⟩:=(show ∃t,u=Value.int i t from rx);cases q;exact kia_one PySem.W.kitx_int I.kIn True.intro e (λz=>nomatch z) h
 |str y=>obtain⟨t,q⟩:=(show ∃t,u=Value.str y t from rx);cases q;exact kia_one PySem.W.kitx_str I.kIn True.intro e (λz=>nomatch z) h
 |zg y=>obtain⟨t,q⟩:=(show ∃t,u=Value.float y t from rx);cases q;exact kia_one PySem.W.kitx_float I.kIn True.intro e (λz=>nomatch z) h
 |@lst a xs ea =>
  cases(show u=Value.ref a from rx);obtain⟨_,_,n,_,h1⟩:=(show AZ X.prog X.w H s.heap a (.lst xs)from I.z9 a _ ea)
  exact kia_one kitx_list I.kIn ⟨_,h1,rfl⟩ e (λz=>nomatch z) h
 |@frz a ob xs ea =>
  cases(show u=Value.ref a from rx);obtain⟨_,_,_,n,_,h1⟩:=(show AZ X.prog X.w H s.heap a (.frz ob (.lst xs))from I.z9 a _ ea)
  exact kia_one kitx_list I.kIn ⟨_,h1,rfl⟩ e (λz=>nomatch z) h
 |@tup a xs ea =>
  cases(show u=Value.ref a from rx);obtain⟨_,_,_,p⟩:=(show AZ X.prog X.w H s.heap a (.tup xs)from I.z9 a _ ea)
  obtain⟨o,h1,h2,_⟩:=p;exact kia_one PySem.W.kitx_tuple I.kIn ⟨o,h1,h2⟩ e (λz=>nomatch z) h
 |@l a ah ea =>
  cases(show u=Value.ref a from rx);obtain⟨_,_,vs,_,p⟩:=(show AZ X.prog X.w H s.heap a (.l ah)from I.z9 a _ ea)
  obtain⟨o,es,ep,h1,h2,_⟩:=p;exact kia_one kitx_dict I.kIn ⟨o,h1,h2.1⟩ e (λz=>nomatch z) h
 |@dT a ah ea =>
  cases(show u=Value.ref a from rx);obtain⟨_,_,xs,_,o,es,ep,h1,h2,_⟩:=(show AZ X.prog X.w H s.heap a (.dT ah)from I.z9 a _ ea)
  exact kia_one kitx_dict I.kIn ⟨o,h1,h2.1⟩ e (λz=>nomatch z) h
 |@ins a C dx fs ea cl ha hn iI hm =>cases(show u=Value.ref a from rx);obtain⟨mA,O,_⟩:=Hr I.z9 ea;obtain⟨od,J,_⟩:=O.look;exact kia_one (PySem.W.kitx_own (cl.get _) cl.hd ha hn iI hm) I.kIn J e (λz=>nomatch z) h
end
structure C7(k:Nat)(A:Around):Prop where
 hd:A.handled=none
 dp:A.depth+3*k+5<recursionLimit
 un:A.units+16*k+200<cLine
theorem C7.mono(r:C7 k A)(h:j<=k):C7 j A:=⟨r.hd,by have:=r.dp;lia,by have:=r.un;lia⟩
theorem C7.deeper(r:C7 (k+1) A)(env:Env):C7 k (A.deeper env) :=
 ⟨r.hd,by have:=r.dp;show A.depth+1+3*k+5<_;lia,by have:=r.un;show A.units+3+16*k+200<_;lia⟩
theorem LQ{A:Around}{C:Addr}{us:List Value}{kw:List (Str×Value)}:(A.under (.builtin "type.__call__" ⟨.ref C::us,kw⟩)).depth=A.depth+1:=by first|rfl|simp[Around.under,Code.weight,Code.isCreation,Code.isGuard,Code.isCaller,Code.frames,Code.isFrame,guardIds]
theorem LP{A:Around}{C:Addr}{us:List Value}{kw:List (Str×Value)}:(A.under (.builtin "type.__call__" ⟨.ref C::us,kw⟩)).units=A.units+1:=by first|rfl|simp[Around.under,Code.cUnits,Code.frames,Code.isFrame]
theorem C7.make(r:C7 (k+1) A)(C:Addr)(us:List Value)(kw:List (Str×Value)):C7 k (A.under (.builtin "type.__call__" ⟨.ref C::us,kw⟩)) :=
 ⟨r.hd,by have:=r.dp;rw[LQ];lia,by have:=r.un;rw[LP];lia⟩
theorem C7.depth(r:C7 k A):A.depth<recursionLimit:=by have:=r.dp;lia
theorem C7.units(r:C7 k A):A.units+64<cLine:=by have:=r.un;lia
def YE:TA:=λ_ H Q=>Q [] H
def ZP(ta:TE)(tr:TA):TA:=λU H Q=>ta U H λx H1=>tr U H1 λxs H2=>Q (x::xs) H2
section
variable{X:Cx}{e:Expr}{es:List Expr}{te:TE}{t:TA}{pos:Pos}
theorem Dj:PA X [] YE:=λ_ _ _ _ H Q I h=>Calls.spliced_nil ⟨[],H,I,.nil,h⟩
theorem Bs(ha:PE X e te)(hr:PA X es t)(hs:starEach (e::es) X.env=(false,eval e X.env)::starEach es X.env:=by rfl):PA X (e::es) (ZP te t):=by
 intro pos aa s U H Q I h;rw[hs];refine Calls.spliced_cons (thn (ha aa s U H _ I h) λu s1 ao=>?_);obtain⟨x,H1,I1,r1,q1⟩:= ao;refine thn (hr pos aa s1 U H1 _ I1 q1) λus s2 ao => ?_
 obtain⟨xs,H2,I2,r2,q2⟩:= ao;exact⟨x::xs,H2,I2,.cons r1 r2,q2⟩
def Jb6(t:TA):TE:=λU H Q=>t U H λxs H1=>xs.length<=sizeLine/\∀p,H1 p=none->Q (.ref p) (upd H1 p (.tup xs))
def Jca(t:TA):TE:=λU H Q=>t U H λxs H1=>xs.length<=sizeLine/\∀p,H1 p=none->Q (.ref p) (upd H1 p (.lst xs))
theorem Wc(h:PA X es t):PE X (.Tuple es x1 pos) (Jb6 t):=by intro aa s U H Q I hq;refine wpAny_Tuple_spliced (thn (h pos aa s U H _ I hq) λus s1 ⟨xs,H1,I1,r,z,q⟩=>⟨by rw[<- r.length];exact z,?_⟩);have hf:=I1.z9.fresh (uh _);refine⟨.ref s1.heap.objs.size,upd H1 s1.heap.objs.size (.tup xs),I1.laid (λb u e=>tN _ e) (uh _) ?_,rfl,q _ hf⟩;exact⟨z,us,r,⟨_,tY _ rfl,rfl,_,rfl,rfl⟩⟩
theorem Q9(h:PA X es t):PE X (.List es pos) (Jca t):=by intro aa s U H Q I hq;refine wpAny_List_spliced (thn (h pos aa s U H _ I hq) λus s1 ⟨xs,H1,I1,r,z,q⟩=>⟨by rw[<- r.length];exact z,?_⟩);have hf:=I1.z9.fresh (uh _);refine⟨.ref s1.heap.objs.size,upd H1 s1.heap.objs.size (.lst xs),I1.laid (λb u e=>tN _ e) (uh _) ?_,rfl,q _ hf⟩;exact⟨z,us,0,r,tY _ rfl⟩
end
abbrev Sp:=List V->Hp->VK->XK->Prop
abbrev CXT:=List Env->Hp->Shared->XK->Value->Shared->Prop
structure UP(P:Program)(w:World)(K:Fg)(mg:Str->Option Value)(base:Heap)(A:Around)(outer:List Env)(s:Shared)(H:Hp):Prop where
 frames:A.frames=some outer
 mod:Mod K mg base
 bs:∀b o,base.get? b=some o->s.heap.get? b=some o/\H b=none
 zA:base.objs.size<=s.heap.objs.size
 KR:s.heap.FunFrames base outer
 zo:∀b∈frs outer,H b=none
 z9:HOk P w H s.heap
 bare:AllBare s.gens
def CE(outer:List Env)(P:Program)(w:World)(H:Hp)(s:Shared)(Q:VK)(u:Value)(s':Shared):Prop :=
 ∃v H',s'.os=s.os/\AllBare s'.gens/\Un (frs outer) [] H H' s.heap s'.heap/\HOk P w H' s'.heap/\RelV v u/\Q v H'
def CR(CX:CXT)(outer:List Env)(P:Program)(w:World)(H:Hp)(s:Shared)(Q:VK)(E:XK)(r:Result)(s':Shared):Prop :=
 match r with|.ok (.ret u)=>CE outer P w H s Q u s'|.ok _=>False|.error e=>CX outer H s E e s'
structure CS(P:Program)(w:World)(K:Fg)(mg:Str->Option Value)(base:Heap)(CX:CXT)(k:Nat)(f:Addr)(fd:FuncData)(ps:List Str)(sp:Sp):Prop where
 len:∀vs H Q E,sp vs H Q E->vs.length=ps.length
 run:∀(A:Around)(outer:List Env)(s:Shared)(H:Hp)(args:Args)(us:List Value)(vs:List V)(Q:VK)(E:XK),C7 k A->UP P w K mg base A outer s H->BindsTo s fd args (ps.zip us)->Vals vs us->sp vs H Q E ->
  codeAny (model P w) A (.call (.ref f) args) (CR CX outer P w H s Q E) s
theorem CS.imp{P:Program}{w:World}{K:Fg}{mg:Str->Option Value}{base:Heap}{CX:CXT}{k:Nat}{f:Addr}{fd:FuncData}{ps:List Str}{sp n5:Sp}(F:CS P w K mg base CX k f fd ps sp)
  (h:∀vs H Q E,n5 vs H Q E->sp vs H Q E):CS P w K mg base CX k f fd ps n5 :=
 ⟨λvs H Q E q=>F.len vs H Q E (h _ _ _ _ q),λA outer s H args us vs Q E hr he hb hv hs=>F.run A outer s H args us vs Q E hr he hb hv (h _ _ _ _ hs)⟩
theorem UP.make{P:Program}{w:World}{K:Fg}{mg:Str->Option Value}{base:Heap}{A:Around}{outer:List Env}{s:Shared}{H:Hp}(e:UP P w K mg base A outer s H)(C:Addr)(us:List Value)(kw:List (Str×Value)) :
  UP P w K mg base (A.under (.builtin "type.__call__" ⟨.ref C::us,kw⟩)) outer s H:=⟨by first|exact e.frames|(simpa[Around.under,Code.envs,Code.isFrame,pushEnvs]using e.frames),e.mod,e.bs,e.zA,e.KR,e.zo,e.z9,e.bare⟩
section
variable{X:Cx}{aa:List (Addr×Obj)}{U:St}{H:Hp}{s s':Shared}
theorem Inv.Ja2(I:Inv X aa U H s):UP X.prog X.w X.K X.mg X.base X.A X.stack s H :=
 ⟨I.ok.frames,I.ok.mod,I.bs,uz I.ok.zA I.sz,I.stack,I.Js,I.z9,I.bare⟩
theorem Inv.after(I:Inv X aa U H s)(h:CE X.stack X.prog X.w H s Q u s'):EP X aa U Q u s':=by obtain⟨v,H',os,bare,un,z9,r,q⟩:=h;obtain⟨hh,g,d,t,dN⟩:=s';obtain rfl:dN=s.os:=os;exact⟨v,H',I.call un z9 bare (λb z=>absurd z (by simp)),r,q⟩
end
def Sb(C:Addr)(m:Str)(sp:Sp)(dY:List V)(E:XK)(ta:TE)(t:TA):TE:=λU H Q=>ta U H λx H1=>∃a dx fs,x=.ref a/\H1 a=some (.ins C dx fs)/\fs.lookup m=none /\
 t U H1 λvs H2=>sp (x::(vs++dY)) H2 Q E
def Vr(C:Addr)(sp:Sp)(dY:List V)(E:XK)(t:TA):TE:=λU H Q=>t U H λvs H1=>∀x dx,H1 x=none->H1 dx=none->dx≠x ->
 sp (.ref x::(vs++dY)) (upd (upd H1 dx (.own x)) x (.ins C dx [])) (λv H2=>v=.o/\Q (.ref x) H2) E
def Binds(K:Fg)(fd:FuncData)(ps:List Str)(ds:List Value):Prop :=
 ∀(s:Shared)(us:List Value),K.In s.heap->(us++ds).length=ps.length->BindsTo s fd ⟨us,[]⟩ (ps.zip (us++ds))
theorem Binds.all{K:Fg}{fd:FuncData}{ps:List Str}(h:∀us:List Value,us.length=ps.length->bindArgs fd ⟨us,[]⟩=pure (ps.zip us)):Binds K fd ps []:=λs us _ hl=>by rw[uK]at hl ⊢;exact .of_eq (h us hl)
def Passes(CX:CXT)(X:Cx)(E:XK):Prop:=∀(aa:List (Addr×Obj))(U:St)(H:Hp)(s:Shared)(e:Value)(s':Shared),Inv X aa U H s->CX X.stack H s E e s'->X.xe e s'
section
variable{X:Cx}{CX:CXT}{k:Nat}{f C:Addr}{fd:FuncData}{ps:List Str}{sp:Sp}{dY:List V}{ds:List Value}{E:XK}{x m:Str}{p pos aB:Pos}{e o:Expr}{es:List Expr}{ta:TE}{t:TA}
theorem VG(F:CS X.prog X.w X.K X.mg X.base CX k f fd ps sp)(hr:C7 k X.A)(hb:Binds X.K fd ps ds)(hd:Vals dY ds)(hx:Passes CX X E)
  (I:Inv X aa U H s) (r:Vals vs us) (h:sp (vs++dY) H Q E):wpAny (model X.prog X.w) X.A (call (.ref f) us) (EP X aa U Q) X.xe s:=by
 have r2:=r.append hd;have hl:(us++ds).length=ps.length:=by rw[<- r2.length];exact F.len _ _ _ _ h
 refine wpAny_call (codeAny_mono (F.run X.A X.stack s H ⟨us,[]⟩ (us++ds) (vs++dY) Q E hr I.Ja2 (hb s us I.kIn hl) r2 h) λr s' hq=>?_);cases r with|error e=>exact hx aa U H s e s' I hq|ok fl =>cases fl with|ret u=>exact I.after hq|next=>exact False.elim hq|brk=>exact False.elim hq|cont=>exact False.elim hq
theorem Pb(he:PE X o ta)(c:Cls X.K C)(hm:Meth X.K C m f)(F:CS X.prog X.w X.K X.mg X.base CX k f fd ps sp)(hr:C7 k X.A)(hb:Binds X.K fd ps ds)(hd:Vals dY ds)(hx:Passes CX X E)
  (ht:eval (.Call (.Attribute o m aB) [] [] pos) X.env=(do
   let ov <- eval o X.env
   standAt aB.atName
   let(f,first) <- holding [ov] (getMethod ov m pl)
   callWith pos f first (backTo pos (starEach [] X.env)) (backToKw pos (keywordEach [] X.env))):=by rfl) :
  PE X (.Call (.Attribute o m aB) [] [] pos) (Sb C m sp dY E ta YE):=by
 intro aa s U H Q I h;refine methodCall_KW (thn (he aa s U H _ I h) λu s1 ao=>?_) ht;obtain⟨x,H1,I1,rx,a,dx,fs,ex,ea,l,q⟩:= ao;subst ex;obtain rfl:u=Value.ref a:=rx;refine GJ I1 ea c hm l ?_;exact PySem.W.callWith_K0 I1.kIn hm.kp (VG (vs:=[.ref a]) F hr hb hd hx I1 (.cons rfl .nil) q)
structure Mk(K:Fg)(C f:Addr):Prop where
 makes:makesIn K C=true
 init:findIn K (.ref C) "__init__"=some (some (.ref f))
 fn:isFn K (.ref f)=true
 kp:keepIn K (.ref C)=true
theorem OQ(M:Mk X.K C f)(F:CS X.prog X.w X.K X.mg X.base CX k f fd ps sp)(hr:C7 (k+1) X.A)(hb:Binds X.K fd ps ds)(hd:Vals dY ds)
  (hx:Passes CX X E) (I:Inv X aa U H s) (r:Vals vs us)
  (h:∀x dx,H x=none->H dx=none->dx≠x->sp (.ref x::(vs++dY)) (upd (upd H dx (.own x)) x (.ins C dx [])) (λv H2=>v=.o/\Q (.ref x) H2) E) :
  wpAny (model X.prog X.w) X.A (call (.ref C) us) (EP X aa U Q) X.xe s:=by
 have hq:=h (s.heap.objs.size+1) s.heap.objs.size (I.z9.fresh (Nat.le_succ _)) (I.z9.fresh (uh _)) (ur (Nat.lt_succ_self _));have I2:=Inv.made (C:=C) I;have r2:Vals (V.ref (s.heap.objs.size+1)::(vs++dY)) (Value.ref (s.heap.objs.size+1)::(us++ds)):=.cons rfl (r.append hd);have hl:=by have e:=r2.length;rw[F.len _ _ _ _ hq]at e;exact e.symm
 refine wpAny_call (Pt I.kIn M.makes M.init (beq_iff_eq.mp M.fn) (codeAny_mono (F.run _ X.stack _ _ ⟨Value.ref (s.heap.objs.size+1)::us,[]⟩ (Value.ref (s.heap.objs.size+1)::(us++ds)) _ _ E (hr.make C us [])
  (I2.Ja2.make C us []) (hb _ (Value.ref (s.heap.objs.size+1)::us) I2.kIn hl) r2 hq) λr s' jh=>?_))
 cases r with|error e=>exact hx aa U _ _ e s' I2 jh|ok fl =>cases fl with|ret u =>obtain⟨v,H',I3,rv,ev,q3⟩:=I2.after jh;subst ev;exact⟨rv,⟨V.ref (s.heap.objs.size+1),H',I3,rfl,q3⟩⟩|next=>exact False.elim jh|brk=>exact False.elim jh|cont=>exact False.elim jh
theorem SG(M:Mk X.K C f)(F:CS X.prog X.w X.K X.mg X.base CX k f fd ps sp)(hr:C7 (k+1) X.A)(hg:Gl X x)(hm:X.mg x=some (.ref C))(hb:Binds X.K fd ps ds)(hd:Vals dY ds)(hx:Passes CX X E)
  (ha:PA X (e::es) t) (aQ:(x==("__debug__":Str))=false:=by decide) (he:starEach (e::es) X.env=(false,eval e X.env)::starEach es X.env:=by rfl) (aI:(backTo pos (starEach es X.env)).any (·.1)=false:=by rfl) :
  PE X (.Call (.Name x p) (e::es) [] pos) (Vr C sp dY E t):=by
 intro aa s U H Q I h;refine wpAny_Call_Name_kw (Ee I hg hm ?_ aQ);refine callWith_K I.ok.mod.y0 M.kp (thn (ha pos aa s U H _ I h) λus s1 ⟨vs,H1,I1,r,q⟩=>⟨I1.kIn,?_⟩) he aI;exact OQ M F hr hb hd hx I1 r q
end
section
variable{X:Cx}{CX:CXT}{k:Nat}{f C:Addr}{fd:FuncData}{ps ks:List Str}{sp:Sp}{E:XK}{x m:Str}{p pos aB rn:Pos}{e o:Expr}{es:List Expr}{tm:List Keyword}{te ta:TE}{t tk:TA}{nm:Option Str}
variable{g:List Value->List Value->List Value}{gV:List V->List V->List V}
end
structure HL(N P:List Str)(sc:Scope):Prop where
 kind:sc.kind=.function
 co:sc.isCoroutine=false
 gen:sc.isGenerator=false
 nd:N.Nodup
 pre:N.take P.length=P
 par:∀x∈P,sc.names.lookup x=some .local\/sc.names.lookup x=some .cell
 yU:∀y∈sc.names,y.2≠.free
theorem Ja{kindOf:Str->Option NameKind}{x:Str}:∀{binds:List (Str×Value)}{m:Str->Option Value},(∀v,(x,v)∉binds)->bindL kindOf binds m x=m x
 | [],_,_=>rfl
 |(n,v)::r,m,h=>by
  unfold bindL;rw[Ja λw hw=>h w (tV _ hw)];split
  .have:x≠n:=by rintro rfl;exact h v uj
   simp[this]
  .rfl
theorem Jc{kindOf:Str->Option NameKind}{x:Str}:∀{binds:List (Str×Value)}{m:Str->Option Value},(∀v,(x,v)∉binds)->bindC kindOf binds m x=m x
 | [],_,_=>rfl
 |(n,v)::r,m,h=>by
  unfold bindC;rw[Jc λw hw=>h w (tV _ hw)];split
  .rfl
  .have:x≠n:=by rintro rfl;exact h v uj
   simp[this]
theorem Jb{kindOf:Str->Option NameKind}{x:Str}{v:Value}:∀{P:List Str}{vs:List Value}{i:Nat}{m:Str->Option Value},P.Nodup->P[i]?=some x->vs[i]?=some v->kindOf x=some .local ->
  bindL kindOf (P.zip vs) m x=some v
 | [],_,_,_,_,h,_,_=>by simp at h
 |_::_,[],_,_,_,_,h,_=>by simp at h
 |p::P,w::vs,0,m,nd,h1,h2,hk=>by simp at h1 h2;subst h1;subst h2;show bindL kindOf ((p,w)::P.zip vs) m p=_;unfold bindL;rw[Ja λv hv=>(uG.mp nd).1 (vG hv).1,if_pos hk];simp
 |p::P,w::vs,i+1,m,nd,h1,h2,hk=>by show bindL kindOf ((p,w)::P.zip vs) m x=_;unfold bindL;exact Jb (i:=i) (uG.mp nd).2 (by simpa using h1) (by simpa using h2) hk
theorem Jd{kindOf:Str->Option NameKind}{x:Str}{v:Value}:∀{P:List Str}{vs:List Value}{i:Nat}{m:Str->Option Value},P.Nodup->P[i]?=some x->vs[i]?=some v->kindOf x≠some .local ->
  bindC kindOf (P.zip vs) m x=some v
 | [],_,_,_,_,h,_,_=>by simp at h
 |_::_,[],_,_,_,_,h,_=>by simp at h
 |p::P,w::vs,0,m,nd,h1,h2,hk=>by simp at h1 h2;subst h1;subst h2;show bindC kindOf ((p,w)::P.zip vs) m p=_;unfold bindC;rw[Jc λv hv=>(uG.mp nd).1 (vG hv).1,if_neg hk];simp
 |p::P,w::vs,i+1,m,nd,h1,h2,hk=>by show bindC kindOf ((p,w)::P.zip vs) m x=_;unfold bindC;exact Jd (i:=i) (uG.mp nd).2 (by simpa using h1) (by simpa using h2) hk
noncomputable def start(N:List Str)(vs:List V):St:=vs.map some++List.replicate (N.length-vs.length) none
noncomputable def L7(CX:CXT)(P:Program)(w:World)(K:Fg)(mg:Str->Option Value)(base:Heap)(N:List Str)(qual:Str)(scope:Scope)(f:Addr)(cd:Value)(A:Around)(outer:List Env)(s:Shared)(H:Hp)(E:XK):Cx where
 prog:=P
 w:=w
 K:=K
 mg:=mg
 base:=base
 A:=A.deeper (envOfC qual scope s.heap.objs.size f cd)
 N:=N
 zZ:=s
 zu:=H
 env:=envOfC qual scope s.heap.objs.size f cd
 outer:=outer
 stack:=envOfC qual scope s.heap.objs.size f cd::outer
 ex:=[]
 calm:=true
 fn:=λ_=>true
 pn:=[]
 xe:=λe s'=>wpAny (model P w) (A.deeper (envOfC qual scope s.heap.objs.size f cd)) (leaving (envOfC qual scope s.heap.objs.size f cd) e) (λ_ lV=>CX outer H s E e lV) (λe' lV=>CX outer H s E e' lV) s'
theorem La{sc:Scope}{n:Nat}{x:Str}(h:sc.names.lookup x=some .cell):∃c,(cellsFrom n sc.names []).lookup x=some c:=by have q:=PySem.W.cellsFrom_some sc.names n [] (.inl h);exact vF.mp q
theorem NA{CX:CXT}{P:Program}{w:World}{K:Fg}{mg:Str->Option Value}{base:Heap}{N ps:List Str}{qual:Str}{scope:Scope}{f:Addr}{cd:Value}{A:Around}{outer:List Env}{s s1:Shared}{H:Hp}{E:XK}{us:List Value}{vs:List V}
  (S:HL N ps scope) (hd:A.handled=none) (e0:UP P w K mg base A outer s H) (hl:vs.length=ps.length) (r:Vals vs us)
  (x:InCallC s s.heap.objs.size (bindL (envOfC qual scope s.heap.objs.size f cd).kindOf (ps.zip us) λ_=>none) (cellsFrom (s.heap.objs.size+1) scope.names []) (bindC (envOfC qual scope s.heap.objs.size f cd).kindOf (ps.zip us) λ_=>none) s1) :
  Inv (L7 CX P w K mg base N qual scope f cd A outer s H E) [] (start N vs) H s1:=by
 have aI:ps.length<=N.length:=by have:=congrArg List.length S.pre;rw[uN]at this;lia
 obtain⟨h1,tk,rfl,hk⟩:=x.done;have jw:∀b:Addr,b∉(L7 CX P w K mg base N qual scope f cd A outer s H E).ex:=λb z=>absurd (show b∈([]:List Addr)from z) (by simp)
 refine⟨⟨e0.mod,S.kind,rfl,rfl,uh _,λy z c h1 h2=>?_,λy hy=>?_,λy c _ h=>?_,λ_=>hd,Around.frames_deeper e0.frames,.inr ⟨rfl,rfl⟩,λb z=>absurd z (jw b),e0.bs,e0.zA,λb _ _=>jw b,λb z=>absurd z (jw b),e0.KR,e0.zo⟩,
  rfl,e0.bare,Un.kept hk,⟨_,x.toInCall.ns,λi y v h1 h2 h3=>?_⟩,λy c h=>⟨_,x.cell y c h⟩,e0.z9.fresh (uh _),λy c h=>?_,λp hp=>absurd (show p∈([]:List (Addr×Obj))from hp) (by simp),e0.z9.kept hk,?_⟩
 .exact name_of_addr x.apart (PySem.mem_of_lookup h1) (PySem.mem_of_lookup h2)
 .have hy:scope.names.lookup y=some .cell\/scope.names.lookup y=some .free:=hy;rcases hy with hy|hy
  .exact La hy
  .exact absurd rfl (S.yU _ (PySem.mem_of_lookup hy))
 .exact vT (x.above y c (PySem.mem_of_lookup h))
 .have hi:i<vs.length:=by
   unfold start at h2;by_cases hi:i<vs.length
   .exact hi
   .rw[u5 (by simpa using hi)]at h2;rw[List.getElem?_replicate]at h2;split at h2<;>cases h2
  have ha:vs[i]?=some v:=by unfold start at h2;rw[vz (by simpa using hi),ux]at h2;cases e:vs[i]? with|none=>rw[e]at h2;cases h2|some a=>rw[e]at h2;cases h2;rfl
  obtain⟨u,hu,rv⟩:=r.get ha;have hp:ps[i]?=some y:=by rw[<- S.pre,vY (by lia)];exact h1
  have nQ:ps.Nodup:=by rw[<- S.pre];exact S.nd.sublist (vt _ _)
  refine⟨u,rv,?_⟩;rcases S.par y (uP hp)with k|k
  .exact .inl ⟨k,Jb nQ hp hu k⟩
  .obtain⟨c,e⟩:=La (n:=s.heap.objs.size+1) k;refine .inr ⟨.inl k,c,e,?_⟩;have q:=x.cell y c e;rw[Jd nQ hp hu (by show scope.names.lookup y≠_;rw[k];decide)]at q;exact q
 .exact e0.z9.fresh (vT (x.above y c (PySem.mem_of_lookup h)))
 .unfold start;show _=N.length;rw[uH,tZ,List.length_replicate]
  lia
section
variable{X:Cx}{x:Str}{p pos:Pos}{e:Expr}{es:List Expr}{t:TA}{id T:String}{r:List V->Hp->VK->Prop}
def tCB(r:List V->Hp->VK->Prop)(t:TA):TE:=λU H Q=>t U H λvs H1=>r vs H1 Q
theorem EO(hc:BZ X (.builtin id) r)(hg:Gl X x)(hm:X.mg x=none)(hv:bootBuiltins x=some (.builtin id))(ha:PA X (e::es) t)(hn:x≠"__name__":=by decide)(aQ:(x==("__debug__":Str))=false:=by decide)
  (he:starEach (e::es) X.env=(false,eval e X.env)::starEach es X.env:=by rfl) (aI:(backTo pos (starEach es X.env)).any (·.1)=false:=by rfl):PE X (.Call (.Name x p) (e::es) [] pos) (tCB r t):=by
 intro aa s U H Q I h;refine wpAny_Call_Name_kw (Dm I hg hm hv ?_ hn aQ);exact PyProof.Rows.callWith_builtin1 (thn (ha pos aa s U H _ I h) λus s1 ⟨vs,H1,I1,r1,q1⟩=>hc aa s1 U H1 vs us Q I1 r1 q1) he aI
theorem MW(hc:BZ X (.type T) r)(hg:Gl X x)(hm:X.mg x=none)(hv:bootBuiltins x=some (.type T))(ha:PA X (e::es) t)(hn:x≠"__name__":=by decide)(aQ:(x==("__debug__":Str))=false:=by decide)
  (he:starEach (e::es) X.env=(false,eval e X.env)::starEach es X.env:=by rfl) (aI:(backTo pos (starEach es X.env)).any (·.1)=false:=by rfl):PE X (.Call (.Name x p) (e::es) [] pos) (tCB r t):=by
 intro aa s U H Q I h;refine wpAny_Call_Name_kw (Dm I hg hm hv ?_ hn aQ);exact callWith_type1 (thn (ha pos aa s U H _ I h) λus s1 ⟨vs,H1,I1,r1,q1⟩=>hc aa s1 U H1 vs us Q I1 r1 q1) he aI
end
end L2
namespace HT
open PySem PyProof.Rows
section
open PySem.SeqAt
open PySem.AutoSeq1 (wpAny_loadPart')
open PySem.MeetsSeq PySem.MeetsSeq2 PySem.MeetsSeq3
end
section
variable{prog:Program}{w:World}{A:Around}{E:Value->Shared->Prop}{s:Shared}
theorem UH(ht:IsTup s.heap t vs.toArray)(hb:IsTup s.heap b ws.toArray)(hv:vs≠[])
  (h1:ws=[]->Q (.ref t) s) (h2:ws≠[]->Q (.ref s.heap.objs.size) {s with heap:=s.heap.push {cls:=.type "tuple",data:=.seq (vs++ws).toArray} })
  (hsz:vs.length+ws.length<=sizeLine):wpAny (model prog w) A (binaryOp .Add (.ref t) (.ref b)) Q E s:=by
 obtain⟨⟨cls,dd,data,sl⟩,ho,hc,n,hd⟩:=id ht;obtain⟨⟨kz,jL,data2,ki⟩,gg,cL,n2,hd2⟩:=id hb;simp only at hc hd cL hd2;subst hc hd cL hd2;have e:vs.toArray++ws.toArray=(vs++ws).toArray:=by simp
 by_cases hw:ws=[]
 .exact concat_meets ⟨_,ho,rfl⟩ ⟨_,gg,rfl⟩ noFill_tuple_add seq_tuple_add slot_tuple_add entry_tuple_add (args_tuple_add_2 _ _)
   (tuple_addW1 t b vs.toArray ws.toArray n n2 dd jL sl ki (by simpa using hv) (by simp[hw])) ⟨ho,gg,h1 hw⟩
 .refine concat_meets ⟨_,ho,rfl⟩ ⟨_,gg,rfl⟩ noFill_tuple_add seq_tuple_add slot_tuple_add entry_tuple_add (args_tuple_add_2 _ _)
   (tuple_addW2 t b vs.toArray ws.toArray n n2 dd jL sl ki (by simpa using hv) (by simpa using hw) (by rw[ua,ua];exact hsz)) ⟨ho,gg,?_⟩
  rw[e];exact h2 hw
noncomputable def sIx(n d:Nat):Option Int->Nat
 |none=>d
 |some v=>if v<0 then(v+(n:Int)).toNat else min v.toNat n
theorem Jx(n d k:Nat):sIx n d (some (k:Int))=min k n:=by show(if(k:Int)<0 then((k:Int)+(n:Int)).toNat else min (k:Int).toNat n)=min k n;rw[if_neg (by lia),uO]
theorem VE(n d:Nat)(hd:d<=n)(o:Option Int):sIx n d o<=n:=by
 cases o with
 |none=>exact hd
 |some v =>
  show(if v<0 then(v+(n:Int)).toNat else min v.toNat n)<=n;by_cases hv:v<0
  .rw[if_pos hv];lia
  .rw[if_neg hv];exact Nat.min_le_right _ _
theorem Oe(v:Int)(n d:Nat):(if v<0 then max (v+(n:Int)) 0 else min v (n:Int))=((sIx n d (some v):Nat):Int):=by
 show(if v<0 then max (v+(n:Int)) 0 else min v (n:Int))=(((if v<0 then(v+(n:Int)).toNat else min v.toNat n):Nat):Int);by_cases hv:v<0
 .simp only[if_pos hv];lia
 .simp only[if_neg hv];lia
theorem Md(lo hi:Option Int)(n:Nat):Builtin.Slice.sliceAdjust lo hi 1 (n:Int)=(((sIx n 0 lo:Nat):Int),((sIx n n hi:Nat):Int)):=by
 have h1:¬((1:Int)<0):=by lia
 unfold Builtin.Slice.sliceAdjust;simp only[h1,if_false];refine Prod.ext ?_ ?_
 .cases lo with|none=>rfl|some v=>exact Oe v n 0
 .cases hi with|none=>rfl|some v=>exact Oe v n n
theorem LG(i j:Nat):Builtin.Slice.slicePlaces (i:Int) (j:Int) 1=j-i:=by
 unfold Builtin.Slice.slicePlaces;have h1:(1:Int)>0:=by lia
 simp only[h1,if_true,Int.ediv_one];split<;>lia
theorem Gv(p:IsPart v o)(h:Q o s):wpAny (model prog w) A (Builtin.Slice.slicePartIndex v) Q E s:=by cases p with|none=>exact slicePart_none h|int i t=>exact slicePart_int h
theorem CN{sl:Addr}{vl vu:Value}{lo hi:Option Int}{n:Nat}{Q:Int×Int×Nat->Shared->Prop}(hs:s.heap.IsSliceOf sl vl vu .none)(pl:IsPart vl lo)(pu:IsPart vu hi)
  (h:Q (((sIx n 0 lo:Nat):Int),1,sIx n n hi-sIx n 0 lo) s):wpAny (model prog w) A (Builtin.Slice.sliceApplied (.ref sl) (pure (n:Int))) Q E s:=by
 obtain⟨os,fL,iE,i8⟩:=id hs;unfold Builtin.Slice.sliceApplied Builtin.Slice.sliceFields;refine tM (tM (uw fL i8 (x:=vl) rfl (tM (uw fL i8 (x:=vu) rfl (tM (uw fL i8 (x:=.none) rfl (tS ?_)))))));refine tM (slicePart_none ?_);show wpAny _ _ (if((1:Int)==0)=true then _ else _) _ _ s;rw[if_neg (by decide)];refine tM (Gv pl (tM (Gv pu (tM (tS ?_)))));show wpAny _ _ (match Builtin.Slice.sliceAdjust lo hi 1 (n:Int)with|(lo,hi)=>pure (lo,(1:Int),Builtin.Slice.slicePlaces lo hi 1)) _ _ s;rw[Md lo hi n];show wpAny _ _ (pure (((sIx n 0 lo:Nat):Int),(1:Int),Builtin.Slice.slicePlaces ((sIx n 0 lo:Nat):Int) ((sIx n n hi:Nat):Int) 1)) _ _ s;rw[LG];exact tS h
theorem O9(xs:Array Value)(i k:Nat):((List.range k).filterMap λ(m:Nat)=>xs[((i:Int)+(m:Int)*1).toNat]?).toArray=((xs.toList.drop i).take k).toArray:=by
 have e:(λ(m:Nat)=>xs[((i:Int)+(m:Int)*1).toNat]?)=λm=>xs[i+m]?:=by
  funext m;have:((i:Int)+(m:Int)*1).toNat=i+m:=by lia
  rw[this]
 rw[e];have:=pick_run xs i k;rw[List.filterMap_map]at this;have e2:((λx=>xs[x]?)∘λx=>i+x)=λm=>xs[i+m]?:=rfl
 rw[e2]at this;rw[this]
theorem Ef{t sl:Addr}{items:Array Value}{vl vu:Value}{lo hi:Option Int}{Q:Value->Shared->Prop}(ht:IsTup s.heap t items)(hs:s.heap.IsSliceOf sl vl vu .none)(pl:IsPart vl lo)(pu:IsPart vu hi)
  (hw:¬(sIx items.size 0 lo=0/\sIx items.size items.size hi=items.size))
  (h:Q (.ref s.heap.objs.size) {s with heap:=s.heap.push {cls:=.type "tuple",data:=.seq ((items.toList.drop (sIx items.size 0 lo)).take (sIx items.size items.size hi-sIx items.size 0 lo)).toArray} })
  (hsz:items.size<=sizeLine):wpAny (model prog w) A (getItem (.ref t) (.ref sl)) Q E s:=by
 have en:sizeOk (.seq ((items.toList.drop (sIx items.size 0 lo)).take (sIx items.size items.size hi-sIx items.size 0 lo)).toArray):=by
  show((items.toList.drop (sIx items.size 0 lo)).take (sIx items.size items.size hi-sIx items.size 0 lo)).toArray.size<=sizeLine;rw[ua,uN,vg,vf]
  lia
 have hj:sIx items.size items.size hi<=items.size:=VE _ _ (uh _) hi;obtain⟨os,fL,iE,i8⟩:=id hs;have kJ:s.TypeIs (.ref sl) "slice":=⟨os,fL,iE⟩
 unfold getItem
 try with_reducible refine wpAny_holding ?_
 first|refine tM (tS ?_)|skip
 refine tM (wpAny_sequenceKey ht.typeIs (by decide) ?_);refine tM (wpAny_callSpecial?_slot (name:=Str.ofString "__getitem__") ht.typeIs slot_tuple_getitem
  (wpAny_call_entry slot_tuple_getitem ht.typeIs entry_tuple_getitem ?_ (args_tuple_getitem _ _)))
 show wpAny _ _ (Builtin.Tuple.tupleItemsOf (.ref t) >>= _) _ _ s;refine tM (tupleItemsOf_ ht ?_);refine tM (wpAny_typeOf kJ ?_);rw[if_pos (by decide)];refine tM (CN hs pl pu ?_);have k6:¬((((sIx items.size 0 lo:Nat):Int)==0&&(1:Int)==1&&(sIx items.size items.size hi-sIx items.size 0 lo)==items.size)=true):=by intro q;rw[uq,uq]at q;have q1:((sIx items.size 0 lo:Nat):Int)=0:=eq_of_beq q.1.1;have q2:sIx items.size items.size hi-sIx items.size 0 lo=items.size:=eq_of_beq q.2;exact hw ⟨by lia,by lia⟩
 show wpAny _ _ (if(((sIx items.size 0 lo:Nat):Int)==0&&(1:Int)==1&&(sIx items.size items.size hi-sIx items.size 0 lo)==items.size)=true then _ else _) _ _ s;rw[if_neg k6,O9]
 first
  |exact tM (m:=Builtin.Tuple.tupleExact _) (wpAny_newObj_type (tS ⟨_,rfl,tS h⟩) en)
  |exact tM (m:=Builtin.Tuple.tupleExact _) (wpAny_newObj_type (tM (tS (tS ⟨_,rfl,tS h⟩))) en)
  |exact tM (tM (m:=Builtin.Tuple.tupleExact _) (wpAny_newObj_type (tS (tS ⟨_,rfl,tS h⟩)) en))
  |exact tM (tM (m:=Builtin.Tuple.tupleExact _) (wpAny_newObj_type (tS ⟨_,rfl,tS h⟩) en))
end
end HT
namespace L2
open PySem PySem.Spec PyProof.Rows
abbrev TO:=St->Hp->(Option Int->Hp->Prop)->Prop
def PO(X:Cx)(e:Option Expr)(t:TO):Prop :=
 ∀(aa:List (Addr×Obj))(s:Shared)(U:St)(H:Hp)(Q:Option Int->Hp->Prop),Inv X aa U H s->t U H Q ->
  wpAny (model X.prog X.w) X.A (evalPart e X.env) (λu s'=>∃o H',Inv X aa U H' s'/\IsPart u o/\Q o H') X.xe s
def Sa:TO:=λ_ H Q=>Q none H
def ZK(t:TE):TO:=λU H Q=>t U H λx H1=>∃i,x=.int i/\Q (some i) H1
theorem intsAre_of:∀{us:List Value},Vals (ns.map V.int) us->IntsAre us ns:=by induction ns with|nil=>intro us r;rw[u3]at r;cases r;exact .nil|cons n ns ih =>intro us r;rw[tR]at r;cases r with|cons r1 r2 =>obtain⟨t,e⟩:=r1;subst e;exact .cons n t (ih r2)
section
variable{X:Cx}{e:Expr}{te:TE}{lo hi:Option Expr}{tl th:TO}{pos p2:Pos}
theorem Sw:PO X none Sa:=by intro aa s U H Q I h;rw[evalPart_none];exact tS ⟨none,H,I,.none,h⟩
theorem Sv(h:PE X e te):PO X (some e) (ZK te):=by
 intro aa s U H Q I hw;rw[evalPart_some];refine thn (h aa s U H _ I hw) λu s1 ao=>?_
 obtain⟨x,H1,I1,r1,q1⟩:= ao;obtain⟨i,rfl,q⟩:=q1;obtain⟨t,rfl⟩:=r1;exact⟨some i,H1,I1,.int i t,q⟩
def SlR(X:Cx)(r:V->Option Int->Option Int->Hp->VK->Prop):Prop :=
 ∀(aa:List (Addr×Obj))(s:Shared)(U:St)(H:Hp)(x:V)(v vl vu:Value)(lo hi:Option Int)(sl:Addr)(Q:VK),Inv X aa U H s->RelV x v->s.heap.IsSliceOf sl vl vu .none->IsPart vl lo->IsPart vu hi->r x lo hi H Q ->
  ∃T id,typeLookup (.type T) "__getitem__"=pure (some (.builtin id))/\s.TypeIs v T/\wpAny (model X.prog X.w) X.A (getItem v (.ref sl)) (EP X aa U Q) X.xe s
theorem SlR.or(h:SlR X r)(h':SlR X r'):SlR X (λx lo hi H Q=>r x lo hi H Q\/r' x lo hi H Q):=by
 intro aa s U H x v vl vu lo hi sl Q I rx hs pl pu q;rcases q with q|q
 .exact h aa s U H x v vl vu lo hi sl Q I rx hs pl pu q
 .exact h' aa s U H x v vl vu lo hi sl Q I rx hs pl pu q
def tSl(r:V->Option Int->Option Int->Hp->VK->Prop)(te:TE)(tl th:TO):TE:=λU H Q=>te U H λx H1=>tl U H1 λl H2=>th U H2 λu H3=>r x l u H3 Q
theorem Kv{r:V->Option Int->Option Int->Hp->VK->Prop}(hr:SlR X r)(he:PE X e te)(hl:PO X lo tl)(hu:PO X hi th):PE X (.Subscript e (.Slice lo hi none p2) pos) (tSl r te tl th):=by
 intro aa s U H Q I h;refine Subscript_ (thn (he aa s U H _ I h) λv s1 ao=>?_);obtain⟨x,H1,I1,r1,q1⟩:= ao;refine wpAny_Slice (thn (hl aa s1 U H1 _ I1 q1) λvl s2 ⟨l,H2,I2,pl,q2⟩=>thn (hu aa s2 U H2 _ I2 q2) λvu s3 ao=>?_);obtain⟨u,H3,I3,pu,q3⟩:= ao;rw[evalPart_none];refine tS ?_;have I4:Inv X aa U H3 {s3 with heap:=s3.heap.push {cls:=.type "slice",data:=.fields #[vl,vu,.none]} }:=I3.kept (t':=s3.toks) λb ob q=>tN _ q
 obtain⟨T,id,hT,ht,hg⟩:=hr aa {s3 with heap:=s3.heap.push {cls:=.type "slice",data:=.fields #[vl,vu,.none]} } U H3 x v vl vu l u s3.heap.objs.size Q I4 r1 (Heap.IsSliceOf.new ..) pl pu q3;show wpAny (model X.prog X.w) X.A (subscriptTail e (.Slice lo hi none p2) v (.ref s3.heap.objs.size)) (EP X aa U Q) X.xe {s3 with heap:=s3.heap.push {cls:=.type "slice",data:=.fields #[vl,vu,.none]} };exact tail_any (ops:=[.ref s3.heap.objs.size,v]) ht hT hg (by with_unfolding_all rfl)
noncomputable def Uy(xs:List V)(lo hi:Option Int):List V:=(xs.drop (HT.sIx xs.length 0 lo)).take (HT.sIx xs.length xs.length hi-HT.sIx xs.length 0 lo)
theorem FF(xs:List V)(lo hi:Option Int):(Uy xs lo hi).length<=xs.length:=by
 unfold Uy;rw[uN,vg]
 lia
def rSlT(K:Fg):V->Option Int->Option Int->Hp->VK->Prop:=λx lo hi H Q=>∃a xs,x=.ref a/\SqT K H a xs /\
 ¬(HT.sIx xs.length 0 lo=0/\HT.sIx xs.length xs.length hi=xs.length)/\∀p,H p=none->Q (.ref p) (upd H p (.tup (Uy xs lo hi)))
theorem Vy:SlR X (rSlT X.K):=by
 intro aa s U H x v vl vu lo hi sl Q I rx hs pl pu h;obtain⟨a,xs,rfl,hx,hw,q⟩:=h;cases rx;obtain⟨aq,r,ht,hz⟩:=I.tuple hx;have hlen:aq.toArray.size=xs.length:=by rw[ua];exact r.length.symm
 refine⟨"tuple",_,PyProof.Rows.slot_tuple_getitem.lookup,ht.typeIs,?_⟩;refine HT.Ef ht hs pl pu (by rw[hlen];exact hw) ?_ (by rw[hlen];exact hz);rw[hlen];refine⟨.ref s.heap.objs.size,_,I.laid (t':=s.toks) (o:=.tup (Uy xs lo hi)) (λb ob q=>tN _ q) (uh _) ?_,rfl,q _ (I.z9.fresh (uh _))⟩;exact⟨uz (FF xs lo hi) hz,_,(r.drop (HT.sIx xs.length 0 lo)).take (HT.sIx xs.length xs.length hi-HT.sIx xs.length 0 lo),PlT.new _ _⟩
def VL(K:Fg):R2:=λx y H Q=>∃a b xs ys,x=.ref a/\y=.ref b/\SqT K H a xs/\SqT K H b ys/\xs≠[]/\xs.length+ys.length<=sizeLine /\
 (ys=[]->Q (.ref a) H)/\(ys≠[]->∀p,H p=none->Q (.ref p) (upd H p (.tup (xs++ys))))
theorem Vals.JI(r:Vals xs us):us=[]↔xs=[]:=by cases r with|nil=>simp|cons _ _=>simp
theorem SU:OpR X (binaryOp .Add) (VL X.K):=by intro aa s U H x y v u Q I rx ry h;obtain⟨a,b,xs,ys,rfl,rfl,ha,hb,hx,hz,q1,q2⟩:=h;cases rx;cases ry;obtain⟨aq,r1,p1,_⟩:=I.tuple ha;obtain⟨aZ,r2,p2,_⟩:=I.tuple hb;refine HT.UH p1 p2 (λz=>hx (r1.JI.mp z)) (λz=>⟨.ref a,H,I,rfl,q1 (r2.JI.mp z)⟩) (λz=>?_) (by rw[<- r1.length,<- r2.length];exact hz);refine⟨.ref s.heap.objs.size,_,I.laid (λb ob q=>tN _ q) (uh _) ?_,rfl,q2 (λw=>z (r2.JI.mpr w)) _ (I.z9.fresh (uh _))⟩;exact⟨by rw[uH];exact hz,_,r1.append r2,PlT.new _ _⟩
end
noncomputable def ixN(n:Nat)(i:Int):Option Nat:=if 0<=i then(if i<n then some i.toNat else none)else if -(n:Int)<=i then some (i+n).toNat else none
noncomputable def atI{α:Type}(xs:List α)(i:Int):Option α:=(ixN xs.length i).bind λj=>xs[j]?
theorem Nv(h:ixN n i=some j):seqIndex? i n=some j/\j<n/\-(n:Int)<=i/\i<n:=by
 unfold ixN at h;by_cases h0:0<=i
 .rw[if_pos h0]at h;by_cases h1:i<n
  .rw[if_pos h1]at h;have e:=Option.some.inj h;exact⟨by rw[seqIndex_of h0 h1,e],by lia,by lia,h1⟩
  .rw[if_neg h1]at h;cases h
 .rw[if_neg h0]at h;by_cases h1:-(n:Int)<=i
  .rw[if_pos h1]at h;have e:=Option.some.inj h;exact⟨by rw[seqIndex_neg (by lia) h1,e],by lia,h1,by lia⟩
  .rw[if_neg h1]at h;cases h
theorem Kg(h:atI xs i=some v):∃j,seqIndex? i xs.length=some j/\xs[j]?=some v/\j<xs.length/\-(xs.length:Int)<=i/\i<xs.length:=by unfold atI at h;cases e:ixN xs.length i with|none=>rw[e]at h;cases h|some j =>rw[e]at h;obtain⟨h1,h2,h3,h4⟩:=Nv e;exact⟨j,h1,h,h2,h3,h4⟩
theorem BF{α:Type}{xs:List α}{j:Nat}{v:α}(h:xs[j]?=some v):atI xs (j:Int)=some v:=by
 have hj:j<xs.length:=(tX.mp h).1;have e:ixN xs.length (j:Int)=some j:=by unfold ixN;rw[if_pos (by lia),if_pos (by lia)];simp
 unfold atI;rw[e];exact h
def Kk(b:Expr):Prop:=∀o i,subscripted b false o i=operate [o,i] (getItem o i)
def IxR(X:Cx)(r:R2):Prop :=
 ∀(value slice:Expr)(aa:List (Addr×Obj))(s:Shared)(U:St)(H:Hp)(x y:V)(v u:Value)(Q:VK),Inv X aa U H s->RelV x v->RelV y u->r x y H Q ->
  subscripted slice false v u=operate [v,u] (getItem v u)->wpAny (model X.prog X.w) X.A (subscriptTail value slice v u) (EP X aa U Q) X.xe s
def MtR(X:Cx)(id:String)(r:V->List V->Hp->VK->Prop):Prop :=
 ∀(aa:List (Addr×Obj))(s:Shared)(U:St)(H:Hp)(x:V)(xs:List V)(v:Value)(us:List Value)(Q:VK),Inv X aa U H s->RelV x v->Vals xs us->r x xs H Q ->
  wpAny (model X.prog X.w) X.A (call (.builtin id) (v::us)) (EP X aa U Q) X.xe s
section
variable{X:Cx}{a b:Expr}{ta tb:TE}{pos:Pos}
theorem IxR.or(h:IxR X r)(h':IxR X r'):IxR X (λx y H Q=>r x y H Q\/r' x y H Q):=by
 intro value slice aa s U H x y v u Q I rx ry q hs;rcases q with q|q
 .exact h value slice aa s U H x y v u Q I rx ry q hs
 .exact h' value slice aa s U H x y v u Q I rx ry q hs
theorem Z7(hr:IxR X r)(ha:PE X a ta)(hb:PE X b tb)(hs:Kk b):PE X (.Subscript a b pos) (tOp r ta tb):=by intro aa s U H Q I h;exact Subscript_ (Jba ha hb I h λv u s2 x y H2 I2 rx ry q=>hr a b aa s2 U H2 x y v u Q I2 rx ry q (hs _ _))
def Jbm(K:Fg):R2:=λx y H Q=>∃p xs i v,x=.ref p/\y=.int i/\SqL K H p xs/\atI xs i=some v/\Q v H
def Jbk(K:Fg):R2:=λx y H Q=>∃p xs i v,x=.ref p/\y=.int i/\SqT K H p xs/\atI xs i=some v/\Q v H
def Jbl:R2:=λx y H Q=>∃z i c,x=.str z/\y=.int i/\z.length<=sizeLine/\atI z.cps.toList i=some c/\Q (.str ⟨#[c]⟩) H
theorem Tu:IxR X (Jbm X.K):=by
 intro value slice aa s U H x y v u Q I rx ry h hs;obtain⟨p,xs,i,z,rfl,rfl,hq,he,q⟩:=h;cases rx;obtain⟨t,rfl⟩:=ry;obtain⟨aq,r,pl,hz⟩:=I.list hq;obtain⟨j,h1,h2,h3,h4,h5⟩:=Kg he;obtain⟨w,ew,dP⟩:=r.get h2;have hl:=r.length;have hn:=Ft;have aT:EP X aa U Q w s:=⟨z,H,I,dP,q⟩
 by_cases h0:0<=i
 .have hj:i.toNat=j:=by rw[seqIndex_of h0 h5]at h1;exact Option.some.inj h1
  exact item_listR pl.isList h0 (by lia) (by rw[hj];simpa using ew) aT hs
 .have hj:(i+(aq.toArray.size:Int)).toNat=j:=by rw[seqIndex_neg (by lia) h4]at h1;rw[ua,<- hl];exact Option.some.inj h1
  exact subscriptTail_builtinR (x:=w) pl.isList.typeIs slot_list_getitem.lookup
   (wpAny_getItem_list_neg (Q:=λr s'=>r=w/\EP X aa U Q r s') pl.isList (by lia) (by rw[ua]<;>lia) (by lia) (by rw[hj];simpa using ew) ⟨rfl,aT⟩) hs
theorem W5:IxR X (Jbk X.K):=by
 intro value slice aa s U H x y v u Q I rx ry h hs;obtain⟨p,xs,i,z,rfl,rfl,hq,he,q⟩:=h;cases rx;obtain⟨t,rfl⟩:=ry;obtain⟨aq,r,pl,hz⟩:=I.tuple hq;obtain⟨j,h1,h2,h3,h4,h5⟩:=Kg he;obtain⟨w,ew,dP⟩:=r.get h2;have hl:=r.length;have hn:=Ft;have aT:EP X aa U Q w s:=⟨z,H,I,dP,q⟩
 exact subscriptTail_builtinR (x:=w) pl.typeIs slot_tuple_getitem.lookup
  (getItem_tuple (j:=j) (Q:=λr s'=>r=w/\EP X aa U Q r s') pl (by lia) (by lia) (by rw[ua,<- hl];exact h1) (by simpa using ew) ⟨rfl,aT⟩) hs
theorem W6:IxR X Jbl:=by
 intro value slice aa s U H x y v u Q I rx ry h hs;obtain⟨z,i,c,rfl,rfl,hz,he,q⟩:=h;obtain⟨t,rfl⟩:=rx;obtain⟨t',rfl⟩:=ry;obtain⟨j,h1,h2,h3,h4,h5⟩:=Kg he;have hl:z.cps.toList.length=z.length:=by simp[Str.length]
 rw[hl]at h1 h4 h5;have hn:=Ft;exact tail_any (typeIs_str s z t) slot_str_getitem.lookup (getItem_str (c:=c) (by have e1:decide (i < -(2^63:Int))=false:=uA (by lia);have e2:decide (i>=2^63)=false:=uA (by lia);rw[e1,e2,Bool.or_false]) (by rw[h1];simpa using h2) ⟨.str ⟨#[c]⟩,H,I.tok _,⟨_,rfl⟩,q⟩) hs
def rIx(K:Fg):R2:=λx y H Q=>Jbm K x y H Q\/Jbk K x y H Q\/Jbl x y H Q
theorem W7:IxR X (rIx X.K):=Tu.or (W5.or W6)
theorem LO(aq:List Value)(n j:Nat)(u:Value):Obj.mapSeq (·.setIfInBounds j u) {cls:=.type "list",data:=.seq aq.toArray n}={cls:=.type "list",data:=.seq (aq.set j u).toArray n}:=by simp[Obj.mapSeq]
theorem Inv.lst(I:Inv X aa U H s)(h:H p=some (.lst xs)) :
  ∃(aq:List Value)(n:Nat),Vals xs aq/\s.heap.get? p=some {cls:=.type "list",data:=.seq aq.toArray n}/\xs.length<=sizeLine:=by
 obtain⟨z,aq,n,r,e⟩:=I.z9 p _ h;exact⟨aq,n,r,e,z⟩
theorem Inv.WV{aa:List (Addr×Obj)}{U:St}{H:Hp}{s:Shared}{p:Addr}{xs ys:List V}{aq aS:List Value}{n n':Nat}{f:Obj->Obj}(I:Inv X aa U H s)(h:H p=some (.lst xs))
  (ho:s.heap.get? p=some {cls:=.type "list",data:=.seq aq.toArray n}) (hf:f {cls:=.type "list",data:=.seq aq.toArray n}={cls:=.type "list",data:=.seq aS.toArray n' }) (r:Vals ys aS) (hz:ys.length<=sizeLine) (t:Nat) :
  Inv X aa U (upd H p (.lst ys)) {s with heap:=s.heap.update p f,toks:=t}:=by
 have e:(s.heap.update p f).get? p=some {cls:=.type "list",data:=.seq aS.toArray n' }:=by rw[uX f ho (by rw[hf]<;>rfl),hf]
 refine I.write (x:=p) (e:=p) (by rw[h];trivial) (.inl rfl) (λb u hb q=>(uU _ _ (Ne.symm hb)).trans q) ⟨_,e⟩ ?_;exact⟨hz,aS,n',r,e⟩
def OW:V->V->V->Hp->(Hp->Prop)->Prop:=λo i v H Q=>∃p xs k j,o=.ref p/\i=.int k/\H p=some (.lst xs)/\ixN xs.length k=some j/\Q (upd H p (.lst (xs.set j v)))
theorem set_list:QL X OW:=by
 intro aa s U H o i v ov iv u Q I ro ri rv h;obtain⟨p,xs,k,j,rfl,rfl,hp,hj,q⟩:=h;cases ro;obtain⟨t,rfl⟩:=ri;obtain⟨aq,n,r,ho,hz⟩:=I.lst hp;obtain⟨h1,h2,h3,h4⟩:=Nv hj;have hl:=r.length;have hn:=Ft;have I':Inv X aa U (upd H p (.lst (xs.set j v))) {s with heap:=s.heap.update p (Obj.mapSeq (·.setIfInBounds j u))} :=
  I.WV hp ho (LO aq n j u) (r.set rv j) (by rw[List.length_set];exact hz) s.toks
 by_cases h0:0<=k
 .have hk:k.toNat=j:=by rw[seqIndex_of h0 h4]at h1;exact Option.some.inj h1
  exact PySem.W.ki_setAt ho h0 (by lia) (by rw[ua,<- hl];exact h4) (by rw[hk];exact⟨_,I',q⟩)
 .have hk:(k+(aq.toArray.size:Int)).toNat=j:=by rw[seqIndex_neg (by lia) h3]at h1;rw[ua,<- hl];exact Option.some.inj h1
  exact PySem.W.ki_setBack ho (by lia) (by rw[ua,<- hl];exact h3) (by lia) (by rw[hk];exact⟨_,I',q⟩)
theorem HX(lo hi:Option Int)(n:Nat):(sliceBounds lo hi none n).1=((HT.sIx n 0 lo:Nat):Int)/\(sliceBounds lo hi none n).2.1=((HT.sIx n n hi:Nat):Int)/\(sliceBounds lo hi none n).2.2=1:=by
 refine⟨?_,?_,rfl⟩
 .cases lo with
  |none=>simp[sliceBounds,HT.sIx]
  |some i =>
   simp only[sliceBounds,HT.sIx,Option.getD_none,show(1:Int)>0 by decide,if_true];by_cases h:i<0
   .simp only[h,if_true]<;>lia
   .simp only[h,if_false]<;>lia
 .cases hi with
  |none=>simp[sliceBounds,HT.sIx]
  |some i =>
   simp only[sliceBounds,HT.sIx,Option.getD_none,show(1:Int)>0 by decide,if_true];by_cases h:i<0
   .simp only[h,if_true]<;>lia
   .simp only[h,if_false]<;>lia
theorem GZ(aq:List Value)(lo hi:Option Int):slicePick aq.toArray lo hi none=((aq.drop (HT.sIx aq.length 0 lo)).take (HT.sIx aq.length aq.length hi-HT.sIx aq.length 0 lo)).toArray:=by obtain⟨h1,h2,h3⟩:=HX lo hi aq.toArray.size;unfold slicePick;rw[h1,h2,h3];simp only[sliceRange_one,pick_run,ua]<;>rfl
def rSlL(K:Fg):V->Option Int->Option Int->Hp->VK->Prop:=λx lo hi H Q=>∃a xs,x=.ref a/\SqL K H a xs/\∀p,H p=none->Q (.ref p) (upd H p (.lst (Uy xs lo hi)))
theorem Sg:SlR X (rSlL X.K):=by intro aa s U H x v vl vu lo hi sl Q I rx hs pl pu h;obtain⟨a,xs,rfl,hx,q⟩:=h;cases rx;obtain⟨aq,r,ht,hz⟩:=I.list hx;have hlen:=r.length;refine⟨"list",_,slot_list_getitem.lookup,ht.isList.typeIs,?_⟩;refine wpAny_getItem_list_slice ht.isList hs pl pu .none (by simp) ?_ (by rw[ua]<;>lia);rw[GZ,<- hlen];refine⟨.ref s.heap.objs.size,_,I.laid (λb ob q=>tN _ q) (uh _) ?_,rfl,q _ (I.z9.fresh (uh _))⟩;exact⟨uz (FF xs lo hi) hz,_,0,(r.drop (HT.sIx xs.length 0 lo)).take (HT.sIx xs.length xs.length hi-HT.sIx xs.length 0 lo),tY _ rfl⟩
noncomputable def Ei:V->Bool
 |.o=>true
 |.v _=>true
 |.int _=>true
 |.str _=>true
 |_=>false
noncomputable def eqV:V->V->Bool
 |.o,.o=>true
 |.v a,.v b=>a==b
 |.v a,.int b=>(if a then 1 else 0)==b
 |.int a,.v b=>a==(if b then 1 else 0)
 |.int a,.int b=>a==b
 |.str a,.str b=>a==b
 |_,_=>false
theorem RC(ry:RelV y u)(rx:RelV x v)(fy:Ei y=true)(fx:Ei x=true):SeqAt.EqAt A s u v (eqV y x):=by
 cases y with
 |o =>cases ry;cases x with|o=>cases rx;exact SeqAt.EqAt.same _|v b=>cases rx;exact SeqAt.EqAt.none_bool b|int b=>obtain⟨t,rfl⟩:=rx;exact SeqAt.EqAt.none_int b t|str b=>obtain⟨t,rfl⟩:=rx;exact SeqAt.EqAt.none_str b t|_=>exact absurd (show false=true from fx) uu
 |v a =>cases ry;cases x with|o=>cases rx;exact SeqAt.EqAt.bool_none a|v b=>cases rx;exact SeqAt.EqAt.bool_bool a b|int b=>obtain⟨t,rfl⟩:=rx;exact SeqAt.EqAt.bool_int a b t|str b=>obtain⟨t,rfl⟩:=rx;exact SeqAt.EqAt.bool_str a b t|_=>exact absurd (show false=true from fx) uu
 |int a =>obtain⟨t',rfl⟩:=ry;cases x with|o=>cases rx;exact SeqAt.EqAt.int_none a t'|v b=>cases rx;exact SeqAt.EqAt.int_bool a t' b|int b=>obtain⟨t,rfl⟩:=rx;exact SeqAt.EqAt.int_int a t' b t|str b=>obtain⟨t,rfl⟩:=rx;exact SeqAt.EqAt.int_str a t' b t|_=>exact absurd (show false=true from fx) uu
 |str a =>obtain⟨t',rfl⟩:=ry;cases x with|o=>cases rx;exact SeqAt.EqAt.str_none a t'|v b=>cases rx;exact SeqAt.EqAt.str_bool a t' b|int b=>obtain⟨t,rfl⟩:=rx;exact SeqAt.EqAt.str_int a t' b t|str b=>obtain⟨t,rfl⟩:=rx;exact SeqAt.EqAt.str_str a t' b t|_=>exact absurd (show false=true from fx) uu
 |_=>exact absurd (show false=true from fy) uu
noncomputable def eqU(x:V)(u:Value):Bool:=match u with|.none=>eqV .o x|.bool b=>eqV (.v b) x|.int i _=>eqV (.int i) x|.str z _=>eqV (.str z) x|_=>false
theorem Rx(r:RelV y u)(f:Ei y=true):eqU x u=eqV y x:=by cases y with|o=>cases r;rfl|v b=>cases r;rfl|int i=>obtain⟨t,rfl⟩:=r;rfl|str z=>obtain⟨t,rfl⟩:=r;rfl|_=>exact absurd (show false=true from f) uu
theorem F7:∀{xs:List V}{us:List Value},Vals xs us->xs.all Ei=true->us.any (eqU x)=xs.any λy=>eqV y x
 |_,_,.nil,_=>rfl
 |y::xs,u::us,.cons r t,f=>by rw[v7,uq]at f;rw[vL,vL,Rx r f.1,F7 t f.2]
theorem DQ(rx:RelV x v)(fx:Ei x=true):∀{xs:List V}{us:List Value},Vals xs us->xs.all Ei=true->∀u∈us,SeqAt.EqAt A s u v (eqU x u)
 |_,_,.nil,_=>λu hu=>by cases hu
 |y::xs,u::us,.cons r t,f=>λu' hu=>by
  rw[v7,uq]at f;rcases uk.mp hu with rfl|hu
  .rw[Rx r f.1];exact RC r rx f.1 fx
  .exact DQ rx fx t f.2 u' hu
noncomputable def inV(x:V)(xs:List V):Bool:=xs.any λy=>eqV y x
def rIn(K:Fg)(neg:Bool):R2:=λx y H Q=>∃p xs,y=.ref p/\(SqL K H p xs\/SqT K H p xs)/\Ei x=true/\xs.all Ei=true/\Q (.v (if neg then !inV x xs else inV x xs)) H
theorem Ir:OpR X (compareOp .In) (rIn X.K false):=by
 intro aa s U H x y v u Q I rx ry h;obtain⟨p,xs,rfl,hq,fx,fs,q⟩:=h;cases ry;rcases hq with hq|hq
 .obtain⟨aq,r,pl,hz⟩:=I.list hq;refine SeqAt.in_listAt (eqU x) pl.isList (λw hw=>DQ rx fx r fs w (by simpa using hw)) ⟨.v _,H,I,rfl,?_⟩;rw[show aq.toArray.any (eqU x)=aq.any (eqU x) by simp,F7 r fs];exact q
 .obtain⟨aq,r,pl,hz⟩:=I.tuple hq;refine SeqAt.in_tupleAt (eqU x) pl (λw hw=>DQ rx fx r fs w (by simpa using hw)) ⟨.v _,H,I,rfl,?_⟩;rw[show aq.toArray.any (eqU x)=aq.any (eqU x) by simp,F7 r fs];exact q
theorem Ip:OpR X (compareOp .NotIn) (rIn X.K true):=by
 intro aa s U H x y v u Q I rx ry h;obtain⟨p,xs,rfl,hq,fx,fs,q⟩:=h;cases ry;rcases hq with hq|hq
 .obtain⟨aq,r,pl,hz⟩:=I.list hq;refine SeqAt.notIn_listAt (eqU x) pl.isList (λw hw=>DQ rx fx r fs w (by simpa using hw)) ⟨.v _,H,I,rfl,?_⟩;rw[show aq.toArray.any (eqU x)=aq.any (eqU x) by simp,F7 r fs];exact q
 .obtain⟨aq,r,pl,hz⟩:=I.tuple hq;refine SeqAt.notIn_tupleAt (eqU x) pl (λw hw=>DQ rx fx r fs w (by simpa using hw)) ⟨.v _,H,I,rfl,?_⟩;rw[show aq.toArray.any (eqU x)=aq.any (eqU x) by simp,F7 r fs];exact q
theorem Io:OpR X (compareOp .NotIn) (λx y H Q=>∃i j,x=.str i/\y=.str j/\Q (.v (!(!(Builtin.Str.occurrences j i 0 j.length 1).isEmpty))) H):=by intro aa s U H x y v u Q I rx ry h;obtain⟨i,j,rfl,rfl,q⟩:=h;obtain⟨t,rfl⟩:=rx;obtain⟨t',rfl⟩:=ry;exact notIn_str ⟨.v _,H,I,rfl,q⟩
theorem IZ:BZ X (.builtin "len") (λxs H Q=>∃p ys,xs=[.ref p]/\(SqL X.K H p ys\/SqT X.K H p ys)/\Q (.int ys.length) H):=by
 intro aa s U H xs us Q I r h;obtain⟨p,ys,rfl,hq,q⟩:=h;obtain⟨u,rfl,rx⟩:=vals1 r;cases rx;have hn:=Ft;rcases hq with hq|hq
 .obtain⟨aq,r',pl,hz⟩:=I.list hq;have hlen:=r'.length;exact Calls.call_len_list pl.isList (by simp only[ua]<;>lia) ⟨.int ys.length,H,I.tok _,⟨s.toks+1,by rw[ua,hlen]⟩,q⟩
 .obtain⟨aq,r',pl,hz⟩:=I.tuple hq;have hlen:=r'.length;exact len_tuple pl (by simp only[ua]<;>lia) ⟨.int ys.length,H,I.tok _,⟨s.toks+1,by rw[ua,hlen]⟩,q⟩
theorem IY:BZ X (.builtin "len") (λxs H Q=>∃z,xs=[.str z]/\z.length<=sizeLine/\Q (.int z.length) H):=by intro aa s U H xs us Q I r h;obtain⟨z,rfl,hz,q⟩:=h;obtain⟨u,rfl,t,rfl⟩:=vals1 r;have hn:=Ft;exact len_str (by lia) ⟨.int z.length,H,I.tok _,⟨_,rfl⟩,q⟩
theorem IX:BZ X (.type "list") (λxs H Q=>∃p ys,xs=[.ref p]/\(SqL X.K H p ys\/SqT X.K H p ys)/\∀l,H l=none->Q (.ref l) (upd H l (.lst ys))):=by
 intro aa s U H xs us Q I r h;obtain⟨p,ys,rfl,hq,q⟩:=h;obtain⟨u,rfl,rx⟩:=vals1 r;cases rx;have aT:∀(aq:List Value),Vals ys aq->ys.length<=sizeLine->∀(h':Heap)(c':Nat),(∀b o',s.heap.get? b=some o'->h'.get? b=some o') ->
   h'.get? s.heap.objs.size=some {cls:=.type "list",dict:=none,data:=.seq aq.toArray c',slots:=#[]}->EP X aa U Q (.ref s.heap.objs.size) {s with heap:=h' }:=λaq r' hz h' c' kp e =>
  ⟨.ref s.heap.objs.size,_,I.laid (t':=s.toks) kp (uh _) (show AZ X.prog X.w _ h' _ (.lst ys)from⟨hz,aq,c',r',e⟩),rfl,q _ (I.z9.fresh (uh _))⟩
 rcases hq with hq|hq
 .obtain⟨aq,r',pl,hz⟩:=I.list hq;have hlen:=r'.length;obtain⟨o,ho,hc,n,hd⟩:=pl.isList;exact call_list_seq p (.inl rfl) ho hc hd (λh' c' kp e=>aT aq r' hz h' c' kp e) (by simp only[ua]<;>lia)
 .obtain⟨aq,r',pl,hz⟩:=I.tuple hq;have hlen:=r'.length;obtain⟨o,ho,hc,n,hd⟩:=pl;exact call_list_seq p (.inr rfl) ho hc hd (λh' c' kp e=>aT aq r' hz h' c' kp e) (by simp only[ua]<;>lia)
theorem HE:BZ X (.type "tuple") (λxs H Q=>∃p ys,xs=[.ref p]/\((SqL X.K H p ys/\∀l,H l=none->Q (.ref l) (upd H l (.tup ys)))\/(SqT X.K H p ys/\Q (.ref p) H))):=by
 intro aa s U H xs us Q I r h;obtain⟨p,ys,rfl,h⟩:=h;obtain⟨u,rfl,rx⟩:=vals1 r;cases rx;rcases h with⟨hq,q⟩|⟨hq,q⟩
 .obtain⟨aq,r',pl,hz⟩:=I.list hq;have hlen:=r'.length;refine call_tuple_list pl.isList (λh' kp=>?_) (by simp only[ua]<;>lia);have I1:Inv X aa U H {s with heap:=h' }:=I.kept (t':=s.toks) kp;have I2:Inv X aa U (upd H h'.objs.size (.tup ys)) {s with heap:=h'.push {cls:=.type "tuple",data:=.seq aq.toArray} } :=
   I1.laid (t':=s.toks) (λb o e=>tN _ e) (uh _) (show AZ X.prog X.w _ _ _ (.tup ys)from⟨hz,aq,r',PlT.new _ _⟩)
  exact⟨.ref h'.objs.size,_,I2,rfl,q _ (I1.z9.fresh (uh _))⟩
 .obtain⟨aq,r',pl,hz⟩:=I.tuple hq;exact call_tuple_same pl ⟨.ref p,H,I,rfl,q⟩
def tyV(K:Fg)(T:String)(x:V)(H:Hp):Prop:=match x with
 |.str _=>T="str"
 |.int _=>T="int"
 |.ref p=>(T="list"/\∃xs,SqL K H p xs)\/(T="tuple"/\∃o,K.lookup p=some o/\o.cls=.type "tuple"/\o.dict=none)\/
   (T="dict"/\((∃ah,H p=some (.l ah))\/∃ah,H p=some (.dT ah)))\/(T="set"/\∃S n,H p=some (.set S n))
 |_=>False
theorem Vl{aa:List (Addr×Obj)}{U:St}{H:Hp}{s:Shared}{T:String}{x:V}{v:Value}(I:Inv X aa U H s)(r:RelV x v)(ty:tyV X.K T x H) :
  s.TypeIs v T/\∀a,v=.ref a->∃ob,s.heap.get? a=some ob/\ob.dict=none:=by
 cases x with
 |str z =>obtain⟨t,rfl⟩:=r;cases(show T="str" from ty);exact⟨typeIs_str s z t,λ_ e=>nomatch e⟩
 |int i =>obtain⟨t,rfl⟩:=r;cases(show T="int" from ty);exact⟨typeIs_int s i t,λ_ e=>nomatch e⟩
 |ref p =>
  cases r;rcases ty with⟨rfl,xs,hq⟩|⟨rfl,o,hk,hc,hd⟩|⟨rfl,hk⟩|⟨rfl,S,n,hk⟩
  .obtain⟨aq,_,pl,_⟩:=I.list hq;refine⟨pl.isList.typeIs,λa e=>?_⟩;cases e;obtain⟨o,n,e,c,hd,_⟩:=pl;exact⟨o,e,hd⟩
  .refine⟨⟨o,I.kIn p o hk,hc⟩,λa e=>?_⟩;cases e;exact⟨o,I.kIn _ o hk,hd⟩
  .have z:∃o,s.heap.get? p=some o/\o.ExactDict:=by
    rcases hk with⟨ah,hk⟩|⟨ah,hk⟩
    .obtain⟨_,_,_,_,o,_,_,e,ex,_⟩:=I.z9 p _ hk;exact⟨o,e,ex⟩
    .obtain⟨_,_,_,_,o,_,_,e,ex,_⟩:=I.z9 p _ hk;exact⟨o,e,ex⟩
   obtain⟨o,e,ex⟩:=z;refine⟨⟨o,e,ex.1⟩,λa e2=>?_⟩;cases e2;exact⟨o,e,ex.2.1⟩
  .obtain⟨o,_,_,_,e,ex,_⟩:=I.z9 p _ hk;refine⟨⟨o,e,ex.1⟩,λa e2=>?_⟩;cases e2;exact⟨o,e,ex.2.1⟩
 |_=>exact False.elim ty
def tBM(K:Fg)(T:String)(r:V->List V->Hp->VK->Prop)(to:TE)(t:TA):TE:=λU H Q=>to U H λx H1=>tyV K T x H1/\t U H1 λxs H2=>r x xs H2 Q
variable{o e:Expr}{es:List Expr}{to:TE}{t:TA}{name:Str}{aB aA:Pos}{T id:String}{r:V->List V->Hp->VK->Prop}
theorem Jab(pa:PlainAttrs T)(slot:Slot T name id)(gG:typeOf (.builtin id)=pure (.type "method_descriptor"))(hm:MtR X id r)(ho:PE X o to)(ha:PA X (e::es) t)
  (fB:attributeBase o name X.env (eval o X.env)=eval o X.env:=by rfl)
  (ip:((backTo aA (starEach (e::es) X.env)).all (λx=>!x.1)&&(backToKw aA (keywordEach [] X.env)).all (λx=>x.1.isSome)
  &&decide ((e::es).length+([]:List Keyword).length+(if([]:List Keyword).isEmpty then 0 else 1)<30))=true:=by rfl)
  (fJ:(aB.endLine==aA.line)=true:=by rfl) (hs:starEach (e::es) X.env=(false,eval e X.env)::starEach es X.env:=by rfl) (dD:(backTo aA (starEach es X.env)).any (·.1)=false:=by rfl) :
  PE X (.Call (.Attribute o name aB) (e::es) [] aA) (tBM X.K T r to t):=by
 intro aa s U H Q I h;refine wpAny_Call_method_late fB ip fJ rfl (thn (ho aa s U H _ I h) λv s1 ao=>?_);obtain⟨x,H1,I1,r1,ty,q1⟩:= ao;obtain⟨h1,h2⟩:=Vl I1 r1 ty;refine⟨T,id,pa,slot,gG,h1,h2,?_⟩;have hA:=ha aA aa s1 U H1 _ I1 q1;rw[hs]at hA ⊢;refine Calls.callWith_builtin (by show(false||(backTo aA (starEach es X.env)).any (·.1))=false;rw[dD]<;>rfl) (Calls.evalArgs_plain ?_);refine thn hA λus s2 ao => ?_
 obtain⟨vs,H2,I2,r2,q2⟩:= ao;exact hm aa s2 U H2 x vs v us Q I2 r1 r2 q2
end
def MtM(X:Cx)(id:String)(r:V->List V->Hp->VK->Prop):Prop :=
 ∀(aa:List (Addr×Obj))(s:Shared)(U:St)(H:Hp)(x:V)(xs:List V)(v:Value)(us:List Value)(Q:VK),Inv X aa U H s->RelV x v->Vals xs us->r x xs H Q ->
  wpAny (model X.prog X.w) X.A (call (.builtin id) (v::us)) (EP X aa U Q) X.xe s
theorem Vals.one:∀{x:V}{us:List Value},Vals [x] us->∃u,us=[u]/\RelV x u
 |_,_,.cons r .nil=>⟨_,rfl,r⟩
theorem Vals.reverse(h:Vals xs us):Vals xs.reverse us.reverse:=by induction h with|nil=>exact .nil|cons r t ih=>rw[vX,vX];exact Vals.append ih (.cons r .nil)
section
variable{X:Cx}{aa:List (Addr×Obj)}{U:St}{H:Hp}{s:Shared}{l b:Addr}{xs ys zs:List V}
theorem Inv.lset{aq aS:List Value}{n:Nat}{f:Array Value->Array Value}{t':Nat}(I:Inv X aa U H s)(hH:H l=some (.lst xs))
  (e:s.heap.get? l=some {cls:=.type "list",data:=.seq aq.toArray n}) (hf:f aq.toArray=aS.toArray) (hv:Vals ys aS) (hz:ys.length<=sizeLine) :
  Inv X aa U (upd H l (.lst ys)) {s with heap:=s.heap.update l (Obj.mapSeq f),toks:=t' }:=by
 have q:=PySem.IsL.update e f;rw[hf]at q;refine I.write (by rw[hH];exact trivial) (.inl rfl) (λb' u hb hu=>(uU s.heap (Obj.mapSeq f) (Ne.symm hb)).trans hu) ⟨_,q⟩ ?_;exact⟨hz,aS,_,hv,q⟩
theorem Inv.lnew(I:Inv X aa U H s)(hv:Vals ys aq)(hz:ys.length<=sizeLine) :
  Inv X aa U (upd H s.heap.objs.size (.lst ys)) {s with heap:=s.heap.push {cls:=.type "list",data:=.seq aq.toArray},toks:=t' } :=
 I.laid (λ_ _ q=>tN _ q) (uh _) ⟨hz,aq,0,hv,tY _ rfl⟩
theorem Inv.fresh(I:Inv X aa U H s):H s.heap.objs.size=none:=I.z9.fresh (uh _)
theorem Inv.Jak(I:Inv X aa U H s)(hH:H l=some (.lst xs)):xs.length<=sizeLine/\∃(aq:List Value)(n:Nat),Vals xs aq/\xs.length=aq.length/\s.heap.get? l=some {cls:=.type "list",data:=.seq aq.toArray n}:=by obtain⟨z,aq,n,r,e⟩:=I.z9 l _ hH;exact⟨z,aq,n,r,r.length,e⟩
end
section
variable{X:Cx}
def MJ:V->List V->Hp->VK->Prop:=λx vs H Q=>∃l xs y,x=.ref l/\vs=[y]/\H l=some (.lst xs)/\xs.length<sizeLine/\Q .o (upd H l (.lst (xs++[y])))
theorem Iz:MtM X "list.append" MJ:=by
 intro aa s U H x vs v us Q I rx rv h;obtain⟨l,xs,y,rfl,rfl,hH,hz,q⟩:=h;cases rx;obtain⟨u,rfl,ru⟩:=rv.one;obtain⟨z,aq,n,r,hl,e⟩:=I.Jak hH;refine call_meets F.slot_list_append ⟨_,e,rfl⟩ F.entry_list_append (F.args_list_append_2 _ _) (PySem.list_append l aq.toArray n u (by rw[ua];lia)) ⟨e,?_⟩;refine⟨.o,_,I.lset hH e (by simp) (r.append (.cons ru .nil)) ?_,rfl,q⟩;rw[uH,List.length_singleton]
 lia
def Jbp:R2:=λx y H Q=>∃l b xs zs,x=.ref l/\y=.ref b/\H l=some (.lst xs)/\H b=some (.lst zs)/\xs.length+zs.length<=sizeLine/\∀p,H p=none->Q (.ref p) (upd H p (.lst (xs++zs)))
theorem WA:OpR X (binaryOp .Add) Jbp:=by
 intro aa s U H x y v u Q I rx ry h;obtain⟨l,b,xs,zs,rfl,rfl,hH,hB,hz,q⟩:=h;cases rx;cases ry;obtain⟨z,aq,n,r,hl,e⟩:=I.Jak hH;obtain⟨z2,aZ,n2,r2,dB,e2⟩:=I.Jak hB;refine PySem.P.add_list e e2 ?_ (by rw[ua,ua];lia);have ea:aq.toArray++aZ.toArray=(aq++aZ).toArray:=by simp
 rw[ea];exact⟨.ref _,_,I.lnew (t':=s.toks) (r.append r2) (by rw[uH];lia),rfl,q _ I.fresh⟩
end
section
variable{prog:Program}{w:World}{A:Around}{E:Value->Shared->Prop}{s:Shared}
set_option maxRecDepth 100000 in
end
section
variable{X:Cx}
end
section
variable{κ:Type}[DecidableEq κ]
noncomputable def Jp(ah:List (κ×V))(k:κ):Option V:=(ah.find? λkv=>decide (kv.1=k)).map (·.2)
noncomputable def putK(ah:List (κ×V))(k:κ)(v:V):List (κ×V) :=
 if(ah.any λkv=>decide (kv.1=k))=true then ah.map (λkv=>if kv.1=k then(kv.1,v)else kv)else ah++[(k,v)]
theorem DE{p:κ×V}{r:List (κ×V)}{k:κ}(e:p.1=k):Jp (p::r) k=some p.2:=by simp[Jp,vJ,e]
theorem DG{p:κ×V}{r:List (κ×V)}{k:κ}(e:¬p.1=k):Jp (p::r) k=Jp r k:=by simp[Jp,vJ,e]
theorem Km(k:κ):∀ah:List (κ×V),(ah.any λkv=>decide (kv.1=k))=(Jp ah k).isSome
 | []=>rfl
 |p::r=>by
  rw[vL];by_cases e:p.1=k
  .simp only[DE e,uE e,Bool.true_or,Option.isSome_some]
  .rw[DG e,uA e,Bool.false_or];exact Km k r
theorem Du(ah:List (κ×V))(k:κ)(v:V):(putK ah k v).length<=ah.length+1:=by
 unfold putK;split
 .rw[tZ];lia
 .rw[uH,uC,List.length_nil];lia
theorem Ao.CZ(r:Ao o u):o.isSome=u.isSome:=by
 cases o with
 |none=>cases u with|none=>rfl|some _=>exact(show False from r).elim
 |some _=>cases u with|none=>exact(show False from r).elim|some _=>rfl
theorem KV.val{ah:List (κ×V)}{vs:List (κ×Value)}(r:KV ah vs)(k:κ):Ao (Jp ah k) (valueAt vs k):=by
 unfold KV at r
 induction r with
 |nil=>exact True.intro
 |@cons p q ps qs h t ih =>
  obtain⟨h1,h2⟩:=h;by_cases e:p.1=k
  .have e':q.1=k:=h1.symm.trans e;have b:valueAt (q::qs) k=some q.2:=by simp[valueAt,vJ,e']
   rw[DE e,b];exact h2
  .have e':¬q.1=k:=λz=>e (h1.trans z)
   have b:valueAt (q::qs) k=valueAt qs k:=by simp[valueAt,vJ,e']
   rw[DG e,b];exact ih
theorem KV.any{ah:List (κ×V)}{vs:List (κ×Value)}(r:KV ah vs)(k:κ):(ah.any λkv=>decide (kv.1=k))=vs.any λkv=>decide (kv.1=k):=by
 unfold KV at r
 induction r with|nil=>rfl|cons h t ih=>rw[vL,vL,ih,h.1]
theorem KV.ZT(r:KV ah vs)(k:κ)(ry:RelV y u) :
  KV (ah.map λkv=>if kv.1=k then(kv.1,y)else kv) (vs.map λkv=>if kv.1=k then(kv.1,u)else kv):=by
 unfold KV at r ⊢
 induction r with
 |nil=>exact .nil
 |@cons p q ps qs h t ih =>
  rw[tR,tR];refine .cons ?_ ih;obtain⟨h1,h2⟩:=h;by_cases e:p.1=k
  .rw[if_pos e,if_pos (h1.symm.trans e)];exact⟨h1,ry⟩
  .rw[if_neg e,if_neg (λz=>e (h1.trans z))];exact⟨h1,h2⟩
theorem KV.put(r:KV ah vs)(k:κ)(ry:RelV y u):KV (putK ah k y) (stored vs k u):=by
 unfold putK stored;rw[r.any k];by_cases e:(vs.any λkv=>decide (kv.1=k))=true
 .rw[if_pos e,if_pos e];exact r.ZT k ry
 .rw[if_neg e,if_neg e];exact Paired.snoc r ⟨rfl,ry⟩
theorem KV.length(r:KV ah vs):ah.length=vs.length:=Paired.length r
end
theorem JT(r:RelV (kV k) u):(AY P w).is k u=true:=by cases k with|inl i=>obtain⟨t,e⟩:=(show ∃t,u=Value.int i t from r);subst e;exact JL P w i t|inr x=>obtain⟨t,e⟩:=(show ∃t,u=Value.str x t from r);subst e;exact JK P w x t
theorem IF:∀{ks:List Key}{us:List Value},Vals (ks.map kV) us->ItemsAre (AY P w) ks us
 | [],_,r=>by rw[u3]at r;cases r;exact .nil
 |k::ks,_,r=>by rw[tR]at r;cases r with|cons h t=>exact .cons (JT h) (IF t)
abbrev KT(H:Hp):List (List Key×V)->List (List Key×Addr×Value)->Prop:=Paired λp q=>p.1=q.1/\H q.2.1=some (.tup (p.1.map kV))/\RelV p.2 q.2.2
theorem KT.val{H:Hp}{ah:List (List Key×V)}{xs:List (List Key×Addr×Value)}(r:KT H ah xs)(k:List Key):Ao (Jp ah k) ((atKey xs k).map (·.2)):=by
 induction r with
 |nil=>exact True.intro
 |@cons p q ps qs h t ih =>
  obtain⟨h1,_,h2⟩:=h;by_cases e:p.1=k
  .have e':q.1=k:=h1.symm.trans e;have b:atKey (q::qs) k=some q.2:=by simp[atKey,vJ,e']
   rw[DE e,b];exact h2
  .have e':¬q.1=k:=λz=>e (h1.trans z)
   have b:atKey (q::qs) k=atKey qs k:=by simp[atKey,vJ,e']
   rw[DG e,b];exact ih
theorem KT.ZT(r:KT H ah xs)(k:List Key)(ry:RelV y u) :
  KT H (ah.map λkv=>if kv.1=k then(kv.1,y)else kv) (xs.map (putAt k u)):=by
 induction r with
 |nil=>exact .nil
 |@cons p q ps qs h t ih =>
  rw[tR,tR];refine .cons ?_ ih;obtain⟨h1,h2,h3⟩:=h;unfold putAt;by_cases e:p.1=k
  .rw[if_pos e,if_pos (h1.symm.trans e)];exact⟨h1,h2,ry⟩
  .rw[if_neg e,if_neg (λz=>e (h1.trans z))];exact⟨h1,h2,h3⟩
theorem KT.put{H:Hp}{ah:List (List Key×V)}{xs:List (List Key×Addr×Value)}(r:KT H ah xs)(k:List Key){b:Addr}{y:V}{u:Value}(hb:H b=some (.tup (k.map kV)))(ry:RelV y u) :
  KT H (putK ah k y) (storedH xs k b u):=by
 have e:(ah.any λkv=>decide (kv.1=k))=(atKey xs k).isSome:=by rw[Km,(r.val k).CZ,Option.isSome_map]
 unfold putK storedH;rw[e];by_cases q:(atKey xs k).isSome=true
 .rw[if_pos q,if_pos q];exact r.ZT k ry
 .rw[if_neg q,if_neg q];exact Paired.snoc r ⟨rfl,hb,ry⟩
theorem KT.keeps(r:KT H ah xs)(ht:∀b ys,H b=some (.tup ys)->H' b=some (.tup ys)):KT H' ah xs :=
 Paired.Jai r λ_ _ z=>⟨z.1,ht _ _ z.2.1,z.2.2⟩
section
variable{P:Program}{w:World}{H:Hp}{h:Heap}{a:Addr}
theorem VI(ok:HOk P w H h)(e:Rd H a u):AZ P w H h a u:=e.ok ok
theorem Gn(ok:HOk P w H h)(e:Rd H a (.l ah)):ah.length<=sizeLine/\(a==sysModules)=false/\∃vs,KV ah vs/\h.DictOf (AY P w) a vs :=
 show AZ P w H h a (.l ah)from VI ok e
theorem Yk(ok:HOk P w H h)(e:H a=some (.l ah)):ah.length<=sizeLine/\(a==sysModules)=false/\∃vs,KV ah vs/\h.DictOf (AY P w) a vs:=Gn ok (.inl e)
theorem ID(ok:HOk P w H h)(e:H a=some (.tup (ks.map kV))):(tupleKind (AY P w)).is h ks a:=by
 obtain⟨_,aq,r,o,h1,h2,n,h3,_⟩:=(show AZ P w H h a (.tup (ks.map kV))from ok a _ e)
 exact⟨o,aq.toArray,n,h1,h2,h3,by simpa using IF r⟩
theorem N5{ah:List (List Key×V)}(ok:HOk P w H h)(e:Rd H a (.dT ah)):ah.length<=sizeLine/\(a==sysModules)=false /\
  ∃xs,KT H ah xs/\h.DictOfH (tupleKind (AY P w)) a xs:=by
 obtain⟨z,y,xs,r,o,es,ep,h1,h2,h3,h4,h5⟩:=(show AZ P w H h a (.dT ah)from VI ok e)
 refine⟨z,y,xs,r,o,es,ep,h1,h2,h3,h4,λx hx=>?_,h5⟩;have all:∀{l:List (List Key×V)}{m:List (List Key×Addr×Value)},KT H l m->∀x∈m,(tupleKind (AY P w)).is h x.1 x.2.1:=by
  intro l m q
  induction q with
  |nil=>intro x hx;exact nomatch hx
  |@cons p q ps qs hq t ih =>
   intro x hx;rcases uk.mp hx with e|hx
   .subst e;exact ID ok (by rw[<- hq.1];exact hq.2.1)
   .exact ih x hx
 exact all r x hx
theorem Ja8(ok:HOk P w H h)(e:H a=some (.dT ah)):ah.length<=sizeLine/\(a==sysModules)=false /\
  ∃xs,KT H ah xs/\h.DictOfH (tupleKind (AY P w)) a xs:=N5 ok (.inl e)
end
def Jn(H:Hp)(a:Addr)(y:V)(r:Option V):Prop :=
 (∃ah k,Rd H a (.l ah)/\y=kV k/\r=Jp ah k)\/∃ah k b,Rd H a (.dT ah)/\y=.ref b/\H b=some (.tup (k.map kV))/\r=Jp ah k
def Mf(H:Hp)(a:Addr)(y v:V)(H':Hp):Prop :=
 (∃ah k,H a=some (.l ah)/\y=kV k/\ah.length<sizeLine/\H'=upd H a (.l (putK ah k v)))\/
 ∃ah k b,H a=some (.dT ah)/\y=.ref b/\H b=some (.tup (k.map kV))/\ah.length<sizeLine/\H'=upd H a (.dT (putK ah k v))
theorem Jn.k{H:Hp}{a:Addr}{ah:List (Key×V)}{k:Key}(e:H a=some (.l ah)):Jn H a (kV k) (Jp ah k):=.inl ⟨ah,k,.inl e,rfl,rfl⟩
theorem Jn.t{H:Hp}{a b:Addr}{ah:List (List Key×V)}{k:List Key}(e:H a=some (.dT ah))(eb:H b=some (.tup (k.map kV))):Jn H a (.ref b) (Jp ah k):=.inr ⟨ah,k,b,.inl e,rfl,eb,rfl⟩
theorem Mf.k{H:Hp}{a:Addr}{ah:List (Key×V)}{k:Key}{v:V}(e:H a=some (.l ah))(hl:ah.length<sizeLine):Mf H a (kV k) v (upd H a (.l (putK ah k v))):=.inl ⟨ah,k,e,rfl,hl,rfl⟩
theorem Mf.t{H:Hp}{a b:Addr}{ah:List (List Key×V)}{k:List Key}{v:V}(e:H a=some (.dT ah))(eb:H b=some (.tup (k.map kV)))(hl:ah.length<sizeLine) :
  Mf H a (.ref b) v (upd H a (.dT (putK ah k v))):=.inr ⟨ah,k,b,e,rfl,eb,hl,rfl⟩
section
variable{X:Cx}{aa:List (Addr×Obj)}{U:St}{H:Hp}{s:Shared}{a:Addr}{y v:V}{u r:Value}{o:Option V}{A:Around}{E:Value->Shared->Prop}
theorem Inv.big(I:Inv X aa U H s):sysModules<s.heap.objs.size:=by have h:=(I.mod.glob.keeps I.bk).lt;exact vo (by decide) h
theorem IQ(hu:A.units+1<cLine)(I:Inv X aa U H s)(g:Jn H a y (some v))(ry:RelV y u)(h:∀w' s',Inv X aa U H s'->RelV v w'->Q w' s') :
  wpAny (model X.prog X.w) A (getItem (.ref a) u) Q E s:=by
 rcases g with⟨ah,k,e,ey,l⟩|⟨ah,k,b,e,ey,eb,l⟩
 .subst ey;obtain⟨z,hd,vs,aJ,dd⟩:=Gn I.z9 e;obtain⟨w',hw,dP⟩:=Ao.some_of (by rw[l];exact aJ.val k);exact wpAny_getItem_of (JT ry) dd.mapOf hw (h w' _ (I.tok _) dP)
 .subst ey;cases(show u=Value.ref b from ry);obtain⟨z,hd,xs,aJ,dd⟩:=N5 I.z9 e;obtain⟨w',hw,dP⟩:=Ao.some_of (by rw[l];exact aJ.val k);obtain⟨p,hp,qS⟩:=uc.mp hw;refine wpAny_getItem_heap (tupleKind_room_in1 hu) (ID I.z9 eb) dd hp ?_;rw[qS];exact h w' _ (I.tok _) dP
theorem d_in(hu:A.units+1<cLine)(I:Inv X aa U H s)(g:Jn H a y o)(ry:RelV y u)(h:∀s',Inv X aa U H s'->Q (.bool o.isSome) s') :
  wpAny (model X.prog X.w) A (compareOp .In u (.ref a)) Q E s:=by
 rcases g with⟨ah,k,e,ey,l⟩|⟨ah,k,b,e,ey,eb,l⟩
 .subst ey;obtain⟨z,hd,vs,aJ,dd⟩:=Gn I.z9 e;refine wpAny_in_of (JT ry) hd dd.mapOf ?_;rw[<- (aJ.val k).CZ,<- l];exact h _ (I.tok _)
 .subst ey;cases(show u=Value.ref b from ry);obtain⟨z,hd,xs,aJ,dd⟩:=N5 I.z9 e;refine wpAny_in_heap (tupleKind_room_in1 hu) (ID I.z9 eb) hd dd ?_;have q:=(aJ.val k).CZ;rw[Option.isSome_map]at q;rw[<- q,<- l];exact h _ (I.tok _)
theorem Ux(hu:A.units+1<cLine)(I:Inv X aa U H s)(g:Jn H a y o)(ry:RelV y u)(h:∀s',Inv X aa U H s'->Q (.bool (!o.isSome)) s') :
  wpAny (model X.prog X.w) A (compareOp .NotIn u (.ref a)) Q E s:=by
 rcases g with⟨ah,k,e,ey,l⟩|⟨ah,k,b,e,ey,eb,l⟩
 .subst ey;obtain⟨z,hd,vs,aJ,dd⟩:=Gn I.z9 e;refine wpAny_notIn_of (JT ry) hd dd.mapOf ?_;rw[<- (aJ.val k).CZ,<- l];exact h _ (I.tok _)
 .subst ey;cases(show u=Value.ref b from ry);obtain⟨z,hd,xs,aJ,dd⟩:=N5 I.z9 e;refine wpAny_notIn_heap (tupleKind_room_in1 hu) (ID I.z9 eb) hd dd ?_;have q:=(aJ.val k).CZ;rw[Option.isSome_map]at q;rw[<- q,<- l];exact h _ (I.tok _)
theorem J8(I:Inv X aa U H s)(mu:Mut (H a))(hs:Heap.SameBut a s.heap h')(he:∃q,h'.get? a=some q)(new:AZ X.prog X.w (upd H a ob) h' a ob) :
  Inv X aa U (upd H a ob) {s with heap:=h',toks:=t' } :=
 I.write mu (.inl rfl) (λb q hb z=>(hs.2 b hb).trans z) he new
theorem N7(z:ah.length<=sizeLine)(hd:(a==sysModules)=false)(aJ:KV ah vs)(dd:h'.DictOf (AY P w) a vs) :
  AZ P w H' h' a (.l ah):=⟨z,hd,vs,aJ,dd⟩
theorem IP{H':Hp}{Q:Unit->Shared->Prop}(hu:A.units+1<cLine)(I:Inv X aa U H s)(g:Mf H a y v H')(ry:RelV y u)(rv:RelV v r)(h:∀s',Inv X aa U H' s'->Q () s') :
  wpAny (model X.prog X.w) A (setItem (.ref a) u r) Q E s:=by
 rcases g with⟨ah,k,e,ey,l,eH⟩|⟨ah,k,b,e,ey,eb,l,eH⟩
 .subst ey eH;obtain⟨z,hd,vs,aJ,dd⟩:=Yk I.z9 e;have hz:vs.length<=sizeLine:=by rw[<- aJ.length];exact z
  have hl:(putK ah k v).length<=sizeLine:=by have:=Du ah k v;lia
  refine wpAny_setItem_pairs (hsz:=hz) (JT ry) dd λh' eS hs=>h _ ?_
  have he:∃q,h'.get? a=some q:=let⟨q,_,_,hq,_⟩:=eS;⟨q,hq⟩;exact J8 I (by rw[e];exact True.intro) hs he (N7 hl hd (aJ.put k rv) eS)
 .subst ey eH;cases(show u=Value.ref b from ry);obtain⟨z,hd,xs,aJ,dd⟩:=Ja8 I.z9 e;have hz:xs.length<=sizeLine:=by rw[<- Paired.length aJ];exact z
  have hl:(putK ah k v).length<=sizeLine:=by have:=Du ah k v;lia
  refine wpAny_setItem_heap (hsz:=hz) (tupleKind_room_in1 hu) (ID I.z9 eb) dd λh' eS hs=>h _ ?_
  obtain⟨q,es,ep,hq,h2,h3,h4,_,h5⟩:=eS;refine J8 I (by rw[e];exact True.intro) hs ⟨q,hq⟩ ⟨hl,hd,_,(aJ.put k eb rv).keeps λc ys ec=>?_,q,es,ep,hq,h2,h3,h4,h5⟩;rw[Aj (Jag ec e (λz=>nomatch z))];exact ec
end
section
variable{X:Cx}{aa:List (Addr×Obj)}{U:St}{H:Hp}{s:Shared}{a:Addr}{ah:List (Key×V)}{k:Key}{u:Value}{A:Around}{E:Value->Shared->Prop}
theorem Ja9(I:Inv X aa U H s)(e:Rd H a (.l ah))(h:∀t s',Inv X aa U H s'->Q (.int ah.length t) s'):wpAny (model X.prog X.w) A (call (.builtin "len") [.ref a]) Q E s:=by obtain⟨z,hd,vs,aJ,dd⟩:=Gn I.z9 e;refine call_len_dict hd dd (by rw[<- aJ.length];rw[sizeLine_eq]at z;lia) ?_;rw[<- aJ.length];exact h _ _ (I.tok _)
end
def Jbf(i:Expr):Prop:=∀ov iv,subscripted i false ov iv=operate [ov,iv] (getItem ov iv)
theorem Se{prog:Program}{w:World}{A:Around}{E:Value->Shared->Prop}{s:Shared}{env:Env}{value slice:Expr}{pos:Pos}{T id:String}{Q:Value->Shared->Prop}
  (hl:typeLookup (.type T) "__getitem__"=pure (some (.builtin id))) (hs:Jbf slice)
  (h:wpAny (model prog w) A (eval value env) (λo az=>wpAny (model prog w) A (eval slice env) (λi cR=>cR.TypeIs o T/\wpAny (model prog w) A (getItem o i) Q E cR) E az) E s) :
  wpAny (model prog w) A (eval (.Subscript value slice pos) env) Q E s:=by
 refine Subscript_ (wpAny_mono h (λo az aH=>wpAny_mono aH (λi cR bX=>?_) λ_ _ x=>x) λ_ _ x=>x);obtain⟨hT,bX⟩:=bX;unfold subscriptTail;refine tM ?_;rw[getitemInPython_of_ne hT.not_modules];refine tM (wpAny_specialOf hT hl ?_);have aT:wpAny (model prog w) A (subscripted slice false o i) (λr bu=>wpAny (model prog w) A (letTemporaryGo value o r >>= λ_=>pure r) Q E bu) E cR:=by rw[hs o i];exact wpAny_operating (wpAny_mono bX (λr bu eR=>tM (wpAny_letTemporaryGo (tS eR))) λ_ _ x=>x)
 first
  |exact tS (tM aT)
  |exact tM (tS (tM aT))
  |exact tM aT
theorem FC(I:Inv X aa U H s)(g:Jn H a y o):s.TypeIs (.ref a) "dict":=by
 rcases g with⟨ah,k,e,_,_⟩|⟨ah,k,b,e,_,_,_⟩
 .obtain⟨_,_,vs,_,dd⟩:=Gn I.z9 e;exact dd.typeIs
 .obtain⟨_,_,xs,_,dd⟩:=N5 I.z9 e;exact dd.typeIs
def ZO(td ty:TE):TE:=λU H Q=>td U H λx H1=>ty U H1 λy H2=>∃a v,x=.ref a/\Jn H2 a y (some v)/\Q v H2
def VF(td ty tv:TE):TS:=λD U H=>tv U H λv H1=>td U H1 λx H2=>ty U H2 λy H3=>∃a H4,x=.ref a/\Mf H3 a y v H4/\D.nx U H4
section
variable{X:Cx}{o i e value:Expr}{pos aR bJ:Pos}{td ty tv:TE}
theorem SI(hu:X.A.units+1<cLine)(ho:PE X o td)(hi:PE X i ty)(hs:Jbf i):PE X (.Subscript o i pos) (ZO td ty):=by intro aa s U H Q I h;refine Se PySem.F.slot_dict_getitem.lookup hs (thn (ho aa s U H _ I h) λu s1 ⟨x,H1,I1,rx,q1⟩=>thn (hi aa s1 U H1 _ I1 q1) λiv s2 ao=>?_);obtain⟨y,H2,I2,ry,a,v,ex,g,q2⟩:= ao;subst ex;obtain rfl:u=Value.ref a:=rx;exact⟨FC I2 g,IQ hu I2 g ry λw' s3 I3 dP=>⟨v,H2,I3,dP,q2⟩⟩
theorem JA(hu:X.A.units+1<cLine)(ho:PE X o td)(hi:PE X i ty)(hv:PE X value tv)(hs:swapsWith value (some (.Subscript o i aR)) pos.line X.env=pure false) :
  PS X (.Assign [.Subscript o i aR] value pos) (VF td ty tv):=by
 intro aa s U H D I h;refine wpAny_Assign_Subscript (thn (hv aa s U H _ I h) λr s1 ⟨v,H1,I1,rv,q1⟩=>thn (ho aa s1 U H1 _ I1 q1) λu s2 ⟨x,H2,I2,rx,q2⟩=>thn (hi aa s2 U H2 _ I2 q2) λiv s3 ao=>?_) hs;obtain⟨y,H3,I3,ry,a,H4,ex,g,q3⟩:= ao;subst ex;obtain rfl:u=Value.ref a:=rx;exact IP hu I3 g ry rv λs4 I4=>⟨U,H4,I4,q3⟩
end
theorem K2(h:Heap)(hb:sysModules<h.objs.size):AZ P w H (h.push {cls:=.type "dict",data:=.dict #[]}) h.objs.size (.l []) :=
 ⟨v3 _,beq_eq_false_iff_ne.mpr (Ne.symm (ur hb)),[],.nil,Heap.DictOf.new h⟩
def Vt:TE:=λ_ H Q=>∀p,H p=none->Q (.ref p) (upd H p (.l []))
section
variable{X:Cx}{pos:Pos}
theorem Kx:PE X (.Dict [] [] pos) Vt:=λaa s U H Q I h =>wpAny_Dict_empty ⟨.ref s.heap.objs.size,_,I.laid (λ_ _ q=>tN _ q) (uh _) (K2 s.heap I.big),rfl,h _ (I.z9.fresh (uh _))⟩
end
def Mz:List (TE×TE)->St->Hp->(List (V×V)->Hp->Prop)->Prop
 | [],_,H,Q=>Q [] H
 |(tk,tv)::r,U,H,Q=>tk U H λx H1=>tv U H1 λy H2=>Mz r U H2 λps H3=>Q ((x,y)::ps) H3
abbrev VV:List (V×V)->List (Value×Value)->Prop:=Paired λp q=>RelV p.1 q.1/\RelV p.2 q.2
def PPs(X:Cx)(pos:Pos)(dh:List (Option Expr))(values:List Expr)(h8:List (TE×TE)):Prop :=
 ∀(aa:List (Addr×Obj))(s:Shared)(U:St)(H:Hp)(Q:List (V×V)->Hp->Prop),Inv X aa U H s->Mz h8 U H Q ->
  wpAny (model X.prog X.w) X.A (evalPairs (pairTrees dh values X.env pos)) (λvs s'=>∃ps H',Inv X aa U H' s'/\VV ps vs/\Q ps H') X.xe s
theorem Su:PPs X pos [] [] []:=λaa s U H Q I h=>pairTrees_nil_walk ⟨[],H,I,.nil,h⟩
theorem O5(hk:PE X k tk)(hv:PE X v tv)(hr:PPs X pos ks vs h8) :
  PPs X pos (some k::ks) (v::vs) ((tk,tv)::h8):=λaa s U H Q I h =>
 pairTrees_cons_walk (thn (hk aa s U H _ I h) λu s1 ⟨x,H1,I1,rx,q1⟩=>thn (hv aa s1 U H1 _ I1 q1) λw2 s2 ⟨y,H2,I2,ry,q2⟩ =>thn (hr aa s2 U H2 _ I2 q2) λws s3 ⟨ps,H3,I3,aJ,q3⟩=>⟨(x,y)::ps,H3,I3,.cons ⟨rx,ry⟩ aJ,q3⟩)
noncomputable def DP(ah more:List (Key×V)):List (Key×V):=more.foldl (λay kv=>putK ay kv.1 kv.2) ah
theorem KV.merge:∀{more:List (Key×V)}{rs:List (Key×Value)}{ah:List (Key×V)}{vs:List (Key×Value)},KV more rs->KV ah vs->KV (DP ah more) (merged vs rs):=by
 intro more rs ah vs r;unfold KV at r
 induction r generalizing ah vs with
 |nil=>intro q;exact q
 |@cons p q ps qs h t ih =>
  intro r0;have e:KV (putK ah p.1 p.2) (stored vs q.1 q.2):=by have:=r0.put p.1 h.2;rw[<- h.1];exact this
  exact ih e
theorem DS:∀(more ah:List (Key×V)),(DP ah more).length<=ah.length+more.length
 | [],ah=>by show ah.length<=ah.length+0;lia
 |p::r,ah=>by have h1:=DS r (putK ah p.1 p.2);have h2:=Du ah p.1 p.2;show(DP (putK ah p.1 p.2) r).length<=_;rw[uC];lia
theorem GP:∀{ah:List (Key×V)}{ws:List (Value×Value)},VV (ah.map λkv=>(kV kv.1,kv.2)) ws->∃rs,Carries (AY P w) ws rs/\KV ah rs
 | [],_,r=>by rw[u3]at r;cases r;exact⟨[],True.intro,.nil⟩
 |p::ah,_,r=>by rw[tR]at r;cases r with|@cons a b as bs h t =>obtain⟨rs,c,q⟩:=GP t;obtain⟨b1,b2⟩:=b;exact⟨(p.1,b2)::rs,⟨JT h.1,rfl,c⟩,.cons ⟨rfl,h.2⟩ q⟩
def ZN(h8:List (TE×TE)):TE:=λU H Q=>∀p,H p=none->Mz h8 U (upd H p (.l [])) λps H2=>H2 p=some (.l [])/\∃ah:List (Key×V),ps=ah.map (λkv=>(kV kv.1,kv.2))/\ah.length<=15/\Q (.ref p) (upd H2 p (.l (DP [] ah)))
theorem SH{X:Cx}{pos:Pos}{dh:List (Option Expr)}{values:List Expr}{h8:List (TE×TE)}(h:PPs X pos dh values h8)(dw:dh.all (·.isSome)=true)(hl:dh.length=values.length)(h0:dh≠[])
  (qe:dh.length<=15):PE X (.Dict dh values pos) (ZN h8):=by
 intro aa s U H Q I q;have hn:=I.z9.fresh (uh s.heap.objs.size);have I1:=I.laid (a:=s.heap.objs.size) (o:=.l []) (h':=s.heap.push {cls:=.type "dict",data:=.dict #[]}) (t':=s.toks) (λ_ _ q=>tN _ q) (uh _) (K2 s.heap I.big);refine wpAny_Dict_walk (knd:=AY X.prog X.w) dw hl h0 qe (thn (h aa _ U _ _ I1 (q _ hn)) λws s2 ao=>?_);obtain⟨ps,H2,I2,aJ,e,ah,ep,lk,q2⟩:= ao;subst ep;obtain⟨rs,c,rk⟩:=GP (P:=X.prog) (w:=X.w) aJ;obtain⟨z,hd,tL,r0,dd⟩:=Yk I2.z9 e;cases r0;refine⟨rs,c,dd,λh' eS hs=>⟨.ref s.heap.objs.size,_,?_,rfl,q2⟩⟩;have hz:(DP [] ah).length<=sizeLine:=by have h1:=DS ah [];rw[List.length_nil]at h1;rw[sizeLine_eq];lia
 have he:∃q,h'.get? s.heap.objs.size=some q:=let⟨q,_,_,hq,_⟩:=eS;⟨q,hq⟩;exact J8 I2 (by rw[e];exact True.intro) hs he (N7 hz hd (rk.merge .nil) eS)
section
variable{X:Cx}{aa:List (Addr×Obj)}{U:St}{H:Hp}{s:Shared}{a:Addr}{y d:V}{u r:Value}{o:Option V}{A:Around}{E:Value->Shared->Prop}
end
section
variable{X:Cx}{o e f:Expr}{aB aA:Pos}{td ty tx:TE}
end
section
variable{X:Cx}{aa:List (Addr×Obj)}{U:St}{H:Hp}{s:Shared}{a:Addr}{ah:List (Key×V)}{A:Around}{E:Value->Shared->Prop}
theorem Qq{Q:Value->Shared->Prop}(I:Inv X aa U H s)(e:Rd H a (.l ah))(h:∀p s',H p=none->Inv X aa U (upd H p (.l ah)) s'->Q (.ref p) s'):wpAny (model X.prog X.w) A (call (.type "dict") [.ref a]) Q E s:=by
 obtain⟨z,hd,vs,aJ,dd⟩:=Gn I.z9 e;refine kt_call_dict hd dd (by rw[<- aJ.length];exact z) λh' eS hs=>?_
 refine h _ _ (I.z9.fresh (uh _)) (I.laid (a:=s.heap.objs.size) (o:=.l ah) (t':=s.toks) (λb q hq=>?_) (uh _) (N7 z (beq_eq_false_iff_ne.mpr (Ne.symm (ur I.big))) aJ eS));exact(hs.2 b (ur (t9 hq))).trans (tN _ hq)
end
section
variable{X:Cx}{aa:List (Addr×Obj)}{U:St}{H:Hp}{s:Shared}{a:Addr}{y:V}{u:Value}{A:Around}{E:Value->Shared->Prop}
end
end L2
namespace Att
open PySem PySem.W PySem.Calls PyProof.Rows
theorem Fx:∀(ns:List Int)(vs:List Value),WellAll P h vs (ns.map WData.int)->IntsAre vs ns:=by
 intro ns
 induction ns with|nil =>intro vs w;rw[u3]at w;cases w;exact .nil|cons n ns ih =>intro vs w;rw[tR]at w;cases w with|cons a b =>cases a;exact .cons _ _ (ih _ b)
theorem MF{l:OpenLaw}{n:Nat}(hn:l.most=some n){P:Params}{h:Heap}{args:List WData}{vals:List Value}
  (eO:l.row.toRowW.claim.pre args=true) (jo:WellAll P h vals args) :
  ∃a vs ns,vals=[Value.ref a]/\args=[WData.list (ns.map WData.int)]/\h.get? a=some {cls:=.type "list",data:=.seq vs.toArray}/\IntsAre vs ns/\ns.length<=n:=by
 have qW:WShape.hasAll [] args [.list .int]=true:=(pre_splitW eO).1;have hc:l.pre.holds [] {args:=args}=true:=(pre_splitW eO).2;obtain⟨d,r,rfl,h1,h2⟩:=hasAllW_cons qW;obtain rfl:=hasAllW_nil h2;obtain⟨xs,rfl,h3⟩:=hasW_list h1;obtain⟨ns,rfl⟩:=items_int h3;have hlen:ns.length<=n:=by
  unfold OpenLaw.pre at hc;have h4:(WTm.not (.lt (.lit (.int (n:Int))) (.len (.arg 0)))).holds [] {args:=[.list (ns.map .int)]}=true:=by have h4:=(holds_andW hc).1;rw[hn]at h4;exact h4
  have h5:=condW_of h4 (w_not (w_lt w_lit (w_len_list (w_arg rfl))));rw[tZ]at h5;refine Nat.le_of_not_lt λq=>?_
  have q':(n:Int)<((ns.length:Nat):Int):=by lia
  first
   |(rw[uE q']at h5;exact absurd h5 (by decide))
   |(simp at h5;lia)
 cases jo with|cons w1 w2 =>cases w2;cases w1 with|list ho dw=>exact⟨_,_,ns,rfl,rfl,ho,Fx ns _ dw,hlen⟩
theorem MP(l:OpenLaw)(args:List WData):l.row.toRowW.claim.post args (.bool true) args=true :=
 postW_of
  (show WShape.has [] (.bool true) .bool=true by first|rfl|decide|simp[WShape.has,WShape.arms,WShape.armsAll])
  (show(WTm.eq .res (.lit (.bool true))).value [] {args:=args,res:=some (.bool true),after:=args}=some (.bool (true==true))from w_eq_bool (w_res rfl) w_lit) rfl
section
variable{prog:Program}{w:World}{A:Around}{E:Value->Shared->Prop}{s:Shared}{K:Frag}
end
end Att
namespace L2
open PySem PySem.Spec PyProof.Rows
theorem HN:∀{vs:List Value}{ns:List Int},IntsAre vs ns->Vals (ns.map V.int) vs
 |_,_,.nil=>.nil
 |_,_,.cons n t h=>.cons ⟨t,rfl⟩ (HN h)
def YK(H:Hp):Prop:=∀b,H b=none\/∃o xs,H b=some (.frz o (.lst xs))
theorem Pw{P:Program}{w:World}{K:Fg}{mg mb:Str->Option Value}{CX:CXT}{k:Nat}{fa a:Addr}{fd:FuncData}{x:Str}{sp:Sp}{az:Shared}{vs:List Value}{ns:List Int}
  (KX:K.In az.heap) (m9:az.heap.Ns mainGlobals mg) (hb:az.heap.Ns builtinsNs mb) (qt:∀x:Str,x≠"__name__"->mb x=bootBuiltins x) (kX:az.heap.NoLimit) (hg:az.gens=#[])
  (ha:az.heap.get? a=some {cls:=.type "list",data:=.seq vs.toArray}) (hi:IntsAre vs ns) (hl:ns.length<=sizeLine) (hr:C7 k callerA)
  (F:∀base:Heap,K.In base->base.Ns mainGlobals mg->CS P w K mg base CX k fa fd [x] sp) (iX:∀(s:Shared)(u:Value),BindsTo s fd ⟨[u],[]⟩ [(x,u)])
  (gh:∀H:Hp,YK H->SqL K H a (ns.map V.int)->sp [.ref a] H (λv _=>v=.v true) λ_ _ _=>False)
  (iT:∀H e s',CX [] H az (λ_ _ _=>False) e s'->False) :
  codeAny (model P w) callerA (.call (.ref fa) ⟨[.ref a],[]⟩) (λr s'=>r=.ok (.ret (.bool true))/\OldK az.heap s'.heap/\s'.os=az.os/\AllBare s'.gens) az:=by
 have rv:=HN hi;have lH:=hi.length;have core:∀H:Hp,YK H->SqL K H a (ns.map V.int)->HOk P w H az.heap->(∀b,H b≠none->b=a)->(H a≠none->K.lookup a=none) ->
   codeAny (model P w) callerA (.call (.ref fa) ⟨[.ref a],[]⟩) (λr s'=>r=.ok (.ret (.bool true))/\OldK az.heap s'.heap/\s'.os=az.os/\AllBare s'.gens) az:=by
  intro H hO hS z9 hA hK;have dX:∀{b:Addr}{o:Obj},az.heap.get? b=some o->H b=none->(PL az.heap H).get? b=some o:=λe n=>PK e n
  have jw:∀{b:Addr}{o:Obj}{es:Array DictEntry}{ep:Nat},az.heap.get? b=some o->o.data=.dict es ep->H b=none:=λ{b o es ep} e d=>by cases q:H b with|none=>rfl|some u =>have e':b=a:=hA b (by rw[q];simp);subst e';rw[ha]at e;cases e;have d':Data.seq vs.toArray _=Data.dict es ep:=d;cases d'
  have kb:∀{b:Addr}{m:Str->Option Value},az.heap.Ns b m->(PL az.heap H).Ns b m:=λ{b m} ⟨o,es,ep,e,d,r⟩=>⟨o,es,ep,dX e (jw e d),d,r⟩
  have mM:K.In (PL az.heap H):=λb o e=>dX (KX b o e) (by cases q:H b with|none=>rfl|some u =>have e':b=a:=hA b (by rw[q];simp);subst e';rw[hK (by rw[q];simp)]at e;cases e)
  have hM:Mod K mg (PL az.heap H):=⟨mM,kb m9,⟨mb,kb hb,qt⟩,let⟨mc,h1,h2⟩:=kX;⟨mc,kb h1,h2⟩⟩
  have e0:UP P w K mg (PL az.heap H) callerA [] az H:=⟨rfl,hM,λb o e=>S4 e,Nat.le_of_eq (NG _ _),trivial,λb hb=>absurd (show b∈([]:List Addr)from hb) (by simp),z9,.of_eq hg⟩
  refine codeAny_mono ((F _ mM (kb m9)).run callerA [] az H ⟨[.ref a],[]⟩ [.ref a] [.ref a] _ _ hr e0 (iX az (.ref a)) (.cons rfl .nil) (gh H hO hS)) λr s' h=>?_
  cases r with
  |error e=>exact(iT H e s' h).elim
  |ok fl =>
   cases fl with
   |next=>exact False.elim h
   |brk=>exact False.elim h
   |cont=>exact False.elim h
   |ret u =>
    obtain⟨v,H',os,bare,un,k9,r',q⟩:=h;have q':v=.v true:=q;subst q';obtain rfl:u=Value.bool true:=r';refine⟨rfl,OldK.of_keep λb o e=>?_,os,bare⟩;cases q:H b with
    |none=>exact un.keep b o e q (by intro z;exact absurd (show b∈([]:List Addr)from z) (by simp)) (by simp)
    |some u =>
     rcases hO b with z|⟨ob,xs,z⟩
     .rw[q]at z;cases z
     .have z2:=un.zV b ob _ z;obtain⟨e1,_⟩:=z9 b _ z;obtain⟨e2,_⟩:=k9 b _ z2;rw[e]at e1;cases e1;exact e2
 cases hk:K.lookup a with
 |some o =>have e:=KX a o hk;rw[ha]at e;cases e;refine core (λ_=>none) (λ_=>.inl rfl) (.inr ⟨_,vs.toArray,_,hk,rfl,rfl,rfl,by rw[ua,lH];exact hl,by simpa using rv⟩) (λb u z=>by have z':(none:Option HO)=some u:=z;cases z') (λb z=>absurd rfl z) λz=>absurd rfl z
 |none =>
  refine core (λb=>if b=a then some (.frz {cls:=.type "list",data:=.seq vs.toArray} (.lst (ns.map V.int)))else none) (λb=>?_) (.inl (.inr ⟨{cls:=.type "list",data:=.seq vs.toArray},if_pos rfl⟩)) (λb u z=>?_) (λb z=>?_) λ_=>hk
  .by_cases hb:b=a
   .exact .inr ⟨_,_,if_pos hb⟩
   .exact .inl (if_neg hb)
  .by_cases hb:b=a
   .have z':=(if_pos hb).symm.trans z;cases z';subst hb;exact⟨ha,by rw[tZ];exact hl,vs,_,rv,ha⟩
   .have z':=(if_neg hb).symm.trans z;cases z'
  .by_cases hb:b=a
   .exact hb
   .exact absurd (if_neg hb) z
noncomputable def inClass(s:Stmt)(j:Nat):Stmt:=match s with|.ClassDef _ _ _ body _ _ _ _ _ _ _=>body.getD j (.Pass ⟨0,0,0,0⟩)|_=>.Pass ⟨0,0,0,0⟩
noncomputable def FD(s:Stmt):Arguments:=match s with|.FunctionDef _ a _ _ _ _ _ _ _ _=>a|_=>{posonlyargs:=[],args:=[],vararg:=none,kwonlyargs:=[],kw_defaults:=[],kwarg:=none,defaults:=[]}
noncomputable def Dx(s:Stmt):List Stmt:=match s with|.FunctionDef _ _ b _ _ _ _ _ _ _=>b|_=>[]
noncomputable def Be(s:Stmt):Scope:=match s with|.FunctionDef _ _ _ _ _ _ sc _ _ _=>sc|_=>{kind:=.function,names:=[],isGenerator:=false,isCoroutine:=false}
abbrev E0:XK:=λ_ _ _=>False
structure Fun(K:Fg)(x qual:Str)(st:Stmt)(f:Addr)(fd:FuncData):Prop where
 ex:∃(oc:Value)(od:Option Addr)(kV cU pm:Value)(an:Option Addr)(cdv ct:Value)(hV:Array (Option Value)),
  fd=fnOf x qual (FD st) (Dx st) (Be st) .none kV cU pm an cdv ct/\K.lookup f=some ⟨oc,od,.func fd,hV⟩/\codeIn K cdv qual=true
 kp:keepIn K (.ref f)=true
section
variable{P:Program}{w:World}{K:Fg}{mg:Str->Option Value}{base:Heap}
theorem Fun.binds{x qual:Str}{st:Stmt}{f:Addr}{fd:FuncData}{ps:List Str}(F:Fun K x qual st f fd)
  (h:∀(kV cU pm:Value)(an:Option Addr)(cdv ct:Value)(us:List Value),us.length=ps.length->bindArgs (fnOf x qual (FD st) (Dx st) (Be st) .none kV cU pm an cdv ct) ⟨us,[]⟩=pure (ps.zip us)):Binds K fd ps []:=by
 obtain⟨oc,od,kV,cU,pm,an,cdv,ct,hV,rfl,lk,eG⟩:=F.ex;exact .all (h kV cU pm an cdv ct)
theorem Aw{x qual:Str}{st:Stmt}{f:Addr}{oc:Value}{od an:Option Addr}{hV:Array (Option Value)}{kV cU pm cdv ct:Value}(l:K.lookup f=some ⟨oc,od,.func (fnOf x qual (FD st) (Dx st) (Be st) .none kV cU pm an cdv ct),hV⟩)
  (c:codeIn K cdv qual=true) (k:keepIn K (.ref f)=true):Fun K x qual st f (fnOf x qual (FD st) (Dx st) (Be st) .none kV cU pm an cdv ct):=⟨⟨oc,od,kV,cU,pm,an,cdv,ct,hV,rfl,l,c⟩,k⟩
end
theorem Jar(hr:C7 k A):A.units+1<cLine:=Nat.lt_of_le_of_lt (Nat.add_le_add_left (by decide:1<=64) _) hr.units
section
variable{X:Cx}
theorem pv(i:Nat)(hN:X.N[i]?=some x:=by rfl)(hv:Vis X.env.scope x:=by first|exact Or.inl rfl|exact Or.inr (Or.inl rfl)|exact Or.inr (Or.inr rfl))(hd:(x==("__debug__":Str))=false:=by decide)
  (eG:(x==("__classdict__":Str))=false:=by decide):PE X (.Name x pos) (Oz i):=Wb hN hv hd eG
end
section
variable{κ:Type}[DecidableEq κ]
end
theorem Dy:∀(l:List (Str×NameKind))(cs:List (Str×Addr)),(∀y∈l,y.2=.free->∃c,env.cells.lookup y.1=some c)->(∀n c,cs.lookup n=some c->env.cells.lookup n=some c) ->
  ∃cl,(forIn l cs λ(x:Str×NameKind)(r:List (Str×Addr))=>match x with|(name,kind)=>if(kind==NameKind.free)=true then do let c <- cellOf env name;pure (ForInStep.yield ((name,c)::r))else pure (ForInStep.yield r))=(pure cl:Sem _) /\
   (∀n c,cl.lookup n=some c->env.cells.lookup n=some c)/\(∀y∈l,y.2=.free->∃c,cl.lookup y.1=some c)/\(∀n c,cs.lookup n=some c->∃c',cl.lookup n=some c')
 | [],cs,_,h2=>⟨cs,rfl,h2,(λ_ h=>nomatch h),λn c h=>⟨c,h⟩⟩
 |(n,k)::r,cs,h1,h2=>by
  by_cases e:k=.free
  .subst e;obtain⟨c,hc⟩:=h1 (n,.free) uj rfl;have e1:cellOf env n=(pure c:Sem _):=by unfold cellOf;rw[hc]
   have h3:∀n' c',((n,c)::cs).lookup n'=some c'->env.cells.lookup n'=some c':=λn' c' q=>by rw[uM]at q;cases hb:n'==n with|true=>rw[hb]at q;cases q;rw[beq_iff_eq.mp hb];exact hc|false=>rw[hb]at q;exact h2 _ _ q
   obtain⟨cl,q1,q2,q3,q4⟩:=Dy r ((n,c)::cs) (λy hy=>h1 y (tV _ hy)) h3;have g7:=q4 n c (by simp);refine⟨cl,?_,q2,λy hy hf=>?_,λn' c' q=>?_⟩
   .rw[vp];simp only[beq_self_eq_true,if_true,e1,pure_bind];exact q1
   .rcases uk.mp hy with rfl|hy
    .exact g7
    .exact q3 y hy hf
   .by_cases hb:n'=n
    .subst hb;exact g7
    .exact q4 n' c' (by rw[uM,beq_eq_false_iff_ne.mpr hb];exact q)
  .obtain⟨cl,q1,q2,q3,q4⟩:=Dy r cs (λy hy=>h1 y (tV _ hy)) h2;refine⟨cl,?_,q2,λy hy hf=>?_,q4⟩
   .rw[vp];have hb:(k==NameKind.free)=false:=by simpa using e
    simp only[hb,uJ,if_false,pure_bind];exact q1
   .rcases uk.mp hy with rfl|hy
    .exact absurd hf e
    .exact q3 y hy hf
theorem D3(h:∀y∈sc.names,y.2=.free->∃c,env.cells.lookup y.1=some c) :
  ∃cl,closureFor sc env=pure cl/\(∀n c,cl.lookup n=some c->env.cells.lookup n=some c)/\(∀y∈sc.names,y.2=.free->∃c,cl.lookup y.1=some c):=by
 obtain⟨cl,q1,q2,q3,_⟩:=Dy sc.names [] h (λn c q=>by simp at q);refine⟨cl,?_,q2,q3⟩;unfold closureFor;simp only[bind_pure];refine Eq.trans ?_ q1;congr 1
section
variable{prog:Program}{w:World}{A:Around}{R:Result->Shared->Prop}{s:Shared}
theorem IT(I:Nat->Shared->Prop)
  (turn:∀n s,I n s->wpAny (model prog w) A (pyNext it) (λr az=>match r with
   |none=>R (.ok .next) az
   |some v=>wpAny (model prog w) A (letOwnedTupleGo target it v) (λ_ az=>wpAny (model prog w) A (assign target env v) (λ_ cR =>
     wpAny (model prog w) A (forIn cj true λc r=>if r=true then do let ok <- isTrue c env (eval c env);pure (ForInStep.yield ok)else pure (ForInStep.yield r)) (λok bu =>
      if ok=true then wpAny (model prog w) A (eval c8 env) (λx gO =>wpAny (model prog w) A (call (.builtin "list.append") [ay,x]) (λ_ jF=>∃m,m<n/\I m jF) (λ_ _=>False) gO) (λ_ _=>False) bu
      else ∃m,m<n/\I m bu) (λ_ _=>False) cR) (λ_ _=>False) az) (λ_ _=>False) az) (λ_ _=>False) s)
  (n:Nat) (h:I n s) :
  codeAny (model prog w) A (.compLoop (.ListComp c8 [⟨target,aC,cj,0⟩] scope pos) 0 it ay env) R s:=by
 refine codeAny_loop rfl I (λn s hI=>?_) n h;refine wpAny_noted ?_;rw[compTurn_list];refine tM (wpAny_standAt (tM (wpAny_mono (turn n s hI) (λr az aH=>?_) λ_ _ h'=>h'.elim)));cases r with|none=>exact tS aH|some v =>refine tM (wpAny_mono aH (λ_ n8 jq=>?_) λ_ _ h'=>h'.elim);refine tM (wpAny_mono jq (λ_ cR bX=>tM (wpAny_mono bX (λok bu eR=>?_) λ_ _ h'=>h'.elim)) λ_ _ h'=>h'.elim);cases ok with|false=>exact tS ⟨rfl,eR⟩|true =>exact tM (tM (wpAny_mono eR (λx gO lD=>tM (wpAny_mono lD (λ_ jF lE=>tS (tS ⟨rfl,lE⟩)) λ_ _ h'=>h'.elim)) λ_ _ h'=>h'.elim))
end
structure Lq(fn sc:Scope):Prop where
 kind:sc.kind=.function
 y1:∀y∈sc.names,y.2≠.cell
 loc:∀y∈sc.names,y.2=.local->sc.names.lookup y.1=some .local
 fr:∀y∈sc.names,y.2=.free->fn.names.lookup y.1=some .cell\/fn.names.lookup y.1=some .free
noncomputable def GO(fn sc:Scope):Bool :=
 decide (sc.kind=.function)&&sc.names.all λy=>decide (y.2≠.cell)&&(decide (y.2≠.local)||decide (sc.names.lookup y.1=some .local)) &&
  (decide (y.2≠.free)||decide (fn.names.lookup y.1=some .cell)||decide (fn.names.lookup y.1=some .free))
theorem IS(h:GO fn sc=true):Lq fn sc:=by
 unfold GO at h;rw[uq,uS]at h;obtain⟨h1,h2⟩:=h;refine⟨um h1,λy hy=>?_,λy hy e=>?_,λy hy e=>?_⟩
 all_goals
  have q:=h2 y hy;rw[uq,uq]at q;obtain⟨⟨q1,q2⟩,q3⟩:=q
 .exact um q1
 .rw[vq]at q2;rcases q2 with q|q
  .exact absurd e (um q)
  .exact um q
 .rw[vq,vq]at q3;rcases q3 with(q|q)|q
  .exact absurd e (um q)
  .exact .inl (um q)
  .exact .inr (um q)
theorem Co{env:Env}:∀{names:List (Str×NameKind)},
  (names.map λ(n,k)=>if(k==NameKind.free&&env.scope.kind==.function&&env.kindOf n==some .cell)then(n,NameKind.cell)else(n,k)).lookup x=some k'->∃k,names.lookup x=some k/\(k'=k\/(k=.free/\k'=.cell))
 | [],h=>by simp at h
 |(n,k)::r,h=>by
  have h:List.lookup x ((if(k==NameKind.free&&env.scope.kind==.function&&env.kindOf n==some .cell)=true then(n,NameKind.cell)else(n,k))::_)=some k':=h;cases hx:x==n with
  |true =>
   refine⟨k,by simp[uM,hx],?_⟩;by_cases hc:(k==NameKind.free&&env.scope.kind==.function&&env.kindOf n==some .cell)=true
   .rw[if_pos hc]at h;simp only[uM,hx]at h;cases h;rw[uq,uq]at hc;exact .inr ⟨beq_iff_eq.mp hc.1.1,rfl⟩
   .rw[if_neg hc]at h;simp only[uM,hx]at h;cases h;exact .inl rfl
  |false =>
   have h':List.lookup x (r.map λ(n,k)=>if(k==NameKind.free&&env.scope.kind==.function&&env.kindOf n==some .cell)then(n,NameKind.cell)else(n,k))=some k':=by
    by_cases hc:(k==NameKind.free&&env.scope.kind==.function&&env.kindOf n==some .cell)=true
    .rw[if_pos hc]at h;simpa only[uM,hx]using h
    .rw[if_neg hc]at h;simpa only[uM,hx]using h
   obtain⟨k0,e1,e2⟩:=Co h';exact⟨k0,by simp only[uM,hx];exact e1,e2⟩
noncomputable def BE(X:Cx)(N:List Str)(sc:Scope)(cl:List (Str×Addr))(C:Addr)(s:Shared)(H:Hp)(ex:List Addr):Cx :=
 {X with N:=N,zZ:=s,zu:=H,env:=compEnvC sc cl C X.env,outer:=X.stack,stack:=X.stack,ex:=ex,fn:=λ_=>false,xe:=λ_ _=>False}
noncomputable def Ej(XN:List Str)(sc:Scope):List Str->List (Option Nat)->Bool
 | [],[]=>true
 |n::r,none::q=>Ej XN sc r q
 |n::r,some i::q=>decide (XN[i]?=some n)&&decide (sc.names.lookup n=some .free)&&Ej XN sc r q
 |_,_=>false
noncomputable def EG(U:St)(src:List (Option Nat)):St:=src.map λo=>o.bind λi=>(U[i]?).join
theorem FJ:∀{N:List Str}{src:List (Option Nat)},Ej XN sc N src=true->src.length=N.length
 | [],[],_=>rfl
 |_::r,none::q,h=>by rw[uC,uC,FJ (src:=q) h]
 |_::r,some i::q,h=>by unfold Ej at h;rw[uq]at h;rw[uC,uC,FJ h.2]
 | [],_::_,h=>by cases h
 |_::_,[],h=>by cases h
theorem IW:∀{N:List Str}{src:List (Option Nat)}{j i:Nat}{n:Str},Ej XN sc N src=true->N[j]?=some n->src[j]?=some (some i)->XN[i]?=some n/\sc.names.lookup n=some .free
 | [],_,j,i,n,_,h1,_=>by simp at h1
 |_::_,[],j,i,n,_,_,h2=>by simp at h2
 |n0::r,o::q,0,i,n,h,h1,h2=>by simp at h1 h2;subst h1;subst h2;unfold Ej at h;rw[uq,uq]at h;exact⟨um h.1.1,um h.1.2⟩
 |n0::r,o::q,j+1,i,n,h,h1,h2=>by refine IW ?_ (by simpa using h1) (by simpa using h2);cases o with|none=>exact h|some k =>unfold Ej at h;rw[uq]at h;exact h.2
section
variable{X:Cx}{aa:List (Addr×Obj)}{U:St}{H:Hp}{s:Shared}{fp:List Addr}{N:List Str}{sc:Scope}{cl:List (Str×Addr)}{C:Addr}{src:List (Option Nat)}
theorem Yw(I:Inv X aa U H s)(hf:∀b∈fp,Jj X aa H b)(ir:∀b∈fp,b<s.heap.objs.size)(hS:Lq X.env.scope sc)(hC:s.heap.objs.size<=C)
  (dy:∀n c,cl.lookup n=some c->X.env.cells.lookup n=some c) (cL:∀y∈sc.names,y.2=.free->∃c,cl.lookup y.1=some c):(BE X N sc cl C s H fp).Ok where
 mod:=I.ok.mod
 kind:=hS.kind
 glob:=I.ok.glob
 blt:=I.ok.blt
 above:=hC
 inj:=λx y c h1 h2=>I.ok.inj x y c (dy _ _ h1) (dy _ _ h2)
 has:=λx hx=>by
  have free:∀k',(k'=NameKind.cell\/k'=NameKind.free)->(relabel sc X.env).names.lookup x=some k'->∃c,cl.lookup x=some c:=λk' hk e=>by
   obtain⟨k,e1,e2⟩:=Co e;have hm:=PySem.mem_of_lookup e1;have qF:k=.free:=by
    rcases e2 with e2|⟨e2,_⟩
    .subst e2;rcases hk with hk|hk
     .exact absurd hk (hS.y1 _ hm)
     .exact hk
    .exact e2
   exact cL _ hm qF
  rcases hx with hx|hx
  .exact free _ (.inl rfl) hx
  .exact free _ (.inr rfl) hx
 zh:=λx c h _=>absurd (show false=true from h) uu
 hd:=I.ok.hd
 frames:=I.ok.frames
 yZ:=.inl rfl
 yW:=λb hb=>⟨ur (uf (ir b hb) hC),λx c e=>(hf b hb).2.2.2.2.1 x c (dy x c e)⟩
 bs:=I.bs
 zA:=uz I.ok.zA I.sz
 zx:=λb o e hb=>by
  rcases(hf b hb).2.2.2.1 with z|z
  .exact I.ok.zx b o e z
  .exact absurd (uf (t9 e) (uz I.ok.zA z)) (uR _)
 zy:=λb hb hz=>by
  rcases uk.mp (I.HU b hz)with z|z
  .exact(hf b hb).2.1 z
  .exact(hf b hb).2.2.1 z
 KR:=I.stack
 zo:=I.Js
theorem UL(I:Inv X aa U H s)(hf:∀b∈fp,Jj X aa H b)(ir:∀b∈fp,b<s.heap.objs.size)(hS:Lq X.env.scope sc)
  (dy:∀n c,cl.lookup n=some c->X.env.cells.lookup n=some c) (cL:∀y∈sc.names,y.2=.free->∃c,cl.lookup y.1=some c) (bM:Ej X.N sc N src=true)
  (hD:s.heap.objs.size<=D) (hC:s.heap.objs.size<=C) (jP:D≠C) (hk:∀b o,s.heap.get? b=some o->h'.get? b=some o) (hn:h'.Ns C m) (hl:h'.get? D=some {cls:=.type "list",data:=.seq (#[]:Array Value)}) :
  Inv (BE X N sc cl C s H fp) aa (EG U src) (upd H D (.lst [])) {s with heap:=h',toks:=tk}:=by
 have fD:=I.z9.fresh hD;have fC:=I.z9.fresh hC;have old:∀{b:Addr}{o:Obj},s.heap.get? b=some o->b≠D/\b≠C:=λ{b o} e=>⟨ur (uf (t9 e) hD),ur (uf (t9 e) hC)⟩
 refine⟨Yw I hf ir hS hC dy cL,rfl,I.bare,Un.laid hk hD fD,⟨m,hn,λj x v e1 e2 e3=>?_⟩,λx c e=>?_,?_,λx c e=>?_,λp hp=>?_,I.z9.laid hk hD ⟨v3 _,[],0,.nil,hl⟩,?_⟩
 .unfold EG at e2;rw[ux]at e2;cases q:src[j]? with
  |none=>rw[q]at e2;cases e2
  |some o =>
   rw[q]at e2;cases o with
   |none=>cases e2
   |some i =>
    have iP:(U[i]?).join=some v:=Option.some.inj e2;have e4:U[i]?=some (some v):=by cases r:U[i]? with|none=>rw[r]at iP;cases iP|some u=>rw[r]at iP;cases u with|none=>cases iP|some u=>have e5:=iP;cases e5;rfl
    obtain⟨g1,g2⟩:=IW bM e1 q;obtain⟨m0,_,qH⟩:=I.loc;have gZ:=hS.fr _ (PySem.mem_of_lookup g2) rfl;obtain⟨u,ru,lk⟩:=qH i x v g1 e4 (gZ.elim (λz=>.inr (.inl z)) λz=>.inr (.inr z));refine⟨u,ru,.inr ⟨?_,?_⟩⟩
    .rcases e3 with e3|e3|e3
     .obtain⟨k,r1,r2⟩:=Co (show(relabel sc X.env).names.lookup x=some .local from e3);rw[g2]at r1;cases r1;rcases r2 with r2|⟨_,r2⟩<;>cases r2
     .exact .inl e3
     .exact .inr e3
    .obtain⟨c,hc⟩:=cL _ (PySem.mem_of_lookup g2) rfl;refine⟨c,hc,?_⟩;rcases lk with⟨lk,_⟩|⟨_,c',jS,z⟩
     .rcases gZ with z|z
      .have z':X.env.kindOf x=some .cell:=z;rw[lk]at z';cases z'
      .have z':X.env.kindOf x=some .free:=z;rw[lk]at z';cases z'
     .have:=dy _ _ hc;rw[jS]at this;cases this;obtain⟨o,ho,hd⟩:=z;exact⟨o,hk _ _ ho,hd⟩
 .obtain⟨v,o,ho,hd⟩:=I.cell x c (dy x c e);exact⟨v,o,hk _ _ ho,hd⟩
 .show upd H D (.lst []) C=none;rw[Aj (Ne.symm jP)];exact fC
 .obtain⟨v,o,ho,hd⟩:=I.cell x c (dy x c e);rw[Aj (old ho).1];exact I.zX x c (dy x c e)
 .obtain⟨p1,p2,p3,p4,p5⟩:=I.pin p hp;refine⟨hk _ _ p1,by rw[Aj (old p1).1];exact p2,(old p1).2,λz=>?_,p5⟩;rcases uk.mp (I.HU _ z)with z|z
  .exact p3 z
  .exact p4 z
 .show(EG U src).length=N.length;unfold EG;rw[tZ];exact FJ bM
end
def RL(X:Cx)(cj:List Expr)(t:TT):Prop :=
 ∀(aa:List (Addr×Obj))(s:Shared)(U:St)(H:Hp)(Q:Bool->Hp->Prop),Inv X aa U H s->t U H Q ->
  wpAny (model X.prog X.w) X.A (forIn cj true λc r=>if r=true then do let ok <- isTrue c X.env (eval c X.env);pure (ForInStep.yield ok)else pure (ForInStep.yield r)) (TP X aa U Q) X.xe s
def Jb5:TT:=λ_ H Q=>Q true H
theorem O7:RL X [] Jb5:=λaa s U H Q I h=>tS ⟨H,I,h⟩
theorem O6(h:PT X c t):RL X [c] t:=by intro aa s U H Q I q;rw[vp];simp only[if_true];refine tM (tM (thn (h aa s U H Q I q) λb s1 q1=>tS ?_));exact tS q1
def Ym(J:It)(g:TG)(tt:TT)(te:TE)(Q:VK)(l9:St)(H1:Hp):Prop:=∀D,H1 D=none ->
 ∃W:Nat->Nat->St->Hp->Prop,(∃m,W 0 m l9 (upd H1 D (.lst [])))/\∀i m τ H2,W i m τ H2 ->
  (J.stop i H2/\Q (.ref D) H2)\/(J.go i H2/\∃N:St->Hp->Prop,(∀km H',N km H'->∃m',m'<m/\W (i+1) m' km H')/\∀x H3,J.yV i H2 x H3->g x τ H3 λcS H4=>tt cS H4 λb H5 =>if b=true then te cS H5 λy H6=>∃ys,H6 D=some (.lst ys)/\ys.length<sizeLine/\N cS (upd H6 D (.lst (ys++[y])))else N cS H5)
def Sd(src:List (Option Nat))(wi:TI)(g:TG)(tt:TT)(te:TE):TE:=λU H Q=>wi U H λJ H1=>Ym J g tt te Q (EG U src) H1
section
variable{X:Cx}{tg aC c8:Expr}{cj:List Expr}{sc:Scope}{pos:Pos}{N:List Str}{src:List (Option Nat)}{wi:TI}{g:TG}{tt:TT}{te:TE}
theorem K6(bp:X.calm=true)(hS:Lq X.env.scope sc)(bM:Ej X.N sc N src=true)
  (hg:∀cl C s H fp,PG (BE X N sc cl C s H fp) tg g) (ht:∀cl C s H fp,RL (BE X N sc cl C s H fp) cj tt) (he:∀cl C s H fp,PE (BE X N sc cl C s H fp) c8 te)
  {RR:Value->Addr->Result->Shared->Prop}
  (dy:∀n c,cl.lookup n=some c->X.env.cells.lookup n=some c) (cL:∀y∈sc.names,y.2=.free->∃c,cl.lookup y.1=some c)
  (I:Inv X aa U H s) (T:Turn X.prog X.w X.K tg J fp it tn) (t0:tn 0 s.heap) (hf:∀b∈fp,Jj X aa H b) (hw:Ym J g tt te Q (EG U src) H)
  (hR:∀(D C:Addr)(s':Shared)(τ:St)(H':Hp)(m:Str->Option Value),s.heap.objs.size<=C->s'.heap.Ns C m->Inv (BE X N sc cl C s H fp) aa τ H' s'->(∀b∈fp,H' b=none)->Q (.ref D) H'->RR (.ref D) C (.ok .next) s') :
  wpAny (model X.prog X.w) X.A (newList []) (λay bu=>wpAny (model X.prog X.w) X.A (newFunctionEnv sc X.env.globals cl [] X.env.qual none .none (some X.env)) (λiO gO =>codeAny (model X.prog X.w) X.A (.compStart (.ListComp c8 [⟨tg,aC,cj,0⟩] sc pos) 0 (.ref it) ay {iO with scope:=relabel sc X.env}) (RR ay iO.locals) gO) E bu) E s:=by
 have ir:∀b∈fp,b<s.heap.objs.size:=λb hb=>by obtain⟨o,e,_⟩:=T.obj 0 _ t0 b hb;exact t9 e
 refine wpAny_newObj_type (wpAny_newFunctionEnv hS.y1 (by intro y hy;simp at hy) (λaH dC cM=>?_) hS.kind);dsimp only at dC cM ⊢;generalize hH2:s.heap.push {cls:=.type "list",dict:=none,data:=.seq ([]:List Value).toArray}=H2 at dC cM ⊢;have hC:H2.objs.size=s.heap.objs.size+1:=by rw[<- hH2,u4]
 have jP:s.heap.objs.size≠H2.objs.size:=by rw[hC];exact ur (Nat.lt_succ_self _)
 have gq:s.heap.objs.size<=H2.objs.size:=by rw[hC];exact Nat.le_succ _
 have old:=λb o e=>cM.extBut b o (ur (uf (t9 e) gq)) (tN _ (hH2▸tN _ e))
 have bA:=cM.extBut _ _ jP (tN _ (hH2▸tY _ rfl));have fresh:=I.z9.fresh (uh _);obtain⟨W,⟨m0,w0⟩,turn⟩:=hw s.heap.objs.size fresh;have Y0:Inv (BE X N sc cl H2.objs.size s H fp) aa (EG U src) (upd H s.heap.objs.size (.lst [])) {s with heap:=aH,toks:=s.toks+([]:List (Str×Value)).length} :=
  UL I hf ir hS dy cL bM (uh _) gq jP old dC bA
 have t1:tn 0 aH:=T.keep 0 _ _ t0 λb _ o e=>old b o e
 have qa:∀b∈fp,upd H s.heap.objs.size (.lst []) b=none:=λb hb=>by rw[Aj (ur (ir b hb))];exact(hf b hb).1
 have dR:∀{H':Hp},(∀b∈fp,H' b=none)->∀b∈fp,Jj (BE X N sc cl H2.objs.size s H fp) aa H' b:=λ{H'} hn b hb =>⟨hn b hb,ur (uf (ir b hb) gq),Y0.ok.zy b hb,.inl hb,(Y0.ok.yW b hb).2,(hf b hb).2.2.2.2.2⟩
 have loop:∀bu:Shared,bu={s with heap:=aH,toks:=s.toks+([]:List (Str×Value)).length} ->
   codeAny (model X.prog X.w) X.A (.compLoop (.ListComp c8 [⟨tg,aC,cj,0⟩] sc pos) 0 (.ref it) (.ref s.heap.objs.size) (compEnvC sc cl H2.objs.size X.env)) (RR (.ref s.heap.objs.size) H2.objs.size) bu:=by
  rintro bu rfl
  refine IT (λn s'=>∃i τ H',Inv (BE X N sc cl H2.objs.size s H fp) aa τ H' s'/\tn i s'.heap/\(∀b∈fp,H' b=none)/\W i n τ H') ?_ m0 ⟨0,_,_,Y0,t1,qa,w0⟩
  rintro n s4 ⟨i,τ,H4,I4,t4,fr4,w4⟩
  rcases turn i n τ H4 w4 with⟨stop,qn⟩|⟨go,Nx,hNx,step⟩
  .refine thn (T.done (BE X N sc cl H2.objs.size s H fp) rfl rfl rfl bp i aa s4 τ H4 _ I4 (dR fr4) t4 stop) λr s5 ⟨hr,I5⟩=>?_
   subst hr;obtain⟨m5,qN,_⟩:=I5.loc;exact hR _ _ s5 τ H4 m5 gq qN I5 fr4 qn
  .refine thn (T.item (BE X N sc cl H2.objs.size s H fp) rfl rfl rfl bp i aa s4 τ H4 _ I4 (dR fr4) t4 go) λr s5 ⟨u,hr,h5⟩=>?_
   subst hr;refine thn h5 λ_ s6 ao=>?_
   obtain⟨x,H6,I6,r6,y6,lY,qc⟩:= ao;have oW:=I6.pinned (dR qc) (T.obj _ _ lY);have again:∀{gR:St}{H7:Hp}{s7:Shared}{m':Nat},Inv (BE X N sc cl H2.objs.size s H fp) (aa++Ii fp s6.heap) gR H7 s7->m'<n->W (i+1) m' gR H7 ->
     ∃m,m<n/\∃i τ H',Inv (BE X N sc cl H2.objs.size s H fp) aa τ H' s7/\tn i s7.heap/\(∀b∈fp,H' b=none)/\W i m τ H':=λ{gR H7 s7 m'} I7 hm w7=>by
    refine⟨m',hm,i+1,gR,H7,I7.EJ,T.keep _ _ _ lY λb hb o e=>(I7.pin (b,o) (ue _ (ue _ (C9 hb e)))).1,λb hb=>?_,w7⟩;obtain⟨o,e,d⟩:=T.obj _ _ lY b hb;exact(I7.pin (b,o) (ue _ (ue _ (C9 hb e)))).2.1
   refine thn (hg cl H2.objs.size s H fp _ s6 τ H6 x u _ oW r6 (step x H6 y6)) λ_ s7 ao=>?_
   obtain⟨gR,H7,I7,q7⟩:= ao;refine thn (ht cl H2.objs.size s H fp _ s7 gR H7 _ I7 q7) λb s8 ao=>?_
   obtain⟨H8,I8,q8⟩:= ao;cases b with
   |false =>rw[if_neg uu]at q8 ⊢;obtain⟨m',hm,w8⟩:=hNx _ _ q8;exact again I8 hm w8
   |true =>
    rw[if_pos rfl]at q8 ⊢;refine thn (he cl H2.objs.size s H fp _ s8 gR H8 _ I8 q8) λv s9 ao=>?_
    obtain⟨y,H9,I9,r9,ys,qm,hz,w9⟩:= ao;obtain⟨m',hm,w9⟩:=hNx _ _ w9;refine thn (Iz _ s9 gR H9 (.ref s.heap.objs.size) [y] (.ref s.heap.objs.size) [v] (λ_ Hn=>W (i+1) m' gR Hn) I9 rfl (.cons r9 .nil) ⟨_,ys,y,rfl,rfl,qm,hz,w9⟩) λ_ tK ao=>?_
    obtain⟨_,sF,oU,_,sv⟩:= ao;exact again oU hm sv
 exact codeAny_compStart_list (loop _ rfl) (T.self X.A 0 _ _ _ t1 (loop _ rfl))
theorem Oo(I:Inv X aa U H s)(hf:∀b∈fp,Jj X aa H b)(J:Inv (BE X N sc cl C s H fp) aa τ H' s'):Inv X aa U H' s' :=
 I.Yv J.os J.base J.z9 J.bare λb hb=>⟨(hf b hb).2.2.2.1,(hf b hb).2.1,(hf b hb).2.2.2.2.1,(hf b hb).2.2.2.2.2⟩
theorem UK(I:Inv X aa U H s)(hC:s.heap.objs.size<=C)(hf:∀b∈fp,Jj X aa H b)
  (J:Inv (BE X N sc cl C s H fp) aa τ H' s') (hs:Heap.SameBut C s'.heap h'):Inv X aa U H' {s' with heap:=h' }:=by
 have I':=Oo I hf J;refine I'.turned (λb o hb e=>hs.extBut b o hb e) J.free (vS (uf I.lt hC)) (.inr (uz I.sz hC)) (λx c e z=>?_) λp hp z=>?_
 .obtain⟨v,q⟩:=I.cell x c e;exact absurd (uf q.lt (by rw[z];exact hC)) (uR _)
 .exact absurd (uf (t9 (I.pin p hp).1) (by rw[z];exact hC)) (uR _)
theorem SJ(N:List Str)(src:List (Option Nat))(bp:X.calm=true)(hi:PI X tg aC wi)(hg:∀cl C s H fp,PG (BE X N sc cl C s H fp) tg g)(ht:∀cl C s H fp,RL (BE X N sc cl C s H fp) cj tt)
  (he:∀cl C s H fp,PE (BE X N sc cl C s H fp) c8 te) (hS:GO X.env.scope sc=true:=by rfl) (bM:Ej X.N sc N src=true:=by rfl)
  (hs:∀x,foldedSetIterable aC X.env x=pure x:=by intro _;rfl):PE X (.ListComp c8 [⟨tg,aC,cj,0⟩] sc pos) (Sd src wi g tt te):=by
 intro aa s U H Q I h;have S:=IS hS;obtain⟨cl,jT,dy,cL⟩:=D3 λy hy e=>I.ok.has y.1 (S.fr y hy e)
 rw[eval_ListComp];refine wpAny_comprehension_free rfl hs jT S.kind S.loc (thn (hi aa s U H _ I h) λv s1 h1=>thn h1 λj4 s2 h2=>?_);obtain⟨it,fp,tn,J,H2,e,I2,T,t2,f2,hw⟩:=h2;subst e;refine K6 bp S bM hg ht he dy cL I2 T t2 f2 hw λD C s' τ H' m hC hn J' _ q=>?_
 exact⟨m,hn,λh' bC=>⟨.ref D,H',UK I2 hC f2 J' bC,rfl,q⟩⟩
theorem LF{i:Nat}{y:Str}{aR gN:Pos}(N:List Str)(src:List (Option Nat))(bp:X.calm=true)(hN:X.N.Nodup)(kS:X.N[i]?=some y)(hy:Loc X.env.scope y)(hi:PI X tg aC wi)(hg:∀cl C s H fp,PG (BE X N sc cl C s H fp) tg g)(ht:∀cl C s H fp,RL (BE X N sc cl C s H fp) cj tt)
  (he:∀cl C s H fp,PE (BE X N sc cl C s H fp) c8 te) (hS:GO X.env.scope sc=true:=by rfl) (bM:Ej X.N sc N src=true:=by rfl)
  (hs:∀x,foldedSetIterable aC X.env x=pure x:=by intro _;rfl) (lx:swapsWith (.ListComp c8 [⟨tg,aC,cj,0⟩] sc pos) (some (.Name y aR)) gN.line X.env=pure true:=by rfl)
  (hf:X.fn y=true\/X.env.scope.names.lookup y=some .local:=by first|exact .inl rfl|exact .inr rfl|assumption) :
  PS X (.Assign [.Name y aR] (.ListComp c8 [⟨tg,aC,cj,0⟩] sc pos) gN) (Vv (Sd src wi g tt te) (P6 i)):=by
 intro aa s U H D0 I h;have S:=IS hS;obtain⟨cl,jT,dy,cL⟩:=D3 (sc:=sc) (env:=X.env) λy hy e=>I.ok.has y.1 (S.fr y hy e)
 rw[exec_Assign_Name_used _ _ _ _ lx];refine tM (wpAny_standAt (tM ?_));show wpAny _ X.A (do let _ <- comprehension (.ListComp c8 [⟨tg,aC,cj,0⟩] sc pos) sc X.env _ (newList []) false (eval aC X.env) (some (assign (.Name y aR) X.env))) _ _ s;refine tM (wpAny_mono (wpAny_comprehension_free (use:=some (assign (.Name y aR) X.env)) (Q:=λ_ s'=>SP X aa D0 .next s') rfl hs jT S.kind S.loc
  (thn (hi aa s U H _ I h) λv s1 h1=>thn h1 λj4 s2 h2=>?_)) (λ_ s' hq=>tS (tS hq)) λ_ _ e=>e)
 obtain⟨it,fp,tn,J,H2,e,I2,T,t2,f2,hw⟩:=h2;subst e;refine K6 bp S bM hg ht he dy cL I2 T t2 f2 hw (RR:=λay C=>compPost (model X.prog X.w) X.A X.xe (some (assign (.Name y aR) X.env)) (λ_ s'=>SP X aa D0 .next s') ay C) λD C s' τ H' m hC hn J' _ q=>?_
 show wpAny _ X.A (assign (.Name y aR) X.env (.ref D)) _ _ s';have I':=Oo I2 f2 J';have nH:∀{b:Addr}{o:Obj},s2.heap.get? b=some o->b≠C:=λe=>ur (uf (t9 e) hC)
 have cC:∀x c,X.env.cells.lookup x=some c->c≠C:=λx c e=>by obtain⟨v,o,ho,_⟩:=I2.cell x c e;exact nH ho
 have lC:X.env.locals≠C:=ur (uf I2.lt hC);refine wpAny_assign_Name (HS I' hN kS hy (v:=.ref D) rfl (λs3 I3 ao=>?_) hf);obtain⟨a,sb,ha⟩:= ao;have rD:C≠a:=by
  rcases ha with rfl|ha
  .exact Ne.symm lC
  .exact Ne.symm (cC _ _ ha)
 refine⟨m,hn.sameBut sb rD,λh' jj=>⟨_,H',I3.turned (it:=C) (t':=s3.toks) (λb o hb e=>jj.extBut b o hb e) J'.free (Ne.symm lC) (.inr (uz I2.sz hC)) cC (λp hp z=>nH (I2.pin p hp).1 z),q⟩⟩
end
section
variable{K:Fg}{a:Addr}{xs:List V}{g:TG}{tt:TT}{te:TE}{Q:VK}{l9:St}{H1:Hp}
end
end L2
namespace PySem
namespace F
end F
section
variable{prog:Program}{w:World}{A:Around}{s:Shared}{R:Result->Shared->Prop}
variable{I:Addr}{fp wr:List Addr}{G:Array GenState->Array GenState->Prop}{n:Nat}{P:Nat->Value->Prop}{St:Nat->Shared->Prop}
end
section
variable{prog:Program}{w:World}{A:Around}{E:Value->Shared->Prop}{s:Shared}
end
end PySem
namespace L2
open PySem PySem.Spec PyProof.Rows
section
variable{X:Cx}{aa:List (Addr×Obj)}{U:St}{H:Hp}{s:Shared}
end
theorem OE(r:Vals ys aq)(h:ItemsOf (λi v=>aq.toArray[aq.toArray.size-1-i]?=some v) ay aq.toArray.size):Vals ys.reverse ay.toList:=by
 have e:ay.toList=aq.reverse:=by
  apply List.ext_getElem?;intro i;obtain⟨h1,h2⟩:=h;have hs:aq.toArray.size=aq.length:=by simp
  by_cases hi:i<aq.length
  .have ha:ay[i]?=some (ay[i]'(by lia)):=by simp
   have q:=h2 i _ ha;rw[List.getElem?_reverse (by lia)];have q':=by simpa using q
   rw[q'];simp
  .rw[u7 (by simp;lia),u7 (by simp;lia)]
 rw[e];exact r.reverse
section
variable{X:Cx}{a:Expr}{ta:TE}{p1 p2 di aU:Pos}
theorem QA(hc:X.calm=true):BZ X (.builtin "sum") (λxs H Q=>∃(l:Addr)(ns:List Int),xs=[.ref l]/\SqL X.K H l (ns.map V.int)/\Q (.int ns.sum) H):=by
 intro aa s U H xs us Q I r h;obtain⟨l,ns,rfl,hq,q⟩:=h;obtain⟨u,rfl,rx⟩:=vals1 r;cases rx;obtain⟨aq,rv,pl,hz⟩:=I.list hq;have hi:=intsAre_of rv;obtain⟨zs,hx⟩:=hi.allInts.items;have jW:=hx▸pl.isList;refine sum_intListG (I.ok.hd hc) jW λh' tk t' hk=>?_
 have e1:ns=zs.toList.map (·.1):=by rw[<- nums_intItems,<- hx];exact(show numsOf aq.toArray.toList=ns from hi.numsOf).symm
 have e2:preSum (numAt zs) zs.size=ns.sum:=by rw[preSum_eq,vm (by simp),e1]
 rw[e2];exact⟨.int ns.sum,H,I.kept hk,⟨_,rfl⟩,q⟩
theorem B8:∀{bs:List Bool}{us:List Value},Vals (bs.map V.v) us->us=bs.map Value.bool
 | [],_,.nil=>rfl
 |b::bs,_,.cons r t=>by cases(show _=Value.bool b from r);rw[tR,B8 t]
theorem QD(hc:X.calm=true):BZ X (.builtin "all") (λxs H Q=>∃(l:Addr)(bs:List Bool),xs=[.ref l]/\SqL X.K H l (bs.map V.v)/\Q (.v (bs.all id)) H):=by
 intro aa s U H xs us Q I r h;obtain⟨l,bs,rfl,hq,q⟩:=h;obtain⟨u,rfl,rx⟩:=vals1 r;cases rx;obtain⟨aq,rv,pl,hz⟩:=I.list hq;have hb:=B8 rv;have hl:=pl.isList;have cV:l<s.heap.objs.size:=by obtain⟨_,e,_⟩:=hl;exact t9 e
 refine call_all_walk (wpAny_pyIter_list hl ?_);refine⟨s.heap.objs.size,[s.heap.objs.size,l],[s.heap.objs.size],aq.toArray.size,_,_,λi=>(bs[i]?).getD true,rfl,Walks.list (A:=X.A.in1) (I.ok.hd hc) _ l (ur cV) aq.toArray,
  ⟨⟨_,tY _ rfl,rfl,rfl⟩,hl.push _⟩,λi v s' Q' E' hP hQ=>?_,λh' tk hk=>?_⟩
 .have e:=by simpa using hP
  rw[hb,ux]at e;cases eb:bs[i]? with|none=>rw[eb]at e;cases e|some b =>rw[eb]at e;have e':=Option.some.inj e;subst e';simp only[eb,Option.getD_some]at hQ;exact wpAny_truthy_bool hQ
 .have e:((List.range aq.toArray.size).all λi=>(bs[i]?).getD true)=bs.all id:=by
   have hlen:aq.toArray.size=bs.length:=by rw[hb];simp
   rw[hlen];rw[vc,uS,uS];constructor
   .intro hh b hm;obtain⟨i,hi,rfl⟩:=vD hm;have:=hh i (vj.mpr hi);simpa[tO hi]using this
   .intro hh i hi;have eJ:=vj.mp hi;have:=hh _ (v8 eJ);simpa[tO eJ]using this
  rw[e];have kp:=λb o e=>hk b o (λhm=>by rw[ub.mp hm]at e;exact uR _ (t9 e)) (tN _ e)
  exact⟨.v _,H,I.kept kp,rfl,q⟩
theorem SQ:OpR X (binaryOp .Mult) (rI IntMulOk λi j=>.int (i*j)):=opI λ_ _ _ _ _ _ _ hc q=>mul_int q hc
theorem MZ:OpR X (binaryOp .Mult) (λx y H Q=>∃z n,x=.str z/\y=.int n/\MulOk z n/\Q (.str (Txt.mul z n)) H):=by intro aa s U H x y v u Q I rx ry h;obtain⟨z,n,rfl,rfl,z9,q⟩:=h;obtain⟨t,rfl⟩:=rx;obtain⟨t',rfl⟩:=ry;exact SB.mul z9 λt' k=>⟨.str _,H,I.tok _,⟨_,rfl⟩,q⟩
end
section
variable{X:Cx}{tg:Expr}
def Its(z:Str):It:=⟨λi _=>i<z.cps.size,λi H x H'=>H'=H/\∃c,z.cps[i]?=some c/\x=.str ⟨#[c]⟩,λi _=>z.cps.size<=i⟩
theorem Xl(hQ:Q () s):wpAny M A (letOwnedTupleGo tg it (.str x t)) Q E s:=by
 unfold letOwnedTupleGo;cases tg<;>first
  |exact tS hQ
  |(cases it<;>exact tS hQ)
theorem OI{K:Fg}(it:Addr)(ty:String)(z:Str)(t:Tok)(gG:ty="str_ascii_iterator"\/ty="str_iterator"):Turn P w K tg (Its z) [it] it (λi h=>h.IsStrIter it ty z t i) where
 mem:=by simp
 obj:=λi h st b hb=>by
  have e:=by simpa using hb
  subst e;obtain⟨o,e,c,d⟩:=st;exact⟨o,e,λv z=>by rw[d]at z;cases z⟩
 keep:=λi h h' st k=>by obtain⟨o,e,c,d⟩:=st;exact⟨o,k it (by simp) o e,c,d⟩
 item:=by
  intro X hP hw hK hc i aa s U H E I hf st hg;subst hP hw hK;obtain⟨f0,f1,f2,f3,f4,f5⟩:=hf it (by simp);have aT:∀(v:Value)(h':Heap)(tk:Nat),SignAt z i v->h'.IsStrIter it ty z t (i+1)->(∀b o,b∉[it]->s.heap.get? b=some o->h'.get? b=some o) ->
    ∃u,some v=some u/\wpAny (model X.prog X.w) X.A (letOwnedTupleGo tg (.ref it) u) (λ_ s2=>∃x H',Inv X aa U H' s2/\RelV x u/\(Its z).yV i H x H'/\s2.heap.IsStrIter it ty z t (i+1)/\∀b∈[it],H' b=none) E {s with heap:=h',toks:=tk}:=λv h' tk hv dQ kk=>by
   obtain⟨c,u,iE,rfl⟩:=hv;have I1:Inv X aa U H {s with heap:=h',toks:=tk}:=I.turned (λb o hb e=>kk b o (by simpa using hb) e) f0 f1 f3 f4 f5;exact⟨_,rfl,Xl ⟨.str ⟨#[c]⟩,H,I1,⟨u,rfl⟩,⟨rfl,c,iE,rfl⟩,dQ,λb hb=>(hf b hb).1⟩⟩
  rcases gG with rfl|rfl
  .exact(Walks.strAscii (I.ok.hd hc) it z t).item i s _ _ hg st aT
  .exact(Walks.strWide (I.ok.hd hc) it z t).item i s _ _ hg st aT
 done:=by
  intro X hP hw hK hc i aa s U H E I hf st hg;subst hP hw hK;obtain⟨f0,f1,f2,f3,f4,f5⟩:=hf it (by simp);have hz:=Array.getElem?_eq_none hg;rcases gG with rfl|rfl
  .exact wpAny_pyNext_ascii_end (I.ok.hd hc) st hz λh' ig=>⟨rfl,I.turned (λb o hb e=>ig b o hb e) f0 f1 f3 f4 f5⟩
  .exact wpAny_pyNext_wide_end (I.ok.hd hc) st hz λh' ig=>⟨rfl,I.turned (λb o hb e=>ig b o hb e) f0 f1 f3 f4 f5⟩
 self:=λ_ _ _ _ _ st h=>by
  rcases gG with rfl|rfl
  .exact wpAny_pyIter_striter_ascii st h
  .exact wpAny_pyIter_striter_wide st h
end
section
variable{K:Fg}{a:Addr}{xs:List V}{g:TG}{te:TE}{Q:VK}{l9:St}{H1:Hp}
end
section
variable{X:Cx}(K:Fg)
end
structure FnAt(P:Program)(w:World)(K:Fg)(mg:Str->Option Value)(base:Heap)(CX:CXT)(x:Str)(k:Nat)(ps:List Str)(sp:Sp):Prop where
 ex:∃f fd,CS P w K mg base CX k f fd ps sp/\mg x=some (.ref f)/\keepIn K (.ref f)=true/\Binds K fd ps []
section
variable{X:Cx}{CX:CXT}{k:Nat}{ps:List Str}{sp:Sp}{E:XK}{x:Str}{p pos:Pos}{e:Expr}{es:List Expr}{t:TA}
end
section
variable{X:Cx}{x:Str}{pos:Pos}
theorem Z9(h:∃t,X.mg x=some (.int i t))(hg:Gl X x:=by rfl)(hd:(x==("__debug__":Str))=false:=by decide):PE X (.Name x pos) (tC (.int i)):=by obtain⟨t,h⟩:=h;exact MV hg h ⟨t,rfl⟩ hd
theorem Z8(h:∃t,X.mg x=some (.str z t))(hg:Gl X x:=by rfl)(hd:(x==("__debug__":Str))=false:=by decide):PE X (.Name x pos) (tC (.str z)):=by obtain⟨t,h⟩:=h;exact MV hg h ⟨t,rfl⟩ hd
theorem Nq(h:Gj k v=true):RelV (kV k) v:=by
 rcases AU h with⟨i,t,rfl,rfl⟩|⟨x,t,rfl,rfl⟩
 .exact⟨t,rfl⟩
 .exact⟨t,rfl⟩
theorem Mp(r:KV ah vs)(h:ItemsOf (λi v=>∃k x,vs[i]?=some (k,x)/\Gj k v=true) ay vs.length):Vals (ah.map λkv=>kV kv.1) ay.toList:=by
 obtain⟨h1,h2⟩:=h;have key:∀(ah:List (Key×V))(vs:List (Key×Value))(l:List Value),KV ah vs->l.length=vs.length->(∀(j:Nat)(v:Value),l[j]?=some v->∃k x,vs[j]?=some (k,x)/\Gj k v=true)->Vals (ah.map λkv=>kV kv.1) l:=by
  intro ah
  induction ah with
  |nil =>intro vs l r hl _;cases r;have:=vi (by simpa using hl);subst this;exact .nil
  |cons p ah ih =>
   intro vs l r hl hh;cases r with
   |@cons _ q _ vr e t =>
    cases l with
    |nil=>simp at hl
    |cons v l =>
     obtain⟨k,x,e1,e2⟩:=hh 0 v rfl;have pX:=Option.some.inj e1;refine .cons ?_ (ih vr l t (by simpa using hl) λj w hw=>?_)
     .have:p.1=k:=by rw[e.1,pX]
      show RelV (kV p.1) v;rw[this];exact Nq e2
     .exact hh (j+1) w hw
 exact key ah vs ay.toList r (by rw[vf];exact h1) λj v e=>h2 j v (by rw[<- Array.getElem?_toList];exact e)
end
structure UX(P:Program)(w:World)(K:Fg)(mg:Str->Option Value)(base:Heap)(CX:CXT)(C:Addr)(m:Str)(k:Nat)(ps:List Str)(sp:Sp):Prop where
 cl:Cls K C
 ex:∃f fd,CS P w K mg base CX k f fd ps sp/\Meth K C m f/\Binds K fd ps []
structure YM(P:Program)(w:World)(K:Fg)(mg:Str->Option Value)(base:Heap)(CX:CXT)(x:Str)(C:Addr)(k:Nat)(ps:List Str)(sp:Sp):Prop where
 at_:mg x=some (.ref C)
 ex:∃f fd,CS P w K mg base CX k f fd ps sp/\Mk K C f/\Binds K fd ps []
section
variable{X:Cx}{CX:CXT}{k:Nat}{C:Addr}{ps:List Str}{sp:Sp}{E:XK}{x m:Str}{p pos aB:Pos}{e o:Expr}{es:List Expr}{ta:TE}{t:TA}
theorem Wh(G:UX X.prog X.w X.K X.mg X.base CX C m k ps sp)(hr:C7 k X.A)(hx:Passes CX X E)(he:PE X o ta)
  (ht:eval (.Call (.Attribute o m aB) [] [] pos) X.env=(do
   let ov <- eval o X.env
   standAt aB.atName
   let(f,first) <- holding [ov] (getMethod ov m pl)
   callWith pos f first (backTo pos (starEach [] X.env)) (backToKw pos (keywordEach [] X.env))):=by rfl) :
  PE X (.Call (.Attribute o m aB) [] [] pos) (Sb C m sp [] E ta YE):=by
 obtain⟨f,fd,F,hm,hb⟩:=G.ex;exact Pb he G.cl hm F hr hb .nil hx ht
theorem Z6(G:YM X.prog X.w X.K X.mg X.base CX x C k ps sp)(hr:C7 (k+1) X.A)(hx:Passes CX X E)(ha:PA X (e::es) t)(hg:Gl X x:=by rfl)(aQ:(x==("__debug__":Str))=false:=by decide)
  (he:starEach (e::es) X.env=(false,eval e X.env)::starEach es X.env:=by rfl) (aI:(backTo pos (starEach es X.env)).any (·.1)=false:=by rfl):PE X (.Call (.Name x p) (e::es) [] pos) (Vr C sp [] E t):=by
 obtain⟨f,fd,F,M,hb⟩:=G.ex;exact SG M F hr hg G.at_ hb .nil hx ha aQ he aI
end
def orR(r r':R2):R2:=λx y H Q=>r x y H Q\/r' x y H Q
section
variable{X:Cx}
theorem OpR.orR(h:OpR X f r)(h':OpR X f r'):OpR X f (orR r r'):=λaa s U H x y v u Q I rx ry q=>q.elim (h aa s U H x y v u Q I rx ry) (h' aa s U H x y v u Q I rx ry)
theorem IxR.orR(h:IxR X r)(h':IxR X r'):IxR X (L2.orR r r'):=λvalue slice aa s U H x y v u Q I rx ry q e=>q.elim (λq=>h value slice aa s U H x y v u Q I rx ry q e) (λq=>h' value slice aa s U H x y v u Q I rx ry q e)
def VJ:R2:=λx y H Q=>∃a v,x=.ref a/\Jn H a y (some v)/\Q v H
def ZU(neg:Bool):R2:=λy x H Q=>∃a o,x=.ref a/\Jn H a y o/\Q (.v (if neg then !o.isSome else o.isSome)) H
theorem Rf(hu:X.A.units+1<cLine):OpR X (compareOp .In) (ZU false):=by intro aa s U H y x v u Q I ry rx h;obtain⟨a,o,rfl,g,q⟩:=h;obtain rfl:u=Value.ref a:=rx;exact d_in hu I g ry λs3 I3=>⟨.v o.isSome,H,I3,rfl,q⟩
theorem M0(hu:X.A.units+1<cLine):OpR X (compareOp .NotIn) (ZU true):=by intro aa s U H y x v u Q I ry rx h;obtain⟨a,o,rfl,g,q⟩:=h;obtain rfl:u=Value.ref a:=rx;exact Ux hu I g ry λs3 I3=>⟨.v (!o.isSome),H,I3,rfl,q⟩
theorem Tv(hu:X.A.units+1<cLine):IxR X VJ:=by
 intro value slice aa s U H x y v u Q I rx ry h hs;obtain⟨a,w,rfl,g,q⟩:=h;obtain rfl:v=Value.ref a:=rx;have hT:=FC I g;have bX:wpAny (model X.prog X.w) X.A (getItem (.ref a) u) (EP X aa U Q) X.xe s:=IQ hu I g ry λw' s3 I3 dP=>⟨w,H,I3,dP,q⟩
 unfold subscriptTail;refine tM ?_;rw[getitemInPython_of_ne hT.not_modules];refine tM (wpAny_specialOf hT PySem.F.slot_dict_getitem.lookup ?_);have aT:wpAny (model X.prog X.w) X.A (subscripted slice false (.ref a) u) (λr bu=>wpAny (model X.prog X.w) X.A (letTemporaryGo value (.ref a) r >>= λ_=>pure r) (EP X aa U Q) X.xe bu) X.xe s:=by rw[hs];exact wpAny_operating (wpAny_mono bX (λr bu eR=>tM (wpAny_letTemporaryGo (tS eR))) λ_ _ x=>x)
 first
  |exact tS (tM aT)
  |exact tM (tS (tM aT))
  |exact tM aT
noncomputable def SM(r r':UW):UW:=λo i v H Q=>r o i v H Q\/r' o i v H Q
theorem QL.orR(h:QL X r)(h':QL X r'):QL X (SM r r'):=λaa s U H o i v ov iv u Q I r1 r2 r3 q=>q.elim (h aa s U H o i v ov iv u Q I r1 r2 r3) (h' aa s U H o i v ov iv u Q I r1 r2 r3)
noncomputable def OX:UW:=λo i v H Q=>∃a H4,o=.ref a/\Mf H a i v H4/\Q H4
theorem set_dict(hu:X.A.units+1<cLine):QL X OX:=by intro aa s U H o i v ov iv u Q I ro ri rv h;obtain⟨a,H4,rfl,g,q⟩:=h;obtain rfl:ov=Value.ref a:=ro;exact IP hu I g ri rv λs4 I4=>⟨H4,I4,q⟩
def Rb(r r':List V->Hp->VK->Prop):List V->Hp->VK->Prop:=λvs H Q=>r vs H Q\/r' vs H Q
theorem BZ.orR(h:BZ X f r)(h':BZ X f r'):BZ X f (Rb r r'):=λaa s U H xs us Q I rx q=>q.elim (h aa s U H xs us Q I rx) (h' aa s U H xs us Q I rx)
def iSeq(K:Fg)(tl:TE):TI:=λU H R=>tl U H λx H1=>(∃a,x=.ref a/\(∃xs,SqL K H1 a xs)/\R (Itl K a) H1)\/(∃a,x=.ref a/\(∃xs,SqT K H1 a xs)/\R (Itt K a) H1)\/(∃z,x=.str z/\R (Its z) H1)
variable{tg:Expr}
theorem V7(hl:PE X l tl):PI X tg l (iSeq X.K tl):=by
 intro aa s U H R I h;have key:∀(x:V)(H1:Hp)(v:Value)(s1:Shared),Inv X aa U H1 s1->RelV x v->((∃a,x=.ref a/\(∃xs,SqL X.K H1 a xs)/\R (Itl X.K a) H1)\/(∃a,x=.ref a/\(∃xs,SqT X.K H1 a xs)/\R (Itt X.K a) H1)\/(∃z,x=.str z/\R (Its z) H1)) ->
   wpAny (model X.prog X.w) X.A (pyIter v) (PIE X aa U tg R) X.xe s1:=by
  intro x H1 v s1 I1 r1 q1;rcases q1 with⟨a,e,⟨xs,hq⟩,q⟩|⟨a,e,⟨xs,hq⟩,q⟩|⟨z,e,q⟩
  .subst e;cases r1;obtain⟨aq,rv,p,hz⟩:=I1.list hq;refine wpAny_pyIter_list p.isList ?_;refine⟨s1.heap.objs.size,[s1.heap.objs.size],_,_,H1,rfl,I1.kept λb o e=>tN _ e,Ms a _,⟨_,tY _ rfl,rfl,rfl⟩,λb hb=>?_,q⟩;have e:=by simpa using hb
   subst e;exact I1.Qd (uh _) (I1.z9.fresh (uh _))
  .subst e;cases r1;obtain⟨aq,rv,p,hz⟩:=I1.tuple hq;refine wpAny_pyIter_tuple (show s1.heap.IsTuple a aq.toArray from p) ?_;refine⟨s1.heap.objs.size,[s1.heap.objs.size],_,_,H1,rfl,I1.kept λb o e=>tN _ e,Lu a _,⟨_,tY _ rfl,rfl,rfl⟩,λb hb=>?_,q⟩;have e:=by simpa using hb
   subst e;exact I1.Qd (uh _) (I1.z9.fresh (uh _))
  .subst e;obtain⟨t,rfl⟩:=r1;have go:∀(ty:String),(ty="str_ascii_iterator"\/ty="str_iterator")->PIE X aa U tg R (.ref s1.heap.objs.size) {s1 with heap:=s1.heap.push {cls:=.type ty,data:=.fields #[.str z t,.int 0 0]} }:=λty gG=>by
    refine⟨s1.heap.objs.size,[s1.heap.objs.size],_,_,H1,rfl,I1.kept λb o e=>tN _ e,OI _ ty z t gG,⟨_,tY _ rfl,rfl,rfl⟩,λb hb=>?_,q⟩;have e:=by simpa using hb
    subst e;exact I1.Qd (uh _) (I1.z9.fresh (uh _))
   cases ha:z.cps.all (·<128)
   .exact wpAny_pyIter_wide ha (go _ (.inr rfl))
   .exact wpAny_pyIter_ascii ha (go _ (.inl rfl))
 refine thn (hl aa s U H _ I h) λv s1 ao => ?_
 obtain⟨x,H1,I1,r1,q1⟩:= ao;exact key x H1 v s1 I1 r1 q1
end
end L2
namespace PySem
namespace Zp
section
variable{prog:Program}{w:World}{A:Around}{E:Value->Shared->Prop}{s:Shared}
theorem OK(hit:s.heap.IsTupleIter it t i)(ht:s.heap.IsTuple t items)(hx:items[i]?=some x)
  (hQ:∀h',h'.IsTupleIter it t (i+1)->Heap.SameBut it s.heap h'->Q x {s with heap:=h' }):wpAny (model prog w) A (Builtin.SmallTypes.nextOf (.ref it)) Q E s:=by
 obtain⟨o,ho,hc,hd⟩:=id hit;obtain⟨ol,lg,_,nl,kP⟩:=ht;unfold Builtin.SmallTypes.nextOf;refine tM (wpAny_callSpecial?_slot hit.typeIs F.slot_tuple_iterator_next (wpAny_call_entry F.slot_tuple_iterator_next hit.typeIs F.entry_tuple_iterator_next ?_ (F.args_tuple_iterator_next_1 _)));show wpAny _ _ (field (.ref it) 0 >>= _) _ _ s;refine tM (uw ho hd rfl ?_);show wpAny _ _ (field (.ref it) 1 >>= _) _ _ s;refine tM (uw ho hd rfl ?_);show wpAny _ _ (seqItems? (.ref t) >>= _) _ _ s;refine tM (wpAny_seqItems lg kP ?_);simp only[uO,hx];refine tM (wpAny_setField ho hd (by simp) (tS ⟨x,rfl,tS (hQ _ ?_ (Heap.SameBut.update ..))⟩));exact⟨_,uX _ ho (Obj.isFreed_of_fields (Obj.data_mapFields hd _)),(Obj.cls_mapFields ..).trans hc,by rw[Obj.data_mapFields hd];simp[rawInt]⟩
theorem R5(hh:A.handled=none)(hit:s.heap.IsTupleIter it t i)(ht:s.heap.IsTuple t items)(hx:items[i]?=none)
  (hE:∀h' e,Heap.ExtBut it s.heap h'->(∃o,h'.get? e=some o/\o.cls=.type "StopIteration")->E (.ref e) {s with heap:=h' }):wpAny (model prog w) A (Builtin.SmallTypes.nextOf (.ref it)) Q E s:=by
 obtain⟨o,ho,hc,hd⟩:=id hit;obtain⟨ol,lg,_,nl,kP⟩:=ht;unfold Builtin.SmallTypes.nextOf;refine tM (wpAny_callSpecial?_slot hit.typeIs F.slot_tuple_iterator_next (wpAny_call_entry F.slot_tuple_iterator_next hit.typeIs F.entry_tuple_iterator_next ?_ (F.args_tuple_iterator_next_1 _)));show wpAny _ _ (field (.ref it) 0 >>= _) _ _ s;refine tM (uw ho hd rfl ?_);show wpAny _ _ (field (.ref it) 1 >>= _) _ _ s;refine tM (uw ho hd rfl ?_);show wpAny _ _ (seqItems? (.ref t) >>= _) _ _ s;refine tM (wpAny_seqItems lg kP ?_);simp only[uO,hx];refine tM (wpAny_rule (tM (wpAny_setField ho hd (by simp) ?_)));show wpAny _ _ (newExc (.type "StopIteration") [] >>= _) _ _ _;refine tM ?_;simp only[newExc,newTuple];refine tM (wpAny_newObj_type ?_ (by size_fits));refine tM (wpAny_of_eq (by first|rfl|(simp only[firstArgMember];rfl)) ?_);refine wpAny_newObj_type ?_ (by size_fits);simp only[raiseNew];refine tM (wpAny_handled ?_);first|rw[show A.in1.handled=none from hh]|rw[hh]
 refine tM (tS (wpAny_throw ?_));exact hE _ _ (((Heap.SameBut.update ..).extBut.push _).push _) ⟨_,tY _ rfl,rfl⟩
end
structure Draws(prog:Program)(w:World)(it src:Addr)(xs:Array Value)(S:Nat->Heap->Prop):Prop where
 ne:src≠it
 obj:∀k h,S k h->∃o,h.get? it=some o/\∀v,o.data≠.cell v
 yK:∀k h,S k h->∃o,h.get? src=some o/\(o.cls=.type "list"\/o.cls=.type "tuple")
 keep:∀k (h h':Heap),S k h->(∀o,h.get? it=some o->h'.get? it=some o)->(∀o,h.get? src=some o->h'.get? src=some o)->S k h'
 item:∀(A:Around)(s:Shared)(k:Nat)(x:Value)(Q:Value->Shared->Prop)(E:Value->Shared->Prop),S k s.heap->xs[k]?=some x->(∀h',S (k+1) h'->Heap.SameBut it s.heap h'->Q x {s with heap:=h' }) ->
  wpAny (model prog w) A (Builtin.SmallTypes.nextOf (.ref it)) Q E s
 stop:∀(A:Around)(s:Shared)(k:Nat)(Q:Value->Shared->Prop)(E:Value->Shared->Prop),A.handled=none->S k s.heap->xs[k]?=none ->
  (∀h' e,Heap.ExtBut it s.heap h'->(∃o,h'.get? e=some o/\o.cls=.type "StopIteration")->E (.ref e) {s with heap:=h' })->wpAny (model prog w) A (Builtin.SmallTypes.nextOf (.ref it)) Q E s
theorem Draws.tup(aP:t≠it):Draws prog w it t xs (λk h=>h.IsTupleIter it t k/\h.IsTuple t xs) where
 ne:=aP
 obj:=λk h st=>by obtain⟨⟨o,e,c,d⟩,_⟩:=st;exact⟨o,e,λv z=>by rw[d]at z;cases z⟩
 yK:=λk h st=>by obtain⟨_,o,e,c,_⟩:=st;exact⟨o,e,.inr c⟩
 keep:=λk h h' st k1 k2=>⟨st.1.at k1,st.2.at k2⟩
 item:=λA s k x Q E st hx hQ=>OK st.1 st.2 hx λh' a b=>hQ h' ⟨a,st.2.at λo e=>(b.2 t aP).trans e⟩ b
 stop:=λA s k Q E hh st hx hE=>R5 hh st.1 st.2 hx hE
theorem Draws.lst(aP:t≠it):Draws prog w it t xs (λk h=>h.IsListIter it t k/\h.IsList t xs) where
 ne:=aP
 obj:=λk h st=>by obtain⟨⟨o,e,c,d⟩,_⟩:=st;exact⟨o,e,λv z=>by rw[d]at z;cases z⟩
 yK:=λk h st=>by obtain⟨_,o,e,c,_⟩:=st;exact⟨o,e,.inl c⟩
 keep:=λk h h' st k1 k2=>⟨st.1.at k1,st.2.at k2⟩
 item:=λA s k x Q E st hx hQ=>wpAny_nextOf_list_item st.1 st.2 hx λh' a b=>hQ h' ⟨a,st.2.at λo e=>(b.2 t aP).trans e⟩ b
 stop:=λA s k Q E hh st hx hE=>wpAny_nextOf_list_end hh st.1 st.2 hx hE
structure Apart(z TI TO i1 i2 l1 l2:Addr):Prop where
 zs:TI≠z/\TO≠z/\i1≠z/\i2≠z/\l1≠z/\l2≠z
 ts:TI≠TO/\TI≠i1/\TI≠i2/\TO≠i1/\TO≠i2/\i1≠i2
 ls:l1≠TO/\l1≠i1/\l1≠i2/\l2≠TO/\l2≠i1/\l2≠i2
section
variable{prog:Program}{w:World}{A:Around}{E:Value->Shared->Prop}{s:Shared}{z TI TO i1 i2 l1 l2:Addr}{xs ys:Array Value}{S1 S2:Nat->Heap->Prop}
theorem Pl(D:Apart z TI TO i1 i2 l1 l2)(W1:Draws prog w i1 l1 xs S1)(W2:Draws prog w i2 l2 ys S2){Q:Value->Shared->Prop}
  (hz:IsZip s.heap z TI TO .none) (bj:IsPair s.heap TI (.ref i1) (.ref i2)) (bL:IsPair s.heap TO a b) (h1:S1 k s.heap) (h2:S2 k s.heap) (hx:xs[k]?=some x) (hy:ys[k]?=some y)
  (hQ:∀h',IsZip h' z TI TO (rawInt s.heap.objs.size)->IsPair h' TO x y->S1 (k+1) h'->S2 (k+1) h'->IsPair h' s.heap.objs.size x y->h'.objs.size=s.heap.objs.size+1 ->
   (∀c o,c≠z->c≠TO->c≠i1->c≠i2->s.heap.get? c=some o->h'.get? c=some o)->Q (.ref s.heap.objs.size) {s with heap:=h' }) :
  wpAny (model prog w) A (Builtin.«zip.__next__» ⟨[.ref z],[]⟩) (λaT s'=>∃v,aT=.done (.ret v)/\Q v s') E s:=by
 obtain⟨⟨fX,eE,dm,dI,fO,fP⟩,⟨c5,cH,cI,b9,cb,eU⟩,⟨cO,bH,cQ,cn,bY,bI⟩⟩:=D;show wpAny _ _ (field (.ref z) 2 >>= _) _ _ _;refine tM (uw hz rfl rfl ?_);show wpAny _ _ (field (.ref z) 3 >>= _) _ _ _;refine tM (uw hz rfl rfl ?_);refine tM (wpAny_seqItems bj rfl ?_);show wpAny _ _ (Builtin.SmallTypes.ownedTupleIsFree (.ref z) >>= _) _ _ _;refine tM ?_;unfold Builtin.SmallTypes.ownedTupleIsFree;refine tM (uw hz rfl rfl (tS ?_));simp only[if_true];refine tM (wpAny_rule ?_);refine tM (uw hz rfl rfl ?_);refine tM (wpAny_setField_rec hz (by simp) λha g9 dE=>?_);replace g9:IsZip ha z TI TO .ellipsis:=g9;refine tM ?_;simp only[List.zipIdx_cons,List.zipIdx_nil,vp,List.forIn_nil];refine tM (tM (wpAny_onRaise ?_));show wpAny _ _ (Builtin.SmallTypes.nextOf (.ref i1) >>= _) _ _ _;have gp:=W1.keep _ _ _ h1 (λo e=>dE.extBut _ _ dm e) λo e=>dE.extBut _ _ fO e
 refine tM (W1.item _ _ k x _ _ gp hx λhb iS bC=>tS ?_);have fu:=bC.extBut _ _ b9 (dE.extBut _ _ eE bL);refine tM (wpAny_seqItems fu rfl ?_);refine tM (wpAny_updateSeq_pair fu λhc gu dG=>?_);replace gu:IsPair hc TO x b:=gu;refine tM (wpAny_letGo (tS ?_));refine tM (tM (wpAny_onRaise ?_));show wpAny _ _ (Builtin.SmallTypes.nextOf (.ref i2) >>= _) _ _ _;have kG:=W2.keep _ _ _ h2 (λo e=>dG.extBut _ _ (Ne.symm cb) (bC.extBut _ _ (Ne.symm eU) (dE.extBut _ _ dI e))) λo e=>dG.extBut _ _ cn (bC.extBut _ _ bY (dE.extBut _ _ fP e))
 refine tM (W2.item _ _ k y _ _ kG hy λhd kH df=>tS ?_);have iV:=df.extBut _ _ cb gu;refine tM (wpAny_seqItems iV rfl ?_);refine tM (wpAny_updateSeq_pair iV λhe gv iA=>?_);replace gv:IsPair he TO x y:=gv;refine tM (wpAny_letGo (tS (tS ?_)));refine tM (wpAny_seqItems gv rfl ?_);refine tM (wpAny_newTuple ?_);have hsz:he.objs.size=s.heap.objs.size:=by rw[iA.1,df.1,dG.1,bC.1,dE.1]
 have nA:=iA.extBut _ _ (Ne.symm eE) (df.extBut _ _ (Ne.symm dI) (dG.extBut _ _ (Ne.symm eE) (bC.extBut _ _ (Ne.symm dm) g9)));have qG:∀c o,c≠z->c≠TO->c≠i1->c≠i2->s.heap.get? c=some o->he.get? c=some o:=λc o c1 c2 c3 c4 e=>iA.extBut _ _ c2 (df.extBut _ _ c4 (dG.extBut _ _ c2 (bC.extBut _ _ c3 (dE.extBut _ _ c1 e))))
 have qg:=W1.keep _ _ _ iS (λo e=>iA.extBut _ _ (Ne.symm b9) (df.extBut _ _ eU (dG.extBut _ _ (Ne.symm b9) e))) λo e=>iA.extBut _ _ cO (df.extBut _ _ cQ (dG.extBut _ _ cO e))
 have qh:=W2.keep _ _ _ kH (λo e=>iA.extBut _ _ (Ne.symm cb) e) λo e=>iA.extBut _ _ cn e
 have nI:=t9 nA;show wpAny _ _ (Builtin.SmallTypes.ownedTupleHandOut (.ref z) (.ref he.objs.size) >>= _) _ _ _;refine tM ?_;unfold Builtin.SmallTypes.ownedTupleHandOut;have rj:IsZip (he.push {cls:=.type "tuple",data:=.seq #[x,y]}) z TI TO .ellipsis:=tN _ nA;refine tM (wpAny_setField_rec rj (by simp) λhg lB lh=>?_);replace lB:IsZip hg z TI TO (rawInt he.objs.size):=lB;refine wpAny_setField_rec lB (by simp) λhi j3 lj=>?_;replace j3:IsZip hi z TI TO (rawInt he.objs.size):=j3
 have up:∀c o,c≠z->he.get? c=some o->hi.get? c=some o:=λc o c1 e=>lj.extBut _ _ c1 (lh.extBut _ _ c1 (tN _ e))
 have mS:IsPair hi he.objs.size x y:=lj.extBut _ _ (vS nI) (lh.extBut _ _ (vS nI) (tY _ rfl));have n6:hi.objs.size=he.objs.size+1:=by rw[lj.1,lh.1,u4]
 rw[hsz]at j3 mS n6;refine tS ⟨_,rfl,?_⟩;show Q (.ref he.objs.size) _;rw[hsz];exact hQ hi j3 (up _ _ eE gv) (W1.keep _ _ _ qg (λo e=>up _ o dm e) λo e=>up _ o fO e) (W2.keep _ _ _ qh (λo e=>up _ o dI e) λo e=>up _ o fP e) mS n6 λc o c1 c2 c3 c4 e=>up c o c1 (qG c o c1 c2 c3 c4 e)
theorem next_end(hh:A.handled=none)(D:Apart z TI TO i1 i2 l1 l2)(W1:Draws prog w i1 l1 xs S1)(W2:Draws prog w i2 l2 ys S2)
  (hz:IsZip s.heap z TI TO .none) (bj:IsPair s.heap TI (.ref i1) (.ref i2)) (bL:IsPair s.heap TO a b) (h1:S1 k s.heap) (h2:S2 k s.heap) (bt:xs[k]?=none\/ys[k]?=none)
  (hE:∀h' e,(∀c o,c≠z->c≠TO->c≠i1->c≠i2->s.heap.get? c=some o->h'.get? c=some o)->(∃o,h'.get? e=some o/\o.cls=.type "StopIteration")->E (.ref e) {s with heap:=h' }) :
  wpAny (model prog w) A (Builtin.«zip.__next__» ⟨[.ref z],[]⟩) Q E s:=by
 obtain⟨⟨fX,eE,dm,dI,fO,fP⟩,⟨c5,cH,cI,b9,cb,eU⟩,⟨cO,bH,cQ,cn,bY,bI⟩⟩:=D;show wpAny _ _ (field (.ref z) 2 >>= _) _ _ _;refine tM (uw hz rfl rfl ?_);show wpAny _ _ (field (.ref z) 3 >>= _) _ _ _;refine tM (uw hz rfl rfl ?_);refine tM (wpAny_seqItems bj rfl ?_);show wpAny _ _ (Builtin.SmallTypes.ownedTupleIsFree (.ref z) >>= _) _ _ _;refine tM ?_;unfold Builtin.SmallTypes.ownedTupleIsFree;refine tM (uw hz rfl rfl (tS ?_));simp only[if_true];refine tM (wpAny_rule ?_);refine tM (uw hz rfl rfl ?_);refine tM (wpAny_setField_rec hz (by simp) λha g9 dE=>?_);replace g9:IsZip ha z TI TO .ellipsis:=g9;refine tM ?_;simp only[List.zipIdx_cons,List.zipIdx_nil,vp,List.forIn_nil];refine tM (tM (wpAny_onRaise ?_));show wpAny _ _ (Builtin.SmallTypes.nextOf (.ref i1) >>= _) _ _ _;have gp:=W1.keep _ _ _ h1 (λo e=>dE.extBut _ _ dm e) λo e=>dE.extBut _ _ fO e
 cases hx:xs[k]? with
 |none =>
  refine tM (W1.stop _ _ k _ _ hh gp hx λhb e bC he=>?_);obtain⟨oe,iy,iY⟩:=he;have nt:=bC _ _ (Ne.symm dm) g9;have kR:e≠z:=λq=>by subst q;rw[nt]at iy;cases iy;simp at iY
  refine wpAny_setField_rec nt (by simp) λhc _ dG=>hE hc e (λc o c1 _ c3 _ q=>dG.extBut _ _ c1 (bC _ _ c3 (dE.extBut _ _ c1 q))) ⟨oe,dG.extBut _ _ kR iy,iY⟩
 |some x =>
  have hy:ys[k]?=none:=by rcases bt with h|h;rw[hx]at h;cases h;exact h
  refine tM (W1.item _ _ k x _ _ gp hx λhb iS bC=>tS ?_);have fu:=bC.extBut _ _ b9 (dE.extBut _ _ eE bL);refine tM (wpAny_seqItems fu rfl ?_);refine tM (wpAny_updateSeq_pair fu λhc gu dG=>?_);refine tM (wpAny_letGo (tS ?_));refine tM (tM (wpAny_onRaise ?_));show wpAny _ _ (Builtin.SmallTypes.nextOf (.ref i2) >>= _) _ _ _;have kG:=W2.keep _ _ _ h2 (λo e=>dG.extBut _ _ (Ne.symm cb) (bC.extBut _ _ (Ne.symm eU) (dE.extBut _ _ dI e))) λo e=>dG.extBut _ _ cn (bC.extBut _ _ bY (dE.extBut _ _ fP e))
  refine tM (W2.stop _ _ k _ _ hh kG hy λhd e df he=>?_);obtain⟨oe,iy,iY⟩:=he;have ny:=df _ _ (Ne.symm dI) (dG.extBut _ _ (Ne.symm eE) (bC.extBut _ _ (Ne.symm dm) g9));have kR:e≠z:=λq=>by subst q;rw[ny]at iy;cases iy;simp at iY
  refine wpAny_setField_rec ny (by simp) λhf _ nh=>hE hf e (λc o c1 c2 c3 c4 q=>nh.extBut _ _ c1 (df _ _ c4 (dG.extBut _ _ c2 (bC.extBut _ _ c3 (dE.extBut _ _ c1 q))))) ⟨oe,nh.extBut _ _ kR iy,iY⟩
end
end Zp
end PySem
namespace PySem
namespace Zp
noncomputable def Gk(T:String)(l:Addr):Obj:={cls:=.type T,data:=.fields #[.ref l,.int 0 0]}
noncomputable def z1(h:Heap)(T1:String)(l1:Addr):Heap:=h.push (Gk T1 l1)
noncomputable def z2(h:Heap)(T1 T2:String)(l1 l2:Addr):Heap:=(z1 h T1 l1).push (Gk T2 l2)
noncomputable def z3(h:Heap)(T1 T2:String)(l1 l2:Addr):Heap:=(z2 h T1 T2 l1 l2).push {cls:=.type "tuple",data:=.seq #[.ref h.objs.size,.ref (z1 h T1 l1).objs.size]}
noncomputable def z4(h:Heap)(T1 T2:String)(l1 l2:Addr):Heap:=(z3 h T1 T2 l1 l2).push {cls:=.type "tuple",data:=.seq #[.none,.none]}
noncomputable def z5(h:Heap)(T1 T2:String)(l1 l2:Addr):Heap:=(z4 h T1 T2 l1 l2).push {cls:=.type "zip",data:=.fields #[.none,.bool false,.bool false,.ref (z2 h T1 T2 l1 l2).objs.size,.ref (z3 h T1 T2 l1 l2).objs.size]}
abbrev Its(T:String)(l:Addr)(C:Heap->Prop):Prop:=∀{prog:Program}{w:World}{A:Around}{E:Value->Shared->Prop}{s:Shared}{Q:Value->Shared->Prop},C s.heap->Q (.ref s.heap.objs.size) {s with heap:=s.heap.push (Gk T l)}->wpAny (model prog w) A (pyIter (.ref l)) Q E s
theorem Fp(T1 T2:String)(l1 l2:Addr)(C1 C2:Heap->Prop)(p1:Its T1 l1 C1)(p2:Its T2 l2 C2)(k2:∀h o,C2 h->C2 (Heap.push h o)) :
  Meets (Builtin.«zip.__new__» ⟨[.type "zip",.ref l1,.ref l2],[]⟩) (λ_ R s=>C1 s.heap/\C2 s.heap/\R (.ok (.ret (.ref (z4 s.heap T1 T2 l1 l2).objs.size))) {s with heap:=z5 s.heap T1 T2 l1 l2}) :=
 .of_wp λprog w A R s h=>by
  obtain⟨hp,g,d,tk,os⟩:=s;obtain⟨c1,c2,h⟩:=h;have fM:=sub_zip;have a1:=c1;have a2:C2 (Shared.heap ⟨hp.push (Gk T1 l1),g,d,tk,os⟩):=k2 _ _ c2
  wp_walk using p1 a1,p2 a2
  exact⟨_,rfl,h⟩
section
variable{prog:Program}{w:World}{A:Around}{E:Value->Shared->Prop}{s:Shared}{z TI TO i1 i2 l1 l2:Addr}{xs ys:Array Value}{S1 S2:Nat->Heap->Prop}
theorem Lb(p1:Its T1 l1 C1)(p2:Its T2 l2 C2)(k2:∀h o,C2 h->C2 (Heap.push h o))(c1:C1 s.heap)(c2:C2 s.heap)
  (h:Q (.ref (z4 s.heap T1 T2 l1 l2).objs.size) {s with heap:=z5 s.heap T1 T2 l1 l2}):wpAny (model prog w) A (call (.type "zip") [.ref l1,.ref l2]) Q E s :=
 callType_new F.called_zip (by decide) (F.typeCall_zip_2 _ _) (F.newCall_zip_2 _ _) (λobj=>F.args_object_init_3 obj _ _) F.entry_zip_new (Fp T1 T2 l1 l2 C1 C2 p1 p2 k2)
  ⟨c1,c2,⟨_,tY _ rfl,rfl⟩,h⟩
theorem Gz(D:Apart z TI TO i1 i2 l1 l2)(W1:Draws prog w i1 l1 xs S1)(W2:Draws prog w i2 l2 ys S2)
  (hz:IsZip s.heap z TI TO .none) (bj:IsPair s.heap TI (.ref i1) (.ref i2)) (bL:IsPair s.heap TO a b) (h1:S1 k s.heap) (h2:S2 k s.heap) (hx:xs[k]?=some x) (hy:ys[k]?=some y)
  (hQ:∀h',IsZip h' z TI TO (rawInt s.heap.objs.size)->IsPair h' TO x y->S1 (k+1) h'->S2 (k+1) h'->IsPair h' s.heap.objs.size x y->h'.objs.size=s.heap.objs.size+1 ->
   (∀c o,c≠z->c≠TO->c≠i1->c≠i2->s.heap.get? c=some o->h'.get? c=some o)->Q (some (.ref s.heap.objs.size)) {s with heap:=h' }) :
  wpAny (model prog w) A (pyNext (.ref z)) Q E s:=by
 have hT:s.TypeIs (.ref z) "zip":=⟨_,hz,rfl⟩
 unfold pyNext;exact tM (wpAny_attempt (wpAny_callSpecial?_slot hT F.slot_zip_next (wpAny_call_entry F.slot_zip_next hT F.entry_zip_next
  (Pl D W1 W2 hz bj bL h1 h2 hx hy λh' a1 a2 a3 a4 a5 a6 a7=>tS (hQ h' a1 a2 a3 a4 a5 a6 a7)) (F.args_zip_next_1 _))))
theorem GA(hh:A.handled=none)(D:Apart z TI TO i1 i2 l1 l2)(W1:Draws prog w i1 l1 xs S1)(W2:Draws prog w i2 l2 ys S2)
  (hz:IsZip s.heap z TI TO .none) (bj:IsPair s.heap TI (.ref i1) (.ref i2)) (bL:IsPair s.heap TO a b) (h1:S1 k s.heap) (h2:S2 k s.heap) (bt:xs[k]?=none\/ys[k]?=none)
  (hQ:∀h',(∀c o,c≠z->c≠TO->c≠i1->c≠i2->s.heap.get? c=some o->h'.get? c=some o)->Q none {s with heap:=h' }):wpAny (model prog w) A (pyNext (.ref z)) Q E s:=by
 have hT:s.TypeIs (.ref z) "zip":=⟨_,hz,rfl⟩
 unfold pyNext;refine tM (wpAny_attempt (wpAny_callSpecial?_slot hT F.slot_zip_next (wpAny_call_entry F.slot_zip_next hT F.entry_zip_next
  (next_end (show A.in1.handled=none from hh) D W1 W2 hz bj bL h1 h2 bt λh' e hk he=>?_) (F.args_zip_next_1 _))))
 obtain⟨o,ho,hc⟩:=he;refine tM (wpAny_isInstance ⟨o,ho,hc⟩ isSubtype_stop ?_);exact tS (hQ _ hk)
end
def Gq:Bool->Heap->Addr->Addr->Nat->Prop
 |true,h,it,l,k=>h.IsTupleIter it l k
 |false,h,it,l,k=>h.IsListIter it l k
def DB:Bool->Heap->Addr->Array Value->Prop
 |true,h,l,xs=>h.IsTuple l xs
 |false,h,l,xs=>h.IsList l xs
noncomputable def BQ:Bool->String
 |true=>"tuple_iterator"
 |false=>"list_iterator"
theorem A6(b:Bool)(aP:t≠it):Draws prog w it t xs (λk h=>Gq b h it t k/\DB b h t xs):=by
 cases b
 .exact Draws.lst aP
 .exact Draws.tup aP
theorem KO(b:Bool)(l:Addr)(xs:Array Value):Its (BQ b) l (λh=>DB b h l xs):=by
 intro prog w A E s Q c q;cases b
 .exact wpAny_pyIter_list c q
 .exact wpAny_pyIter_tuple c q
theorem DB.at(c:DB b h l xs)(e:∀o,h.get? l=some o->h'.get? l=some o):DB b h' l xs:=by
 cases b
 .exact Heap.IsList.at c e
 .exact Heap.IsTuple.at c e
theorem Gq.at(c:Gq b h it l k)(e:∀o,h.get? it=some o->h'.get? it=some o):Gq b h' it l k:=by
 cases b
 .exact Heap.IsListIter.at c e
 .exact Heap.IsTupleIter.at c e
theorem Gq.obj(c:Gq b h it l k):∃o,h.get? it=some o/\∀v,o.data≠.cell v:=by
 cases b
 .obtain⟨o,e,_,d⟩:=c;exact⟨o,e,λv z=>by rw[d]at z;cases z⟩
 .obtain⟨o,e,_,d⟩:=c;exact⟨o,e,λv z=>by rw[d]at z;cases z⟩
theorem Gq.new(e:h.get? it=some (Gk (BQ b) l)):Gq b h it l 0:=by
 cases b
 .exact⟨_,e,rfl,rfl⟩
 .exact⟨_,e,rfl,rfl⟩
end Zp
end PySem
namespace L2
open PySem PySem.Spec PyProof.Rows
def SqB(b:Bool)(K:Fg)(H:Hp)(a:Addr)(xs:List V):Prop:=match b with|true=>SqT K H a xs|false=>SqL K H a xs
section
variable{X:Cx}{aa:List (Addr×Obj)}{U:St}{H:Hp}{s:Shared}{a:Addr}{xs ys:List V}{b:Bool}
theorem Inv.sqb(I:Inv X aa U H s)(h:SqB b X.K H a xs):∃aq:List Value,Vals xs aq/\Zp.DB b s.heap a aq.toArray/\xs.length<=sizeLine:=by
 cases b
 .obtain⟨aq,r,p,z⟩:=I.list h;exact⟨aq,r,p.isList,z⟩
 .obtain⟨aq,r,p,z⟩:=I.tuple h;exact⟨aq,r,p,z⟩
theorem Inv.Jv(I:Inv X aa U H s)(h:SqB b X.K H a xs)(h':SqB b X.K H a ys):xs=ys:=by
 cases b
 .exact I.KG h h'
 .exact I.HR h h'
theorem Inv.E4{fp:List Addr}(I:Inv X aa U H s)(k:∀b o,b∉fp->s.heap.get? b=some o->h'.get? b=some o)(hf:∀b∈fp,Jj X aa H b):Inv X aa U H {s with heap:=h',toks:=t' }:=by
 have hU:∀b u,H b=some u->b∉fp:=λb u e z=>by rw[(hf b z).1]at e;cases e
 refine I.step (λb hb=>?_) (λb o _ _ hc e _=>k b o hc e) (λb o _ _ hc e _=>⟨o.slots,k b o hc e⟩) (λ_ _ _ _ n=>n)
  (λb o hc e=>⟨o,k b o hc e⟩) (λ_ _ e=>e) (λ_ _ _ e=>e) (λb ps e=>⟨#[],by rw[e];simp⟩) (λm hm=>?_) (λb u e=>?_) I.bare
 .obtain⟨f0,f1,f2,f3,f4,f5⟩:=hf b hb;exact⟨f3,f1,f4,f5⟩
 .obtain⟨o,es,ep,ho,r⟩:=hm;exact⟨o,es,ep,k _ o (λz=>(hf _ z).2.1 rfl) ho,r⟩
 .refine(I.z9 b u e).MB (λc v hc q=>k c v ?_ q) (λ_ q=>q) λ_ _ q=>q
  rcases hc with z|z
  .rw[z];exact hU b u e
  .exact hU c _ z
end
def Itz(K:Fg)(b1:Bool)(a1:Addr)(b2:Bool)(a2:Addr):It :=
  ⟨λi H=>∃xs ys x y,SqB b1 K H a1 xs/\SqB b2 K H a2 ys/\xs[i]?=some x/\ys[i]?=some y,
   λi H x H'=>∃T vx vy,H T=none/\x=.ref T/\H'=upd H T (.tup [vx,vy])/\(∀xs,SqB b1 K H a1 xs->xs[i]?=some vx)/\∀ys,SqB b2 K H a2 ys->ys[i]?=some vy,
   λi H=>∃xs ys,SqB b1 K H a1 xs/\SqB b2 K H a2 ys/\(xs.length<=i\/ys.length<=i)⟩
theorem OH{K:Fg}{a1 a2 z TI TO i1 i2:Addr}(D:Zp.Apart z TI TO i1 i2 a1 a2) :
  Turn P w K (.Tuple bz k0 bJ) (Itz K b1 a1 b2 a2) [z,TI,TO,i1,i2] z (λi h=>IsZip h z TI TO .none/\IsPair h TI (.ref i1) (.ref i2)/\(∃a b,IsPair h TO a b)/\Zp.Gq b1 h i1 a1 i/\Zp.Gq b2 h i2 a2 i) where
 mem:=by simp
 obj:=λi h st b hb=>by
  obtain⟨hz,bj,⟨ta,tb,bL⟩,h1,h2⟩:=st;simp only[uk,uI,or_false]at hb;rcases hb with rfl|rfl|rfl|rfl|rfl
  .exact⟨_,hz,λv z=>nomatch z⟩
  .exact⟨_,bj,λv z=>nomatch z⟩
  .exact⟨_,bL,λv z=>nomatch z⟩
  .exact h1.obj
  .exact h2.obj
 keep:=λi h h' st k=>by obtain⟨hz,bj,⟨ta,tb,bL⟩,h1,h2⟩:=st;exact⟨k z (by simp) _ hz,k TI (by simp) _ bj,⟨ta,tb,k TO (by simp) _ bL⟩,h1.at λo e=>k i1 (by simp) o e,h2.at λo e=>k i2 (by simp) o e⟩
 item:=by
  intro X hP hw hK hc i aa s U H E I hf st hg;subst hP hw hK;obtain⟨hz,bj,⟨ta,tb,bL⟩,h1,h2⟩:=st;obtain⟨xs,ys,x,y,q1,q2,ex,ey⟩:=hg;obtain⟨cm,r1,c1,z1⟩:=I.sqb q1;obtain⟨aZ,r2,c2,z2⟩:=I.sqb q2;obtain⟨u1,ly,lQ⟩:=r1.get ex;obtain⟨u2,qY,se⟩:=r2.get ey;obtain⟨⟨fX,eE,dm,dI,fO,fP⟩,⟨c5,cH,cI,b9,cb,eU⟩,⟨cO,bH,cQ,cn,bY,bI⟩⟩:=id D;refine Zp.Gz D (Zp.A6 b1 bH) (Zp.A6 b2 bI) hz bj bL ⟨h1,c1⟩ ⟨h2,c2⟩ (by simpa using ly) (by simpa using qY) λh' gH kI sf sg qo jj mZ=>⟨_,rfl,?_⟩
  refine wpAny_letOwnedTupleGo_zip gH λkE g8 sb=>?_
  have fw:∀{c o},s.heap.get? c=some o->c≠s.heap.objs.size:=λe=>ur (t9 e)
  have Il:Inv X aa U (upd H s.heap.objs.size (.tup [x,y])) {s with heap:=s.heap.push {cls:=.type "tuple",data:=.seq #[u1,u2]},toks:=s.toks} :=
   I.laid (λb o e=>tN _ e) (uh _) ⟨by show 2<=sizeLine;rw[sizeLine_eq];decide,[u1,u2],.cons lQ (.cons se .nil),⟨_,tY _ rfl,rfl,_,rfl,rfl⟩⟩
  have cV:∀b∈[z,TI,TO,i1,i2],b≠s.heap.objs.size:=λb hb=>by
   simp only[uk,uI,or_false]at hb;rcases hb with rfl|rfl|rfl|rfl|rfl
   .exact fw hz
   .exact fw bj
   .exact fw bL
   .obtain⟨o,e,_⟩:=h1.obj;exact fw e
   .obtain⟨o,e,_⟩:=h2.obj;exact fw e
  have il:∀b∈[z,TI,TO,i1,i2],Jj X aa (upd H s.heap.objs.size (.tup [x,y])) b:=λb hb=>by obtain⟨f0,f⟩:=hf b hb;exact⟨by rw[Aj (cV b hb)];exact f0,f⟩
  have I2:Inv X aa U (upd H s.heap.objs.size (.tup [x,y])) {s with heap:=kE,toks:=s.toks}:=Il.E4 (λb o hb e=>by
   have nz:b≠z:=λq=>hb (by simp[q])
   refine sb.extBut _ _ nz ?_;by_cases hbT:b=s.heap.objs.size
   .subst hbT;have e':(s.heap.push {cls:=.type "tuple",data:=.seq #[u1,u2]}).get? s.heap.objs.size=some o:=e;rw[tY _ rfl]at e';cases e';exact qo
   .have e':(s.heap.push {cls:=.type "tuple",data:=.seq #[u1,u2]}).get? b=some o:=e;rw[Heap.get?_push_ne _ _ _ hbT]at e';exact mZ b o nz (λq=>hb (by simp[q])) (λq=>hb (by simp[q])) (λq=>hb (by simp[q])) e') il
  refine⟨.ref s.heap.objs.size,_,I2,rfl,⟨s.heap.objs.size,x,y,I.z9.fresh (uh _),rfl,rfl,λzs hz=>by rw[I.Jv hz q1];exact ex,λzs hz=>by rw[I.Jv hz q2];exact ey⟩,?_,λb hb=>(il b hb).1⟩;exact⟨g8,sb.extBut _ _ fX (mZ _ _ fX c5 cH cI bj),⟨_,_,sb.extBut _ _ eE kI⟩,sf.1.at λo e=>sb.extBut _ _ dm e,sg.1.at λo e=>sb.extBut _ _ dI e⟩
 done:=by
  intro X hP hw hK hc i aa s U H E I hf st hg;subst hP hw hK;obtain⟨hz,bj,⟨ta,tb,bL⟩,h1,h2⟩:=st;obtain⟨xs,ys,q1,q2,bt⟩:=hg;obtain⟨cm,r1,c1,z1⟩:=I.sqb q1;obtain⟨aZ,r2,c2,z2⟩:=I.sqb q2;have e1:=r1.length;have e2:=r2.length;obtain⟨_,_,⟨cO,bH,cQ,cn,bY,bI⟩⟩:=id D;refine Zp.GA (I.ok.hd hc) D (Zp.A6 b1 bH) (Zp.A6 b2 bI) hz bj bL ⟨h1,c1⟩ ⟨h2,c2⟩ ?_ λh' hk=>⟨rfl,I.E4 (λb o hb e=>hk b o (λq=>hb (by simp[q])) (λq=>hb (by simp[q])) (λq=>hb (by simp[q])) (λq=>hb (by simp[q])) e) hf⟩
  rcases bt with z|z
  .exact .inl (by simp;lia)
  .exact .inr (by simp;lia)
 self:=λ_ _ _ _ _ st h=>wpAny_pyIter_zip st.1 h
end L2
namespace PySem
namespace Zp
theorem made(c1:DB b1 h l1 xs)(c2:DB b2 h l2 ys) :
  ∃z TI TO i1 i2,z=(z4 h (BQ b1) (BQ b2) l1 l2).objs.size/\h.objs.size<=z/\h.objs.size<=TI/\h.objs.size<=TO/\h.objs.size<=i1/\h.objs.size<=i2/\Apart z TI TO i1 i2 l1 l2 /\
   IsZip (z5 h (BQ b1) (BQ b2) l1 l2) z TI TO .none/\IsPair (z5 h (BQ b1) (BQ b2) l1 l2) TI (.ref i1) (.ref i2)/\IsPair (z5 h (BQ b1) (BQ b2) l1 l2) TO .none .none /\
   Gq b1 (z5 h (BQ b1) (BQ b2) l1 l2) i1 l1 0/\Gq b2 (z5 h (BQ b1) (BQ b2) l1 l2) i2 l2 0/\∀c o,h.get? c=some o->(z5 h (BQ b1) (BQ b2) l1 l2).get? c=some o:=by
 have s1:(z1 h (BQ b1) l1).objs.size=h.objs.size+1:=u4 ..;have s2:(z2 h (BQ b1) (BQ b2) l1 l2).objs.size=h.objs.size+2:=by unfold z2;rw[u4,s1]
 have s3:(z3 h (BQ b1) (BQ b2) l1 l2).objs.size=h.objs.size+3:=by unfold z3;rw[u4,s2]
 have s4:(z4 h (BQ b1) (BQ b2) l1 l2).objs.size=h.objs.size+4:=by unfold z4;rw[u4,s3]
 have lt:∀{b:Bool}{l:Addr}{xs:Array Value},DB b h l xs->l<h.objs.size:=λ{b l xs} c=>by
  cases b
  .obtain⟨o,e,_⟩:=c;exact t9 e
  .obtain⟨o,e,_⟩:=c;exact t9 e
 have t1:@LT.lt Nat _ l1 h.objs.size:=lt c1;have t2:@LT.lt Nat _ l2 h.objs.size:=lt c2;refine⟨(z4 h (BQ b1) (BQ b2) l1 l2).objs.size,(z2 h (BQ b1) (BQ b2) l1 l2).objs.size,(z3 h (BQ b1) (BQ b2) l1 l2).objs.size,h.objs.size,(z1 h (BQ b1) l1).objs.size,rfl,by lia,by lia,by lia,by lia,by lia,⟨?_,?_,?_⟩,?_,?_,?_,?_,?_,?_⟩
 .rw[s1,s2,s3,s4];refine⟨?_,?_,?_,?_,?_,?_⟩<;>(intro e;have e2:@Eq Nat _ _:=e;lia)
 .rw[s1,s2,s3];refine⟨?_,?_,?_,?_,?_,?_⟩<;>(intro e;have e2:@Eq Nat _ _:=e;lia)
 .rw[s1,s3];refine⟨?_,?_,?_,?_,?_,?_⟩<;>(intro e;have e2:@Eq Nat _ _:=e;lia)
 .exact tY _ rfl
 .exact tN _ (tN _ (tY _ rfl))
 .exact tN _ (tY _ rfl)
 .exact Gq.new (tN _ (tN _ (tN _ (tN _ (tY _ rfl)))))
 .exact Gq.new (tN _ (tN _ (tN _ (tY _ rfl))))
 .exact λc o e=>tN _ (tN _ (tN _ (tN _ (tN _ e))))
end Zp
end PySem
namespace L2
open PySem PySem.Spec PyProof.Rows
def iZip(K:Fg)(ta:TA):TI:=λU H R=>ta U H λvs H1=>∃b1 a1 b2 a2,vs=[.ref a1,.ref a2]/\(∃xs,SqB b1 K H1 a1 xs)/\(∃ys,SqB b2 K H1 a2 ys)/\R (Itz K b1 a1 b2 a2) H1
theorem V6(hg:Gl X "zip")(hm:X.mg "zip"=none)(ha:PA X [a,b] ta)(hs:starEach [a,b] X.env=[(false,eval a X.env),(false,eval b X.env)]:=by rfl)(aY:starEach [b] X.env=[(false,eval b X.env)]:=by rfl) :
  PI X (.Tuple bz k0 bJ) (.Call (.Name "zip" p) [a,b] [] pos) (iZip X.K ta):=by
 intro aa s U H R I h;refine Call_ (Dm I hg hm boot_zip (callWith_type1 (thn (ha pos aa s U H _ I h) λus s1 ao=>?_) (by rw[hs,aY]) (by rw[aY];rfl)));obtain⟨vs,H1,I1,r1,q1⟩:= ao;obtain⟨b1,a1,b2,a2,e,⟨xs,hx⟩,⟨ys,hy⟩,q⟩:=q1;subst e;cases r1 with
 |cons r rr =>
  cases rr with
  |cons r' rr =>
   cases rr;cases r;cases r';obtain⟨cm,lR,c1,_⟩:=I1.sqb hx;obtain⟨aZ,lT,c2,_⟩:=I1.sqb hy;refine Zp.Lb (C1:=λh=>Zp.DB b1 h a1 cm.toArray) (C2:=λh=>Zp.DB b2 h a2 aZ.toArray) (Zp.KO b1 a1 cm.toArray) (Zp.KO b2 a2 aZ.toArray) (λh o c=>Zp.DB.at c λo e=>tN _ e) c1 c2 ?_;obtain⟨z,TI,TO,i1,i2,ez,g0,g1,g2,g3,g4,D,hz,bj,bL,t1,t2,hk⟩:=Zp.made c1 c2;rw[<- ez];refine wpAny_pyIter_zip hz ⟨z,[z,TI,TO,i1,i2],_,Itz X.K b1 a1 b2 a2,H1,rfl,I1.kept hk,OH D,⟨hz,bj,⟨_,_,bL⟩,t1,t2⟩,λb hb=>?_,q⟩;have gz:s1.heap.objs.size<=b:=by simp only[uk,uI,or_false]at hb;rcases hb with rfl|rfl|rfl|rfl|rfl<;>assumption
   exact I1.Qd gz (I1.z9.fresh gz)
end L2
namespace PySem
end PySem
namespace L2
open PySem PySem.Spec PyProof.Rows
section
variable{X:Cx}
def QZ(K:Fg):R2:=λx y H Q=>∃a b ys,x=.ref a/\y=.ref b/\SqT K H a []/\SqT K H b ys/\Q (.ref b) H
theorem Pd:OpR X (binaryOp .Add) (QZ X.K):=by intro aa s U H x y v u Q I rx ry h;obtain⟨a,b,ys,rfl,rfl,ha,hb,q⟩:=h;cases rx;cases ry;obtain⟨aq,r1,⟨⟨cls,dd,data,sl⟩,ho,hc,n,hd⟩,_⟩:=I.tuple ha;obtain⟨aZ,r2,⟨⟨kz,jL,data2,ki⟩,gg,cL,n2,hd2⟩,_⟩:=I.tuple hb;simp only at hc hd cL hd2;subst hc hd cL hd2;cases r1;exact concat_meets ⟨_,ho,rfl⟩ ⟨_,gg,rfl⟩ noFill_tuple_add seq_tuple_add slot_tuple_add entry_tuple_add (args_tuple_add_2 _ _) (tuple_addW0 a b _ _ n n2 dd jL sl ki (by simp)) ⟨ho,gg,⟨.ref b,H,I,rfl,q⟩⟩
theorem Ka(T:String):BZ X (.builtin "isinstance") (λxs H Q=>∃x t b,xs=[x,.ty T]/\Lo X.K H x t/\kitOne X.K t (.type T)=some b/\Q (.v b) H):=by intro aa s U H xs us Q I r h;obtain⟨x,t,b,rfl,ty,e,q⟩:=h;cases r with|cons r1 rr =>cases rr with|cons r2 rr =>cases rr;obtain rfl:_=Value.type T:=r2;exact Ny I r1 ty e λtk=>⟨.v b,H,I.tok tk,rfl,q⟩
end
end L2
namespace PySem
namespace Zp
abbrev HK(h:Heap)(z TI TO a:Addr)(f:Bool):Prop:=h.get? z=some {cls:=.type "zip",data:=.fields #[rawInt a,.bool f,.bool false,.ref TI,.ref TO]}
section
variable{prog:Program}{w:World}{A:Around}{E:Value->Shared->Prop}{s:Shared}{z TI TO i1 i2 l1 l2 ad:Addr}{xs ys:Array Value}{S1 S2:Nat->Heap->Prop}
theorem alive(ho:s.heap.get? a=some o)(h:Q (some o) s):wpAny (model prog w) A (loadIfAlive a) Q E s:=by
 have h':Q (s.heap.get? a) s:=by rw[ho];exact h
 exact λ_ _ _=>h'
theorem Nf(hz:HK s.heap z TI TO ad f)(ha:s.heap.get? ad=some oa)(hQ:∀h',HK h' z TI TO ad true->Heap.SameBut z s.heap h'->Q false {s with heap:=h' }) :
  wpAny (model prog w) A (Builtin.SmallTypes.ownedTupleIsFree (.ref z)) Q E s:=by
 unfold Builtin.SmallTypes.ownedTupleIsFree;refine tM (uw hz rfl rfl ?_);show wpAny _ _ (loadIfAlive ((ad:Int).toNat) >>= _) _ _ _;rw[uO];refine tM (alive ha ?_);simp only[Option.isNone_some,uJ,if_false];refine tM (uw hz rfl (x:=.bool f) rfl ?_);cases f with|true =>rw[if_neg (show ¬((Value.bool true !=Value.bool true)=true)from uu)];exact tS (hQ s.heap hz (Heap.SameBut.refl _ _))|false =>rw[if_pos (show(Value.bool false !=Value.bool true)=true from rfl)];exact tM (wpAny_setField_rec hz (by simp) λh3 he hs=>tS (hQ h3 he hs))
theorem Ng(D:Apart z TI TO i1 i2 l1 l2)(W1:Draws prog w i1 l1 xs S1)(W2:Draws prog w i2 l2 ys S2){Q:Value->Shared->Prop}
  (hz:HK s.heap z TI TO ad f) (ha:s.heap.get? ad=some oa) (bj:IsPair s.heap TI (.ref i1) (.ref i2)) (h1:S1 k s.heap) (h2:S2 k s.heap) (hx:xs[k]?=some x) (hy:ys[k]?=some y)
  (hQ:∀h',HK h' z TI TO ad true->S1 (k+1) h'->S2 (k+1) h'->IsPair h' s.heap.objs.size x y->h'.objs.size=s.heap.objs.size+1 ->
   (∀c o,c≠z->c≠i1->c≠i2->s.heap.get? c=some o->h'.get? c=some o)->Q (.ref s.heap.objs.size) {s with heap:=h' }) :
  wpAny (model prog w) A (Builtin.«zip.__next__» ⟨[.ref z],[]⟩) (λaT s'=>∃v,aT=.done (.ret v)/\Q v s') E s:=by
 obtain⟨⟨fX,eE,dm,dI,fO,fP⟩,⟨c5,cH,cI,b9,cb,eU⟩,⟨cO,bH,cQ,cn,bY,bI⟩⟩:=D;show wpAny _ _ (field (.ref z) 2 >>= _) _ _ _;refine tM (uw hz rfl rfl ?_);show wpAny _ _ (field (.ref z) 3 >>= _) _ _ _;refine tM (uw hz rfl rfl ?_);refine tM (wpAny_seqItems bj rfl ?_);show wpAny _ _ (Builtin.SmallTypes.ownedTupleIsFree (.ref z) >>= _) _ _ _;refine tM (Nf hz ha λhA nq eP=>?_);simp only[uJ,if_false];simp only[<- Array.forIn_toList,vp,List.forIn_nil];refine tM (tM (tM (wpAny_holding ?_)));show wpAny _ _ (Builtin.SmallTypes.nextOf (.ref i1) >>= _) _ _ _;have gp:=W1.keep _ _ _ h1 (λo e=>eP.extBut _ _ dm e) λo e=>eP.extBut _ _ fO e
 refine tM (W1.item _ _ k x _ _ gp hx λhb iS bC=>tS (tS ?_));refine tM (tM (wpAny_holding ?_));show wpAny _ _ (Builtin.SmallTypes.nextOf (.ref i2) >>= _) _ _ _;have kF:=W2.keep _ _ _ h2 (λo e=>bC.extBut _ _ (Ne.symm eU) (eP.extBut _ _ dI e)) λo e=>bC.extBut _ _ bY (eP.extBut _ _ fP e)
 refine tM (W2.item _ _ k y _ _ kF hy λhd kH df=>tS (tS (tS ?_)));refine tM (wpAny_newTuple (hsz:=by show 2<=sizeLine;rw[sizeLine_eq];decide) ?_);have hsz:hd.objs.size=s.heap.objs.size:=by rw[df.1,bC.1,eP.1]
 have kp:∀c o,c≠z->c≠i1->c≠i2->s.heap.get? c=some o->hd.get? c=some o:=λc o c1 c2 c3 e=>df.extBut _ _ c3 (bC.extBut _ _ c2 (eP.extBut _ _ c1 e))
 have qf:S1 (k+1) hd:=W1.keep _ _ _ iS (λo e=>df.extBut _ _ eU e) λo e=>df.extBut _ _ cQ e
 refine tS ⟨_,rfl,?_⟩;show Q (.ref hd.objs.size) _;rw[hsz];refine hQ _ (tN _ (df.extBut _ _ (Ne.symm dI) (bC.extBut _ _ (Ne.symm dm) nq))) (W1.keep _ _ _ qf (λo e=>tN _ e) λo e=>tN _ e) (W2.keep _ _ _ kH (λo e=>tN _ e) λo e=>tN _ e) ?_ (by rw[u4,hsz]) λc o c1 c2 c3 e=>tN _ (kp c o c1 c2 c3 e)
 rw[<- hsz];exact tY _ rfl
theorem Qp(hh:A.handled=none)(D:Apart z TI TO i1 i2 l1 l2)(W1:Draws prog w i1 l1 xs S1)(W2:Draws prog w i2 l2 ys S2)
  (hz:HK s.heap z TI TO ad f) (ha:s.heap.get? ad=some oa) (bj:IsPair s.heap TI (.ref i1) (.ref i2)) (h1:S1 k s.heap) (h2:S2 k s.heap) (bt:xs[k]?=none\/ys[k]?=none)
  (hE:∀h' e,(∀c o,c≠z->c≠i1->c≠i2->s.heap.get? c=some o->h'.get? c=some o)->(∃o,h'.get? e=some o/\o.cls=.type "StopIteration")->E (.ref e) {s with heap:=h' }) :
  wpAny (model prog w) A (Builtin.«zip.__next__» ⟨[.ref z],[]⟩) Q E s:=by
 obtain⟨⟨fX,eE,dm,dI,fO,fP⟩,⟨c5,cH,cI,b9,cb,eU⟩,⟨cO,bH,cQ,cn,bY,bI⟩⟩:=D;show wpAny _ _ (field (.ref z) 2 >>= _) _ _ _;refine tM (uw hz rfl rfl ?_);show wpAny _ _ (field (.ref z) 3 >>= _) _ _ _;refine tM (uw hz rfl rfl ?_);refine tM (wpAny_seqItems bj rfl ?_);show wpAny _ _ (Builtin.SmallTypes.ownedTupleIsFree (.ref z) >>= _) _ _ _;refine tM (Nf hz ha λhA nq eP=>?_);simp only[uJ,if_false];simp only[<- Array.forIn_toList,vp,List.forIn_nil];refine tM (tM (tM (wpAny_holding ?_)));show wpAny _ _ (Builtin.SmallTypes.nextOf (.ref i1) >>= _) _ _ _;have gp:=W1.keep _ _ _ h1 (λo e=>eP.extBut _ _ dm e) λo e=>eP.extBut _ _ fO e
 cases hx:xs[k]? with
 |none=>exact tM (W1.stop _ _ k _ _ hh gp hx λhb e bC he=>hE hb e (λc o c1 c2 c3 q=>bC _ _ c2 (eP.extBut _ _ c1 q)) he)
 |some x =>
  have hy:ys[k]?=none:=by
   rcases bt with h|h
   .rw[hx]at h;cases h
   .exact h
  refine tM (W1.item _ _ k x _ _ gp hx λhb iS bC=>tS (tS ?_));refine tM (tM (wpAny_holding ?_));show wpAny _ _ (Builtin.SmallTypes.nextOf (.ref i2) >>= _) _ _ _;have kF:=W2.keep _ _ _ h2 (λo e=>bC.extBut _ _ (Ne.symm eU) (eP.extBut _ _ dI e)) λo e=>bC.extBut _ _ bY (eP.extBut _ _ fP e)
  exact tM (W2.stop _ _ k _ _ hh kF hy λhd e df he=>hE hd e (λc o c1 c2 c3 q=>df _ _ c3 (bC.extBut _ _ c2 (eP.extBut _ _ c1 q))) he)
theorem Jz(D:Apart z TI TO i1 i2 l1 l2)(W1:Draws prog w i1 l1 xs S1)(W2:Draws prog w i2 l2 ys S2)
  (hz:HK s.heap z TI TO ad f) (ha:s.heap.get? ad=some oa) (bj:IsPair s.heap TI (.ref i1) (.ref i2)) (h1:S1 k s.heap) (h2:S2 k s.heap) (hx:xs[k]?=some x) (hy:ys[k]?=some y)
  (hQ:∀h',HK h' z TI TO ad true->S1 (k+1) h'->S2 (k+1) h'->IsPair h' s.heap.objs.size x y->h'.objs.size=s.heap.objs.size+1 ->
   (∀c o,c≠z->c≠i1->c≠i2->s.heap.get? c=some o->h'.get? c=some o)->Q (some (.ref s.heap.objs.size)) {s with heap:=h' }):wpAny (model prog w) A (pyNext (.ref z)) Q E s:=by
 have hT:s.TypeIs (.ref z) "zip":=⟨_,hz,rfl⟩
 unfold pyNext;exact tM (wpAny_attempt (wpAny_callSpecial?_slot hT F.slot_zip_next (wpAny_call_entry F.slot_zip_next hT F.entry_zip_next
  (Ng D W1 W2 hz ha bj h1 h2 hx hy λh' a1 a3 a4 a5 a6 a7=>tS (hQ h' a1 a3 a4 a5 a6 a7)) (F.args_zip_next_1 _))))
theorem LD(hh:A.handled=none)(D:Apart z TI TO i1 i2 l1 l2)(W1:Draws prog w i1 l1 xs S1)(W2:Draws prog w i2 l2 ys S2)
  (hz:HK s.heap z TI TO ad f) (ha:s.heap.get? ad=some oa) (bj:IsPair s.heap TI (.ref i1) (.ref i2)) (h1:S1 k s.heap) (h2:S2 k s.heap) (bt:xs[k]?=none\/ys[k]?=none)
  (hQ:∀h',(∀c o,c≠z->c≠i1->c≠i2->s.heap.get? c=some o->h'.get? c=some o)->Q none {s with heap:=h' }):wpAny (model prog w) A (pyNext (.ref z)) Q E s:=by
 have hT:s.TypeIs (.ref z) "zip":=⟨_,hz,rfl⟩
 unfold pyNext;refine tM (wpAny_attempt (wpAny_callSpecial?_slot hT F.slot_zip_next (wpAny_call_entry F.slot_zip_next hT F.entry_zip_next
  (Qp (show A.in1.handled=none from hh) D W1 W2 hz ha bj h1 h2 bt λh' e hk he=>?_) (F.args_zip_next_1 _))))
 obtain⟨o,ho,hc⟩:=he;refine tM (wpAny_isInstance ⟨o,ho,hc⟩ isSubtype_stop ?_);exact tS (hQ _ hk)
end
def Frs(b1 b2:Bool)(h:Heap)(z TI TO i1 i2 l1 l2 lo:Addr)(i:Nat):Prop :=
 ((i=0/\IsZip h z TI TO .none/\∃a b,IsPair h TO a b)\/∃ad f oa,HK h z TI TO ad f/\h.get? ad=some oa/\lo<=ad)/\IsPair h TI (.ref i1) (.ref i2)/\Gq b1 h i1 l1 i/\Gq b2 h i2 l2 i
theorem Frs.keep(x:Frs b1 b2 h z TI TO i1 i2 l1 l2 lo i)(hk:∀b o,b≠S->h.get? b=some o->h'.get? b=some o)(hS:∀b∈[z,TI,TO,i1,i2],b≠S)(bZ:S<lo):Frs b1 b2 h' z TI TO i1 i2 l1 l2 lo i:=by
 obtain⟨x,p,t1,t2⟩:=x;refine⟨?_,hk _ _ (hS _ (by simp)) p,t1.at λo e=>hk _ o (hS _ (by simp)) e,t2.at λo e=>hk _ o (hS _ (by simp)) e⟩;rcases x with⟨e,hz,a,b,ht⟩|⟨ad,f,oa,hz,ha,hl⟩
 .exact .inl ⟨e,hk _ _ (hS _ (by simp)) hz,a,b,hk _ _ (hS _ (by simp)) ht⟩
 .exact .inr ⟨ad,f,oa,hk _ _ (hS _ (by simp)) hz,hk _ _ (λq=>absurd (uf bZ hl) (by rw[q];exact uR _)) ha,hl⟩
section
variable{prog:Program}{w:World}{A:Around}{E:Value->Shared->Prop}{s:Shared}{z TI TO i1 i2 l1 l2 ad lo S:Addr}{xs ys:Array Value}{b1 b2:Bool}{R:Result->Shared->Prop}
theorem OJ(D:Apart z TI TO i1 i2 l1 l2)(st:Frs b1 b2 s.heap z TI TO i1 i2 l1 l2 lo k)(c1:DB b1 s.heap l1 xs)(c2:DB b2 s.heap l2 ys)(hx:xs[k]?=some x)(hy:ys[k]?=some y)(hl:lo<=s.heap.objs.size)(bZ:∀b∈[z,TI,TO,i1,i2,l1,l2],b<lo)
  (hQ:∀h',Frs b1 b2 h' z TI TO i1 i2 l1 l2 lo (k+1)->DB b1 h' l1 xs->DB b2 h' l2 ys->IsPair h' s.heap.objs.size x y->h'.objs.size=s.heap.objs.size+1 ->
   (∀c o,c≠z->c≠TO->c≠i1->c≠i2->s.heap.get? c=some o->h'.get? c=some o)->Q (some (.ref s.heap.objs.size)) {s with heap:=h' }):wpAny (model prog w) A (pyNext (.ref z)) Q E s:=by
 obtain⟨x0,p,t1,t2⟩:=st;obtain⟨⟨fX,eE,dm,dI,fO,fP⟩,⟨c5,cH,cI,b9,cb,eU⟩,⟨cO,bH,cQ,cn,bY,bI⟩⟩:=id D;rcases x0 with⟨e,hz,a,b,ht⟩|⟨ad,f,oa,hz,ha,dB⟩
 .exact Gz D (A6 b1 bH) (A6 b2 bI) hz p ht ⟨t1,c1⟩ ⟨t2,c2⟩ hx hy λh' gH _ s1 s2 hp hs hk=>hQ h' ⟨.inr ⟨_,false,_,gH,hp,hl⟩,hk _ _ fX c5 cH cI p,s1.1,s2.1⟩ s1.2 s2.2 hp hs hk
 .have aP:∀b∈[z,TI,TO,i1,i2,l1,l2],ad≠b:=λb hb q=>absurd (uf (bZ b hb) dB) (by rw[q];exact uR _)
  exact Jz D (A6 b1 bH) (A6 b2 bI) hz ha p ⟨t1,c1⟩ ⟨t2,c2⟩ hx hy λh' gH s1 s2 hp hs hk=>hQ h' ⟨.inr ⟨ad,true,oa,gH,hk _ _ (aP _ (by simp)) (aP _ (by simp)) (aP _ (by simp)) ha,dB⟩,hk _ _ fX cH cI p,s1.1,s2.1⟩ s1.2 s2.2 hp hs λc o q1 _ q3 q4 e=>hk c o q1 q3 q4 e
theorem Ur(hh:A.handled=none)(D:Apart z TI TO i1 i2 l1 l2)(st:Frs b1 b2 s.heap z TI TO i1 i2 l1 l2 lo k)(c1:DB b1 s.heap l1 xs)(c2:DB b2 s.heap l2 ys)(bt:xs[k]?=none\/ys[k]?=none)
  (hQ:∀h',(∀c o,c≠z->c≠TO->c≠i1->c≠i2->s.heap.get? c=some o->h'.get? c=some o)->Q none {s with heap:=h' }):wpAny (model prog w) A (pyNext (.ref z)) Q E s:=by
 obtain⟨x0,p,t1,t2⟩:=st;obtain⟨⟨fX,eE,dm,dI,fO,fP⟩,⟨c5,cH,cI,b9,cb,eU⟩,⟨cO,bH,cQ,cn,bY,bI⟩⟩:=id D;rcases x0 with⟨e,hz,a,b,ht⟩|⟨ad,f,oa,hz,ha,dB⟩
 .exact GA hh D (A6 b1 bH) (A6 b2 bI) hz p ht ⟨t1,c1⟩ ⟨t2,c2⟩ bt hQ
 .exact LD hh D (A6 b1 bH) (A6 b2 bI) hz ha p ⟨t1,c1⟩ ⟨t2,c2⟩ bt λh' hk=>hQ h' λc o q1 _ q3 q4 e=>hk c o q1 q3 q4 e
end
end Zp
end PySem
namespace PySem
namespace F
end F
namespace Zp
section
variable{prog:Program}{w:World}{A:Around}{E:Value->Shared->Prop}{s:Shared}{z TI TO i1 i2 l1 l2 S:Addr}{xs ys:Array Value}{b1 b2:Bool}{R:Result->Shared->Prop}
end
end Zp
end PySem
namespace L2
open PySem PySem.Spec PyProof.Rows
section
variable{X:Cx}{aa:List (Addr×Obj)}{U:St}{H H':Hp}{s:Shared}
theorem Inv.Tj{fp:List Addr}(I:Inv X aa U H s)(k:∀b o,b∉fp->s.heap.get? b=some o->h'.get? b=some o)(hf:∀b∈fp,Jj X aa H b)
  (up:∀b u,H b=some u->H' b=some u) (dn:∀b u,H' b=some u->H b=some u\/(s.heap.objs.size<=b/\AZ X.prog X.w H' h' b u)):Inv X aa U H' {s with heap:=h',toks:=t' }:=by
 have hU:∀b u,H b=some u->b∉fp:=λb u e z=>by rw[(hf b z).1]at e;cases e
 refine I.step (λb hb=>?_) (λb o _ _ hc e _=>k b o hc e) (λb o _ _ hc e _=>⟨o.slots,k b o hc e⟩) (λb o _ e n=>?_)
  (λb o hc e=>⟨o,k b o hc e⟩) (λb _ e=>up b _ e) (λb _ _ e=>up b _ e) (λb ps e=>⟨#[],by rw[up b _ e];simp⟩) (λm hm=>?_) (λb u e=>?_) I.bare
 .obtain⟨f0,f1,f2,f3,f4,f5⟩:=hf b hb;exact⟨f3,f1,f4,f5⟩
 .cases q:H' b with
  |none=>rfl
  |some u =>
   rcases dn b u q with z|z
   .rw[n]at z;cases z
   .exact absurd (uf (t9 e) z.1) (uR _)
 .obtain⟨o,es,ep,ho,r⟩:=hm;exact⟨o,es,ep,k _ o (λz=>(hf _ z).2.1 rfl) ho,r⟩
 .rcases dn b u e with z|z
  .refine(I.z9 b u z).MB (λc v hc q=>k c v ?_ q) (λc q=>up c _ q) λc _ q=>up c _ q
   rcases hc with y|y
   .rw[y];exact hU b u z
   .exact hU c _ y
  .exact z.2
end
end L2
namespace PySem
namespace F
theorem JH:typeLookup (.type "tuple") "__reversed__"=pure none:=by rw[typeLookup_type,builtinLookup_eq_fast];kernel_rfl
theorem Hg:Manifest.owners.lookup (String.ofList ['d','e','s','r','e','v','e','r'].reverse)=some Manifest.sig_reversed:=by kernel_rfl
theorem BL:Slot "reversed" "__next__" "reversed.__next__" :=
 .of (owner:="reversed") (n:="__next__") (by rw[typeLookup_type,builtinLookup_eq_fast];kernel_rfl) (by decide +kernel) (by decide +kernel) (by decide +kernel)
  (by first|exact .inl (by decide +kernel)|exact .inr (by decide +kernel)) (by rw[isSubtype_type];kernel_rfl)
theorem D2:entryFor table "reversed.__next__"=some Builtin.«reversed.__next__»:=entryFor_of_tree (by kernel_rfl)
theorem Ez(a:Value):argsOk "reversed.__next__" ⟨[a],[]⟩:=by unfold argsOk;rw[signature?_of (n:=['_','_','t','x','e','n','_','_']) (by kernel_rfl) Hg];kernel_rfl
theorem Eo:Slot "reversed" "__iter__" "reversed.__iter__" :=
 .of (owner:="reversed") (n:="__iter__") (by rw[typeLookup_type,builtinLookup_eq_fast];kernel_rfl) (by decide +kernel) (by decide +kernel) (by decide +kernel)
  (by first|exact .inl (by decide +kernel)|exact .inr (by decide +kernel)) (by rw[isSubtype_type];kernel_rfl)
theorem Jh(a:Value):argsOk "reversed.__iter__" ⟨[a],[]⟩:=by unfold argsOk;rw[signature?_of (n:=['_','_','r','e','t','i','_','_']) (by kernel_rfl) Hg];kernel_rfl
theorem Hy:entryFor table "reversed.__iter__"=some Builtin.«dict_keyiterator.__iter__» :=
 entryFor_alias (id':="dict_keyiterator.__iter__") (by kernel_rfl) (by first|rfl|decide +kernel|(unfold String.splitOn;simp +decide [String.splitOnAux])) (by decide +kernel) (by kernel_rfl)
theorem HW:Slot "reversed" "__init__" "object.__init__" :=
 .of (owner:="object") (n:="__init__") (by rw[typeLookup_type,builtinLookup_eq_fast];kernel_rfl) (by decide +kernel) (by decide +kernel) (by decide +kernel)
  (by first|exact .inl (by decide +kernel)|exact .inr (by decide +kernel)) (by rw[isSubtype_type];kernel_rfl)
theorem Oh:TypeCalled "reversed" "reversed.__new__" "object.__init__" :=
 ⟨by decide +kernel,by decide +kernel,⟨_,_,mro_reversed⟩,made_reversed,by decide +kernel,by rw[isSubtype_type];kernel_rfl,HW⟩
theorem Pj:typeLookup (.type "reversed") "__len__"=pure none:=by rw[typeLookup_type,builtinLookup_eq_fast];kernel_rfl
theorem CU:Slot "reversed" "__length_hint__" "reversed.__length_hint__" :=
 .of (owner:="reversed") (n:="__length_hint__") (by rw[typeLookup_type,builtinLookup_eq_fast];kernel_rfl) (by decide +kernel) (by decide +kernel) (by decide +kernel)
  (by first|exact .inl (by decide +kernel)|exact .inr (by decide +kernel)) (by rw[isSubtype_type];kernel_rfl)
theorem Hz:entryFor table "reversed.__length_hint__"=some Builtin.«reversed.__length_hint__»:=entryFor_of_tree (by kernel_rfl)
theorem Ji(a:Value):argsOk "reversed.__length_hint__" ⟨[a],[]⟩:=by unfold argsOk;rw[signature?_of (id:="reversed.__length_hint__") (n:="__length_hint__".toList.reverse) (o:=['d','e','s','r','e','v','e','r']) (by kernel_rfl) Hg];kernel_rfl
end F
end PySem
namespace PySem
open PyProof.Rows (IsTup)
namespace Rv
theorem Mw{h h':Heap}{t:Addr}{items:Array Value}(x:IsTup h t items)(e:∀o,h.get? t=some o->h'.get? t=some o):IsTup h' t items:=let⟨o,ho,r⟩:=x;⟨o,e _ ho,r⟩
noncomputable def obj(t:Addr)(i:Int):Obj:={cls:=.type "reversed",data:=.fields #[.ref t,rawInt i]}
def Is(h:Heap)(a t:Addr)(i:Int):Prop:=∃o,h.get? a=some o/\o.cls=.type "reversed"/\o.data=.fields #[.ref t,rawInt i]
theorem Is.typeIs{s:Shared}(x:Is s.heap a t i):s.TypeIs (.ref a) "reversed":=let⟨o,ho,hc,_⟩:=x;⟨o,ho,hc⟩
theorem Is.at(x:Is h a t i)(e:∀o,h.get? a=some o->h'.get? a=some o):Is h' a t i:=let⟨o,ho,r⟩:=x;⟨o,e _ ho,r⟩
theorem Fp(t:Addr)(items:Array Value)(hz:items.size<=sizeLine) :
  Meets (Builtin.«reversed.__new__» ⟨[.type "reversed",.ref t],[]⟩) (λ_ R s=>IsTup s.heap t items/\∀tk,R (.ok (.ret (.ref s.heap.objs.size))) {s with heap:=s.heap.push (obj t ((items.size:Int)-1)),toks:=tk}) :=
 .of_wp λprog w A R s h=>by
  obtain⟨ht,h⟩:=h;have iq:(items.size:Int)<2^63:=by rw[sizeLine_eq]at hz;lia
  unfold Builtin.«reversed.__new__»;refine tM (wpAny_of_eq (newClass_reversed _) ?_)
  try dsimp only
  refine tM (wpAny_of_eq (by first|rfl|kernel_rfl) ?_);refine tM (wpAny_of_eq (by first|rfl|kernel_rfl) ?_)
  try dsimp only
  refine tM (wpAny_specialOf ht.typeIs F.JH ?_)
  try dsimp only
  refine tM ?_;refine tM (wpAny_isInstance (b:=false) ht.typeIs (by rw[isSubtype_type];kernel_rfl) ?_);simp only[uJ,if_false];refine tM (wpAny_specialOf ht.typeIs PyProof.Rows.slot_tuple_getitem.lookup ?_);dsimp only;refine wpAny_ite_split (λ_=>tS ?_) (λfA=>absurd (by decide +kernel) fA);simp only[Bool.not_true,uJ,if_false];refine tM (len_tuple ht iq ?_);refine tM (tS ?_);dsimp only;unfold Builtin.SmallTypes.newRecord;refine tM (wpAny_newObj_type (tS ⟨_,rfl,h _⟩) (by size_fits))
section
variable{prog:Program}{w:World}{A:Around}{E:Value->Shared->Prop}{s:Shared}
theorem QB(hz:items.size<=sizeLine)(ht:IsTup s.heap t items)(h:∀tk,Q (.ref s.heap.objs.size) {s with heap:=s.heap.push (obj t ((items.size:Int)-1)),toks:=tk}) :
  wpAny (model prog w) A (call (.type "reversed") [.ref t]) Q E s :=
 callType_new F.Oh (by decide) (F.typeCall_reversed_1 _) (F.newCall_reversed_1 _) (λob=>F.args_object_init_2 ob _) F.entry_reversed_new (Fp t items hz) ⟨ht,λtk=>⟨⟨_,tY _ rfl,rfl⟩,h tk⟩⟩
theorem next_item{i:Nat}(hit:Is s.heap it t (i:Int))(ht:IsTup s.heap t items)(hz:items.size<=sizeLine)(hx:items[i]?=some x)(aP:t≠it)
  (hQ:∀h' tk,s.toks<=tk->Is h' it t ((i:Int)-1)->Heap.SameBut it s.heap h'->Q (some x) {s with heap:=h',toks:=tk}):wpAny (model prog w) A (pyNext (.ref it)) Q E s:=by
 obtain⟨o,ho,hc,hd⟩:=id hit;have hi:i<items.size:=by
  rcases Nat.lt_or_ge i items.size with q|q
  .exact q
  .rw[Array.getElem?_eq_none q]at hx;cases hx
 rw[sizeLine_eq]at hz;unfold pyNext;refine tM (wpAny_attempt (wpAny_callSpecial?_slot hit.typeIs F.BL
  (wpAny_call_entry F.BL hit.typeIs F.D2 ?_ (F.Ez _))))
 unfold Builtin.«reversed.__next__»;refine tM (wpAny_of_eq rfl ?_)
 try dsimp only
 refine tM (uw ho hd rfl ?_);refine tM (uw ho hd rfl ?_);show wpAny _ _ (if(i:Int)<0 then _ else _) _ _ s;rw[if_neg (by lia)];refine tM (wpAny_specialOf ht.typeIs PyProof.Rows.slot_tuple_getitem.lookup ?_);simp only[Option.isNone_some,uJ,if_false];refine tM (wpAny_mkInt ?_);refine tM (wpAny_attempt (PyProof.Rows.getItem_tuple ht (by lia) (by lia) (by unfold seqIndex?;simp only[show ¬((i:Int)<0)from by lia,if_false];simp[hi]) hx ?_));dsimp only;refine tM (uw ho hd rfl ?_);dsimp only[rawInt];refine tM (wpAny_setField ho hd (by simp) ?_);refine tS ⟨x,rfl,tS (hQ _ _ ?_ ?_ (Heap.SameBut.update ..))⟩
 .exact uz (Nat.le_succ _) (uh _)
 .exact⟨_,uX _ ho (Obj.isFreed_of_fields (Obj.data_mapFields hd _)),(Obj.cls_mapFields ..).trans hc,by rw[Obj.data_mapFields hd];simp[rawInt]⟩
theorem next_end(hh:A.handled=none)(hit:Is s.heap it t (-1))
  (hQ:∀h',Heap.ExtBut it s.heap h'->Q none {s with heap:=h' }):wpAny (model prog w) A (pyNext (.ref it)) Q E s:=by
 obtain⟨o,ho,hc,hd⟩:=id hit;unfold pyNext;refine tM (wpAny_attempt (wpAny_callSpecial?_slot hit.typeIs F.BL
  (wpAny_call_entry F.BL hit.typeIs F.D2 ?_ (F.Ez _))))
 unfold Builtin.«reversed.__next__»;refine tM (wpAny_of_eq rfl ?_)
 try dsimp only
 refine tM (uw ho hd rfl ?_);refine tM (uw ho hd rfl ?_);show wpAny _ _ (if(-1:Int)<0 then _ else _) _ _ s;rw[if_pos (by decide)];refine tM (wpAny_rule ?_);refine tM ?_;refine tM (wpAny_setField ho hd (by simp) ?_);have gg:=uX (Obj.mapFields (λvs=>vs.setIfInBounds 1 (rawInt (-1)))) ho (Obj.isFreed_of_fields (Obj.data_mapFields hd _));refine wpAny_setField gg (Obj.data_mapFields hd _) (by simp) ?_;refine tM ?_;refine tM ?_;simp only[newExc,newTuple];refine tM (wpAny_newObj_type ?_ (by size_fits));refine tM (wpAny_of_eq (by first|rfl|(simp only[firstArgMember];rfl)) ?_);refine wpAny_newObj_type ?_ (by size_fits);simp only[raiseNew];refine tM (wpAny_handled ?_)
 first|rw[show A.in1.handled=none from hh]|rw[hh]
 refine tM (tS (wpAny_throw ?_));refine tM (wpAny_isInstance ⟨_,tY _ rfl,rfl⟩ isSubtype_stop ?_);refine tS (hQ _ ?_);have k1:Heap.SameBut it s.heap (s.heap.update it (Obj.mapFields (·.setIfInBounds 1 (rawInt (-1))))):=Heap.SameBut.update ..;have k2:Heap.SameBut it (s.heap.update it (Obj.mapFields (·.setIfInBounds 1 (rawInt (-1))))) ((s.heap.update it (Obj.mapFields (·.setIfInBounds 1 (rawInt (-1))))).update it (Obj.mapFields (·.setIfInBounds 0 Value.none))):=Heap.SameBut.update ..;exact λb ob hb e=>tN _ (tN _ (k2.extBut b ob hb (k1.extBut b ob hb e)))
theorem IE(hit:Is s.heap it t i)(h:Q (.ref it) s):wpAny (model prog w) A (pyIter (.ref it)) Q E s:=by refine wpAny_pyIter_slot hit.typeIs F.Eo (wpAny_call_entry F.Eo hit.typeIs F.Hy ?_ (F.Jh _));exact tS ⟨_,rfl,"reversed",_,hit.typeIs,F.BL.lookup,h⟩
theorem Oj{it t:Addr}{i:Nat}{items:Array Value}{Q:Value->Shared->Prop}(hit:Is s.heap it t ((i:Int)-1))(ht:IsTup s.heap t items)(hz:items.size<=sizeLine)(hi:i<=items.size)
  (h:∀tk u,s.toks<=tk->Q (.int (i:Int) u) {s with toks:=tk}):wpAny (model prog w) A (call (.builtin "reversed.__length_hint__") [.ref it]) Q E s:=by
 obtain⟨o,ho,hc,hd⟩:=id hit;have iq:(items.size:Int)<2^63:=by rw[sizeLine_eq]at hz;lia
 refine wpAny_call_entry F.CU hit.typeIs F.Hz ?_ (F.Ji _);unfold Builtin.«reversed.__length_hint__»;refine tM (wpAny_of_eq (a:=Value.ref it) rfl ?_);refine tM (uw ho hd (x:=.ref t) rfl ?_);rw[if_neg (show ¬((Value.ref t==Value.none)=true)from uu)];refine tM (len_tuple ht iq ?_);refine tM (m:=asInt? _) (tS ?_);dsimp only;refine tM (uw ho hd (x:=rawInt ((i:Int)-1)) rfl ?_);dsimp only[rawInt];have e:(i:Int)-1+1=(i:Int):=by lia
 rw[if_neg (by lia),e];exact tM (wpAny_mkInt (tS ⟨_,rfl,h _ _ (by show s.toks<=s.toks+1+1+1;lia)⟩))
theorem hint{it t:Addr}{items:Array Value}{Q:Bool->Shared->Prop}(hit:Is s.heap it t ((items.size:Int)-1))(ht:IsTup s.heap t items)(hz:items.size<=sizeLine)
  (h:∀b tk,s.toks<=tk->Q b {s with toks:=tk}):wpAny (model prog w) A (Builtin.List.listLengthHint (.ref it)) Q E s:=by
 have hT:=hit.typeIs;unfold Builtin.List.listLengthHint;refine tM (wpAny_specialOf hT F.Pj ?_);show wpAny _ _ (specialOf (Value.ref it) (Str.ofString "__length_hint__") >>= _) _ _ _;refine tM (wpAny_specialOf hT F.CU.lookup ?_);generalize hid:("reversed.__length_hint__":String)=id0
 wp_delta
 rw[show splitId id0=some ("reversed","__length_hint__")from by subst hid;decide +kernel];subst hid;refine tM (wpAny_isInstance (T:="reversed") (b:=true) hT (by rw[isSubtype_type];kernel_rfl) ?_);rw[if_neg (by decide)];refine wpAny_ite_split (λfA=>absurd fA (by decide)) (λ_=>?_);refine tM (wpAny_rule ?_);refine tM (wpAny_of_eq (F.CU.bind _) ?_);dsimp only;refine tM (wpAny_attempt (Oj hit ht hz (uh _) λtk u iI=>?_));have gH:=hz;rw[sizeLine_eq]at gH;have f1:Builtin.List.listFitsIndex (items.size:Int)=true:=by unfold Builtin.List.listFitsIndex;rw[uq,decide_eq_true_eq,decide_eq_true_eq];constructor<;>lia
 have f2:Builtin.List.listTooLong (items.size:Int).toNat=false:=by rw[uO];unfold Builtin.List.listTooLong;exact uA (Nat.not_lt.mpr hz)
 split
 next he=>cases he
 next he=>cases he
 .rename_i r _ he;cases he;have f3:¬((items.size:Int)<0):=by lia
  simp only[asInt?,pure_bind,f1,f2,f3,Bool.not_true,uJ,if_false];exact tS (h _ tk iI)
end
theorem walks{prog:Program}{w:World}{A:Around}(hh:A.handled=none)(I t:Addr)(aP:t≠I)(items:Array Value)(hz:items.size<=sizeLine) :
  Walks prog w A I [I,t] [I] items.size (λi v=>items[items.size-1-i]?=some v) (λi h=>i<=items.size/\Is h I t ((items.size:Int)-1-(i:Int))/\IsTup h t items) where
 sub:=λb hb=>by simp at hb;simp[hb]
 frame:=λ_ _ _ x hk=>⟨x.1,x.2.1.at λo e=>hk I (by simp) o e,Mw x.2.2 λo e=>hk t (by simp) o e⟩
 item:=λi s Q E hi x hQ=>by
  have e:(items.size:Int)-1-(i:Int)=((items.size-1-i:Nat):Int):=by lia
  have hit:=x.2.1;rw[e]at hit;have hx:items[items.size-1-i]?=some (items[items.size-1-i]'(by lia)):=u9 (by lia);refine next_item hit x.2.2 hz hx aP λh' tk iI ja jj=>?_
  have e2:((items.size-1-i:Nat):Int)-1=(items.size:Int)-1-((i+1:Nat):Int):=by lia
  rw[e2]at ja;exact hQ _ h' tk hx ⟨hi,ja,Mw x.2.2 λo eo=>(jj.2 t aP).trans eo⟩ λb o hb eo=>jj.extBut b o (λh=>hb (by simp[h])) eo
 done:=λs Q E x hQ=>by
  have e:(items.size:Int)-1-(items.size:Int)=-1:=by lia
  have hit:=x.2.1;rw[e]at hit;exact next_end hh hit λh' ig=>hQ h' s.toks λb o hb eo=>ig b o (λh=>hb (by simp[h])) eo
 self:=λ_ _ _ _ x hQ=>IE x.2.1 hQ
section
variable{prog:Program}{w:World}{A:Around}{E:Value->Shared->Prop}{s:Shared}
theorem Od{Q:List Value->Shared->Prop}{I t:Addr}{items:Array Value}(hh:A.handled=none)(aP:t≠I)(hz:items.size<=sizeLine)(hit:Is s.heap I t ((items.size:Int)-1))(ht:IsTup s.heap t items)
  (hQ:∀s' ay,(∀b o,b≠I->s.heap.get? b=some o->s'.heap.get? b=some o)->s'.gens=s.gens->s'.drawn=s.drawn->s'.os=s.os->ItemsOf (λi v=>items[items.size-1-i]?=some v) ay items.size->Q ay.toList s'):wpAny (model prog w) A (collect (.ref I)) Q E s:=by
 have W:=(walks (prog:=prog) (w:=w) (A:=A.in1) hh I t aP items hz).toS;have cV:I<s.heap.objs.size:=by obtain⟨o,ho,_⟩:=hit;exact t9 ho
 have eM:t<s.heap.objs.size:=ht.lt;have mQ:s.heap.objs.size∉[I,t]:=λhm=>by
  simp only[uk,uI,or_false]at hm;rcases hm with q|q
  .rw[<- q]at cV;exact uR _ cV
  .rw[<- q]at eM;exact uR _ eM
 have mP:s.heap.objs.size≠I:=λe=>mQ (by simp[e])
 unfold collect;refine tM (wpAny_runValue (codeAny_builtin F.entry_proto_collect ?_));rw[Around.under_plainId F.plain_proto_collect _];show wpAny _ A.in1 (newList [] >>= λl=>again (.builtin "list.__iadd__" ⟨[l,.ref I],[]⟩)) _ _ s;refine tM (wpAny_newObj_type ?_);refine tS ⟨plainId_quiet F.plain_list_iadd _,codeAny_builtin F.entry_list_iadd ?_⟩;rw[Around.under_plainId F.plain_list_iadd _];have c9:(s.heap.push {cls:=.type "list",data:=.seq ([]:List Value).toArray}).get? s.heap.objs.size=some {cls:=.type "list",data:=.seq ([]:List Value).toArray}:=tY _ rfl;have h1:Builtin.List.listSameRef (.ref s.heap.objs.size) (.ref I)=false:=by simp[Builtin.List.listSameRef,mP]
 have h2:(Value.type "reversed"==Value.type "list")=false:=by decide
 have h3:(Value.type "reversed"==Value.type "tuple")=false:=by decide
 have gA:Is (s.heap.push {cls:=.type "list",data:=.seq ([]:List Value).toArray}) I t ((items.size:Int)-1):=hit.at λo e=>tN _ e
 have ni:IsTup (s.heap.push {cls:=.type "list",data:=.seq ([]:List Value).toArray}) t items:=Mw ht λo e=>tN _ e
 show wpAny _ A.in1 (Builtin.List.listExtendWith (.ref s.heap.objs.size) (.ref I) (.ref s.heap.objs.size)) _ _ _;unfold Builtin.List.listExtendWith;refine tM (wpAny_typeOf (Is.typeIs (s:={s with heap:=s.heap.push {cls:=.type "list",data:=.seq ([]:List Value).toArray} }) gA) ?_);simp only[h1,h2,h3,Bool.or_false,uJ,if_false];refine tM (IE gA ?_);refine tM (wpAny_holding (hint gA ni hz λb tk iI=>?_));have e0:(items.size:Int)-1-((0:Nat):Int)=(items.size:Int)-1:=by simp
 have key:∀(h:Heap)(c₁:Nat),(∀b o,b≠s.heap.objs.size->(s.heap.push {cls:=.type "list",data:=.seq ([]:List Value).toArray}).get? b=some o->h.get? b=some o) ->
   h.get? s.heap.objs.size=some {cls:=.type "list",data:=.seq #[] c₁}->codeAny (model prog w) A (.builtin "list.extend.loop" ⟨[.ref s.heap.objs.size,.ref I,.ref s.heap.objs.size],[]⟩) (λr s'=>∃cJ c',r=.ok (.ret (.ref s.heap.objs.size))/\(∀b o,b≠I->s.heap.get? b=some o->s'.heap.get? b=some o)/\s'.gens=s.gens/\s'.drawn=s.drawn/\s'.os=s.os /\
    s'.heap.get? s.heap.objs.size=some {cls:=.type "list",dict:=none,data:=.seq cJ c',slots:=#[]}/\ItemsOf (λi v=>items[items.size-1-i]?=some v) cJ items.size) {s with heap:=h,toks:=tk}:=by
  intro h c₁ hk c9;refine codeAny_extend_loopS W hz _ mQ _ items.size 0 _ _ _ rfl (v3 _) ⟨v3 _,?_,Mw ni λo e=>hk _ o (ur eM) e⟩ c9 (ItemsOf.nil _) λs' cJ c' hm gU bA=>⟨cJ,c',rfl,λb o hb e=>?_,hm.gens,hm.drawn,hm.os,gU,bA⟩
  .rw[e0];exact gA.at λo e=>hk _ o (Ne.symm mP) e
  .refine hm.heap b o (λkY=>?_) (hk b o (ur (t9 e)) (tN _ e));rcases uk.mp kY with q|q
   .exact ur (t9 e) q
   .exact hb (ub.mp q)
 have aT:∀(r:Result)(s':Shared),(∃cJ c',r=.ok (.ret (.ref s.heap.objs.size))/\(∀b o,b≠I->s.heap.get? b=some o->s'.heap.get? b=some o)/\s'.gens=s.gens/\s'.drawn=s.drawn/\s'.os=s.os /\
    s'.heap.get? s.heap.objs.size=some {cls:=.type "list",dict:=none,data:=.seq cJ c',slots:=#[]}/\ItemsOf (λi v=>items[items.size-1-i]?=some v) cJ items.size)->wants (λr s'=>wpAny (model prog w) A (match r with
     |.ref a=>do
      let o <- load a
      match o.data with|.seq xs _=>pure xs.toList|_=>unsupported "internal:collect"
     |_=>unsupported "internal:collect") Q E s') E r s':=by
  rintro r s' ⟨cJ,c',rfl,k1,k2,k3,k4,gU,bA⟩
  show wpAny _ A (load s.heap.objs.size >>= _) _ _ s';refine tM (wpAny_load gU ?_);exact tS (hQ s' cJ k1 k2 k3 k4 bA)
 refine wpAny_ite_split (λ_=>?_) (λ_=>tS ⟨plainId_quiet F.plain_extend_loop _,codeAny_mono (key _ 0 (λb o _ e=>e) c9) aT⟩);refine tM (wpAny_rule ?_);refine tM ?_;show wpAny _ _ (updateSeq s.heap.objs.size (·.push .none) >>= λ_=>updateSeq s.heap.objs.size (·.pop)) _ _ _;refine tM (wpAny_updateSeq c9 rfl ?_);have gW:=uX (Obj.mapSeq (·.push Value.none)) c9 rfl;refine wpAny_updateSeq (hz:=by seq_fits) gW rfl ?_;have iU:=uX (Obj.mapSeq (·.pop)) gW rfl;refine tS ⟨plainId_quiet F.plain_extend_loop _,codeAny_mono (key _ _ (λb o hb e=>?_) iU) aT⟩;exact(uU _ _ (Ne.symm hb)).trans ((uU _ _ (Ne.symm hb)).trans e)
end
end Rv
end PySem
namespace PySem
open PyProof.Rows (IsTup)
namespace Rv
theorem JN(I t:Addr)(items:Array Value)(hz:items.size<=sizeLine)(aP:t≠I) :
  Meets (Builtin.«tuple.__new__» ⟨[.type "tuple",.ref I],[]⟩)
   (λA R s=>A.handled=none/\Is s.heap I t ((items.size:Int)-1)/\IsTup s.heap t items/\∀(s':Shared)(ay:Array Value),(∀b o,b≠I->s.heap.get? b=some o->s'.heap.get? b=some o)->s'.gens=s.gens->s'.drawn=s.drawn->s'.os=s.os->ItemsOf (λi v=>items[items.size-1-i]?=some v) ay items.size ->
    R (.ok (.ret (.ref s'.heap.objs.size))) {s' with heap:=s'.heap.push {cls:=.type "tuple",data:=.seq ay} }) :=
 .of_wp λprog w A R s h=>by
  obtain⟨hh,hit,ht,h⟩:=h;have fM:=sub_tuple_self;have mY:=init_tuple_lookup;have sU:=madeHere_tuple;have hT:s.TypeIs (.ref I) "reversed":=hit.typeIs;have qD:A.in1.handled=none:=hh;obtain⟨oi,qR,sQ,fZ⟩:=id hit
  wp_walk using wpAny_typeOf hT,AutoSeq1.wpAny_loadPart' qR,Od qD aP hz hit ht
  intro s' ay hk hg hd fL bA;show wpAny _ _ (Builtin.Tuple.tupleExact ay.toList.toArray >>= λv=>ret v) _ _ _;unfold Builtin.Tuple.tupleExact;refine tM (wpAny_newObj_type ?_ (show ay.toList.toArray.size<=sizeLine by simp only[Array.toArray_toList];rw[bA.1];exact hz));refine tS ⟨_,rfl,?_⟩;have e:ay.toList.toArray=ay:=by simp
  rw[e];exact h s' ay hk hg hd fL bA
section
variable{prog:Program}{w:World}{A:Around}{E:Value->Shared->Prop}{s:Shared}
theorem L8{I t:Addr}{items:Array Value}{Q:Value->Shared->Prop}(hh:A.handled=none)(hz:items.size<=sizeLine)(aP:t≠I)(hit:Is s.heap I t ((items.size:Int)-1))(ht:IsTup s.heap t items)
  (h:∀(h':Heap)(tk:Nat)(ay:Array Value),(∀b o,b≠I->s.heap.get? b=some o->h'.get? b=some o)->ItemsOf (λi v=>items[items.size-1-i]?=some v) ay items.size->Q (.ref h'.objs.size) {s with heap:=h'.push {cls:=.type "tuple",data:=.seq ay},toks:=tk}) :
  wpAny (model prog w) A (call (.type "tuple") [.ref I]) Q E s:=by
 refine callType_new F.called_tuple (by decide) (F.typeCall_tuple_1 _) (F.newCall_tuple_1 _) (λobj=>F.args_object_init_2 obj _) F.entry_tuple_new
  (JN I t items hz aP) ⟨hh,hit,ht,λs' ay hk hg hd fL bA=>⟨⟨_,tY _ rfl,rfl⟩,?_⟩⟩
 obtain⟨h',g',d',hX,dN⟩:=s';have e1:g'=s.gens:=hg;have e2:d'=s.drawn:=hd;have e3:dN=s.os:=fL;subst e1 e2 e3;exact h h' hX ay hk bA
end
end Rv
end PySem
namespace L2
open PySem PySem.Spec PyProof.Rows
def R8(K:Fg)(ta:TE):TE:=λU H Q=>ta U H λx H1=>∃t ys,x=.ref t/\SqT K H1 t ys/\∀d,H1 d=none->Q (.ref d) (upd H1 d (.tup ys.reverse))
theorem MU{X:Cx}{a:Expr}{ta:TE}{p1 p2 di aU:Pos}(hc:X.calm=true)(gC:X.mg "tuple"=none)(de:X.mg "reversed"=none)(ha:PE X a ta)(iw:Gl X "tuple":=by rfl)(eI:Gl X "reversed":=by rfl)
  (he:starEach [(.Call (.Name "reversed" p2) [a] [] aU:Expr)] X.env=[(false,eval (.Call (.Name "reversed" p2) [a] [] aU) X.env)]:=by rfl) (jU:starEach [a] X.env=[(false,eval a X.env)]:=by rfl) :
  PE X (.Call (.Name "tuple" p1) [.Call (.Name "reversed" p2) [a] [] aU] [] di) (R8 X.K ta):=by
 intro aa s U H Q I h;refine wpAny_Call_Name_kw (Dm I iw gC boot_tuple ?_);refine callWith_type1 ?_ he rfl;rw[he];refine Calls.spliced_cons ?_;refine wpAny_Call_Name_kw (Dm I eI de boot_reversed ?_);refine callWith_type1 ?_ jU rfl;rw[jU];refine Calls.spliced_cons (thn (ha aa s U H _ I h) λu s1 ao=>?_);obtain⟨x,H1,I1,r1,t,ys,ex,hq,q⟩:= ao;subst ex;cases r1;obtain⟨aq,rv,pt,hz⟩:=I1.tuple hq;have hlen:=rv.length;have g8:aq.toArray.size<=sizeLine:=by rw[ua];lia
 refine Calls.spliced_nil (Rv.QB g8 pt λtk=>?_);refine Calls.spliced_nil ?_;have I2:Inv X aa U H1 {s1 with heap:=s1.heap.push (Rv.obj t ((aq.toArray.size:Int)-1)),toks:=tk}:=I1.kept (t':=tk) λb o e=>tN _ e
 have hf:Jj X aa H1 s1.heap.objs.size:=I1.Qd (uh _) (I1.z9.fresh (uh _));have cV:t<s1.heap.objs.size:=pt.lt;refine Rv.L8 (s:={s1 with heap:=s1.heap.push (Rv.obj t ((aq.toArray.size:Int)-1)),toks:=tk}) (t:=t) (items:=aq.toArray) (I.ok.hd hc) g8 (ur cV) ⟨_,tY _ rfl,rfl,rfl⟩ (Rv.Mw pt λo e=>tN _ e) λh' hX ay kp bA=>?_
 have I3:Inv X aa U H1 {s1 with heap:=h',toks:=hX}:=Inv.E4 (s:={s1 with heap:=s1.heap.push (Rv.obj t ((aq.toArray.size:Int)-1)),toks:=tk}) (fp:=[s1.heap.objs.size]) I2 (λb o hb e=>kp b o (by simpa using hb) e) λb hb=>by rw[ub.mp hb];exact hf
 have I4:Inv X aa U (upd H1 h'.objs.size (.tup ys.reverse)) {s1 with heap:=h'.push {cls:=.type "tuple",data:=.seq ay},toks:=hX} :=
  I3.laid (λb o e=>tN _ e) (uh _) (show AZ X.prog X.w _ _ _ (.tup ys.reverse)from⟨by rw[List.length_reverse];exact hz,ay.toList,OE rv bA,by simpa using PlT.new h' ay⟩)
 exact⟨.ref h'.objs.size,_,I4,rfl,q _ (I3.z9.fresh (uh _))⟩
end L2
namespace HT
open PySem PyProof.Rows
section
variable{prog:Program}{w:World}{A:Around}{E:Value->Shared->Prop}{s:Shared}
theorem Eg{lo hi:Option Int}(ht:IsTup s.heap t items)(hs:s.heap.IsSliceOf sl vl vu .none)(pl:IsPart vl lo)(pu:IsPart vu hi)
  (hw:sIx items.size 0 lo=0/\sIx items.size items.size hi=items.size) (h:Q (.ref t) s):wpAny (model prog w) A (getItem (.ref t) (.ref sl)) Q E s:=by
 obtain⟨os,fL,iE,i8⟩:=id hs;have kJ:s.TypeIs (.ref sl) "slice":=⟨os,fL,iE⟩
 unfold getItem
 try with_reducible refine wpAny_holding ?_
 first|refine tM (tS ?_)|skip
 refine tM (wpAny_sequenceKey ht.typeIs (by decide) ?_);refine tM (wpAny_callSpecial?_slot ht.typeIs slot_tuple_getitem
  (wpAny_call_entry slot_tuple_getitem ht.typeIs entry_tuple_getitem ?_ (args_tuple_getitem _ _)))
 show wpAny _ _ (Builtin.Tuple.tupleItemsOf (.ref t) >>= _) _ _ s;refine tM (tupleItemsOf_ ht ?_);refine tM (wpAny_typeOf kJ ?_);rw[if_pos (by decide)];refine tM (CN hs pl pu ?_);have lA:(((sIx items.size 0 lo:Nat):Int)==0&&(1:Int)==1&&(sIx items.size items.size hi-sIx items.size 0 lo)==items.size)=true:=by rw[hw.1,hw.2];simp
 show wpAny _ _ (if(((sIx items.size 0 lo:Nat):Int)==0&&(1:Int)==1&&(sIx items.size items.size hi-sIx items.size 0 lo)==items.size)=true then _ else _) _ _ s;rw[if_pos lA];refine tM ?_;unfold Builtin.Tuple.tupleIsExact;refine tM (wpAny_typeOf ht.typeIs (tS ?_));rw[if_pos (by decide)];exact tM (wpAny_rule (tS ⟨_,rfl,tS h⟩))
end
end HT
namespace L2
open PySem PySem.Spec PyProof.Rows
def rSlA(K:Fg):V->Option Int->Option Int->Hp->VK->Prop:=λx lo hi H Q=>∃a xs,x=.ref a/\SqT K H a xs/\(HT.sIx xs.length 0 lo=0/\HT.sIx xs.length xs.length hi=xs.length)/\Q (.ref a) H
theorem VB:SlR X (rSlA X.K):=by
 intro aa s U H x v vl vu lo hi sl Q I rx hs pl pu h;obtain⟨a,xs,rfl,hx,hw,q⟩:=h;cases rx;obtain⟨aq,r,ht,hz⟩:=I.tuple hx;have hlen:aq.toArray.size=xs.length:=by rw[ua];exact r.length.symm
 refine⟨"tuple",_,PyProof.Rows.slot_tuple_getitem.lookup,ht.typeIs,?_⟩;exact HT.Eg ht hs pl pu (by rw[hlen];exact hw) ⟨.ref a,H,I,rfl,q⟩
end L2
namespace L2
open PySem PySem.Spec PySem.W PyProof.Rows
noncomputable def Cs:List Int->Nat
 | []=>0
 |n::ns=>Builtin.Int.intBits n+1+Cs ns
theorem FN:∀ns:List Int,WData.weightAll (ns.map WData.int)=Cs ns
 | []=>by simp[WData.weightAll,Cs]
 |n::ns=>by simp only[tR,WData.weightAll,Cs,WData.weight,FN ns];rfl
end L2
namespace L2
open PySem PySem.Spec
theorem VH(h:Gj k u=true):RelV (kV k) u:=by
 cases k with
 |inl i =>
  have h:Value.isInt i u=true:=h;cases u<;>first
   |(simp[Value.isInt]at h;subst h;exact⟨_,rfl⟩)
   |(simp[Value.isInt]at h)
   |(cases h)
 |inr x =>
  have h:Value.isStrOf x u=true:=h;cases u<;>first
   |(simp[Value.isStrOf]at h;subst h;exact⟨_,rfl⟩)
   |(simp[Value.isStrOf]at h)
   |(cases h)
noncomputable def Ja1(o:Obj):Nat:=match o.data with|.dict _ ep=>ep|_=>0
def Itd(a:Addr)(o:Obj)(ah:List (Key×V)):It :=
 ⟨λi H=>H a=some (.frz o (.l ah))/\i<ah.length,λi H x H'=>H'=H/\∃k,(ah.map (·.1))[i]?=some k/\x=kV k,λi H=>H a=some (.frz o (.l ah))/\ah.length<=i⟩
section
variable{X:Cx}{aa:List (Addr×Obj)}{U:St}{H:Hp}{s:Shared}{a:Addr}{o:Obj}{ah:List (Key×V)}
theorem Inv.JaP(I:Inv X aa U H s)(e:H a=some (.frz o (.l ah))):(a==sysModules)=false/\∃vs,KV ah vs/\s.heap.DictAt (AY X.prog X.w) a vs (Ja1 o):=by
 obtain⟨h1,h2⟩:=(show AZ X.prog X.w H s.heap a (.frz o (.l ah))from I.z9 a _ e)
 obtain⟨z,hd,vs,aJ,dd⟩:=(show ah.length<=sizeLine/\(a==sysModules)=false/\∃vs,KV ah vs/\s.heap.DictOf (AY X.prog X.w) a vs from h2)
 refine⟨hd,vs,aJ,?_⟩;obtain⟨o',es,ep,ho,hc,i5,r⟩:=dd;rw[h1]at ho;cases ho;refine⟨o,es,h1,hc,?_,r⟩;rw[i5];unfold Ja1;rw[i5]
theorem Inv.freeze(I:Inv X aa U H s)(e:H a=some (.l ah)):∃o,Inv X aa U (upd H a (.frz o (.l ah))) s:=by
 have h2:=(show AZ X.prog X.w H s.heap a (.l ah)from I.z9 a _ e)
 obtain⟨z,hd,vs,aJ,dd⟩:=(show ah.length<=sizeLine/\(a==sysModules)=false/\∃vs,KV ah vs/\s.heap.DictOf (AY X.prog X.w) a vs from h2)
 obtain⟨o,es,ep,ho,r⟩:=id dd;exact⟨o,I.write (by rw[e];exact True.intro) (.inl rfl) (λ_ _ _ z=>z) ⟨o,ho⟩ ⟨ho,z,hd,vs,aJ,dd⟩⟩
end
theorem Mv{P:Program}{w:World}{K:Fg}{tg:Expr}(a it:Addr)(o:Obj)(ah:List (Key×V)):Turn P w K tg (Itd a o ah) [it] it (λi h=>h.IsKeyIter it a i ah.length (Ja1 o)) where
 mem:=by simp
 obj:=λi h st b hb=>by
  have e:b=it:=by simpa using hb
  subst e;obtain⟨o,e,c,d⟩:=st;exact⟨o,e,λv z=>by rw[d]at z;cases z⟩
 keep:=λi h h' st k=>by obtain⟨o,e,r⟩:=st;exact⟨o,k it (by simp) o e,r⟩
 item:=by
  intro X hP hw hK hc i aa s U H E I hf st hg;subst hP hw hK;obtain⟨he,hi⟩:=hg;obtain⟨hd,vs,aJ,da⟩:=I.JaP he;have hl:=aJ.length;have eJ:i<vs.length:=by lia
  obtain⟨f0,f1,f2,f3,f4,f5⟩:=hf it (by simp);have hx:vs[i]?=some ((vs[i]).1,(vs[i]).2):=tO eJ;rw[hl]at st;refine wpAny_pyNext_dict_item st da hx λkey h' hk dQ sb=>?_
  rw[<- hl]at dQ;have I1:Inv X aa U H {s with heap:=h' }:=I.turned (t':=s.toks) (λb o hb e=>(sb.2 b hb).trans e) f0 f1 f3 f4 f5;obtain⟨o',e,c,d⟩:=id dQ;have jV:(ah.map (·.1))[i]?=some (vs[i]).1:=by
   have:ah.map (·.1)=vs.map (·.1):=by
    clear hx eJ hl da st hk dQ sb I1 e c d he hi;unfold KV at aJ
    induction aJ with|nil=>rfl|cons h t ih=>rw[tR,tR,h.1,ih]
   rw[this,ux,tO eJ];rfl
  exact⟨key,rfl,P0 (s:={s with heap:=h' }) e c d (by decide) ⟨kV (vs[i]).1,H,I1,VH hk,⟨rfl,_,jV,rfl⟩,dQ,λb hb=>(hf b hb).1⟩⟩
 done:=by intro X hP hw hK hc i aa s U H E I hf st hg;subst hP hw hK;obtain⟨he,hi⟩:=hg;obtain⟨hd,vs,aJ,da⟩:=I.JaP he;have hl:=aJ.length;obtain⟨f0,f1,f2,f3,f4,f5⟩:=hf it (by simp);rw[hl]at st;exact wpAny_pyNext_dict_end (I.ok.hd hc) st da (u7 (by lia)) λh' eb=>⟨rfl,I.turned (t':=s.toks) (λb o hb e=>eb b o hb e) f0 f1 f3 f4 f5⟩
 self:=λ_ _ _ _ _ st h=>wpAny_pyIter_keyiter st h
section
variable{X:Cx}{tg:Expr}
end
section
variable{X:Cx}
theorem C6(hc:X.calm=true):BZ X (.type "list") (λxs H Q=>∃p ah,xs=[.ref p]/\Rd H p (.l ah)/\∀l,H l=none->Q (.ref l) (upd H l (.lst (ah.map λkv=>kV kv.1)))):=by
 intro aa s U H xs us Q I r h;obtain⟨p,ah,rfl,hp,q⟩:=h;obtain⟨u,rfl,rx⟩:=vals1 r;cases rx;obtain⟨z,hd,vs,aJ,dd⟩:=Gn I.z9 hp;obtain⟨ep,da⟩:=dd.dictAt;have hlen:=Paired.length aJ;refine PySem.W.kdl_call (PySem.W.kdl_dict hd) (I.ok.hd hc) da (by rw[<- hlen];exact z) λh' tk ay c' kp e bA=>?_
 refine⟨.ref s.heap.objs.size,_,I.laid kp (uh _) (show AZ X.prog X.w _ h' _ (.lst (ah.map λkv=>kV kv.1))from⟨by rw[tZ];exact z,ay.toList,c',Mp aJ bA,by simpa using e⟩),rfl,q _ (I.z9.fresh (uh _))⟩
theorem Ma:BZ X (.builtin "len") (λxs H Q=>∃a ah,xs=[V.ref a]/\Rd H a (.l ah)/\Q (.int ah.length) H):=by intro aa s U H xs us Q I r h;obtain⟨a,ah,rfl,ha,q⟩:=h;obtain⟨u,rfl,ru⟩:=vals1 r;cases ru;exact Ja9 I ha λt s' I'=>⟨.int ah.length,H,I',⟨t,rfl⟩,q⟩
end
section
variable{X:Cx}{aa:List (Addr×Obj)}{U:St}{H:Hp}{s:Shared}
theorem Mb:BZ X (.type "dict") (λxs H Q=>∃a ah,xs=[.ref a]/\Rd H a (.l ah)/\∀l,H l=none->Q (.ref l) (upd H l (.l ah))):=by intro aa s U H xs us Q I r h;obtain⟨a,ah,rfl,ha,q⟩:=h;obtain⟨u,rfl,rx⟩:=vals1 r;cases rx;exact Qq I ha λp s' hp I'=>⟨.ref p,_,I',rfl,q p hp⟩
end
section
variable{X:Cx}{tg:Expr}
def Xd(td:TE):TI:=λU H R=>td U H λx H1=>∃a ah,x=.ref a/\((H1 a=some (.l ah)/\∀o,R (Itd a o ah) (upd H1 a (.frz o (.l ah))))\/∃o,H1 a=some (.frz o (.l ah))/\R (Itd a o ah) H1)
theorem Pa{l:Expr}{td:TE}(hl:PE X l td):PI X tg l (Xd td):=by
 intro aa s U H R I h;refine thn (hl aa s U H _ I h) λv s1 ao=>?_
 obtain⟨x,H1,I1,r1,q1⟩:= ao;obtain⟨a,ah,e,hq⟩:=q1;subst e;cases r1
 suffices key:∃(o:Obj)(H2:Hp),Inv X aa U H2 s1/\H2 a=some (.frz o (.l ah))/\R (Itd a o ah) H2 by
  obtain⟨o,H2,I2,h2,q⟩:=key;obtain⟨hd,vs,aJ,da⟩:=I2.JaP h2;have hlen:=aJ.length;refine wpAny_pyIter_dict hd da ?_;refine⟨s1.heap.objs.size,[s1.heap.objs.size],_,_,_,rfl,I2.kept (t':=s1.toks) λb o e=>tN _ e,Mv a _ o ah,⟨_,tY _ rfl,rfl,by rw[hlen];rfl⟩,λb hb=>?_,q⟩;have e:b=s1.heap.objs.size:=by simpa using hb
  subst e;exact I2.Qd (uh _) (I2.z9.fresh (uh _))
 rcases hq with⟨hq,q⟩|⟨o,hq,q⟩
 .obtain⟨o,I2⟩:=I1.freeze hq;exact⟨o,_,I2,Ak,q o⟩
 .exact⟨o,H1,I1,hq,q⟩
def Jcc(td:TE):TE:=λU H Q=>td U H λx H1=>∃a ah,x=.ref a/\H1 a=some (.l ah)/\∀o,Q (.ref a) (upd H1 a (.frz o (.l ah)))
theorem Wj{e:Expr}{td:TE}(h:PE X e td):PE X e (Jcc td):=by
 intro aa s U H Q I q;refine thn (h aa s U H _ I q) λv s1 ao=>?_
 obtain⟨x,H1,I1,r1,a,ah,ex,hq,q⟩:= ao;subst ex;cases r1;obtain⟨o,I2⟩:=I1.freeze hq;exact⟨.ref a,_,I2,rfl,q o⟩
end
end L2
namespace L2
open PySem PySem.Spec PyProof.Rows PySem.W
theorem Nj:∀(K:Fg),(K.map (·.1)).map h.get?=K.map (λp=>some p.2)->K.In h
 | [],_=>λa o e=>by cases e
 |p::K,hk=>λa o e=>by
  simp only[tR,List.cons.injEq]at hk;rw[uM]at e;by_cases q:a=p.1
  .subst q;rw[show(p.1==p.1)=true by simp]at e;cases e;exact hk.1
  .rw[show(a==p.1)=false by simpa using q]at e;exact Nj K hk.2 a o e
end L2
namespace L2
open PySem PySem.Spec PyProof.Rows
def ExT(h:Heap)(vs:Array Value)(a:Addr)(fl:Value):Option Addr->Prop
 |none=>vs[1]?=some .none
 |some T=>vs[1]?=some (.ref T)/\T≠a/\∃oT ts,h.get? T=some oT/\oT.data=.fields ts/\ts[3]?=some fl
inductive QM(h:Heap)(a:Addr)(c:Value)(T:Option Addr)(fl:Value):Prop
 |mk (oe:Obj) (vs:Array Value) (h0:h.get? a=some oe) (h1:oe.cls=c) (h2:oe.dict=none) (h3:oe.data=.fields vs) (h4:ExT h vs a fl T)
theorem Obj.N8(o:Obj)(f:Array Value->Array Value):(o.mapFields f).dict=o.dict:=by obtain⟨_,_,dt,_⟩:=o;cases dt<;>rfl
section
variable{M:Model}{A:Around}{E:Value->Shared->Prop}{s:Shared}
theorem K1
  (gZ:A.frames=some (env::outer)) (hl:s.heap.FunFrames base (env::outer)) (hf:env.frame=some L) (he:s.heap.get? e=some oe) (fZ:oe.dict=none) (hd:oe.data=.fields vs) (hsz:1<vs.size)
  (h:∀h' T,s.heap.objs.size<=T->(∀b o,s.heap.get? b=some o->b∉frs (env::outer)->b≠e->h'.get? b=some o)->(∀b o,s.heap.get? b=some o->b∈frs (env::outer)->∃sl,h'.get? b=some {o with slots:=sl}) ->
   QM h' e oe.cls (some T) (rawInt L)->Q () {s with heap:=h' }) :
  wpAny M A (do let a <- frameOf env;let pl <- entryPlaceOf L hadNext;let b <- EntryCells.newEntry head a .none (rawInt L) .none pl;setField (.ref e) 1 b) Q E s:=by
 have nX:e∉(env::outer).filterMap (·.frame):=λhm=>by obtain⟨_,o,ho,gE⟩:=hl.mem hm;rw[he]at ho;injection ho with ho;subst ho;exact gE vs hd
 refine tM (wpAny_frameOf_fun gZ hl hf λaH bq=>?_);refine tM (wpAny_entryPlaceOf λpl aI=>?_);unfold EntryCells.newEntry newFields;refine tM (wpAny_newObj_type ?_ (aI.sizeOk5 _ _ _ _ _));have gY:=(bq.2.1 e nX).trans he;have dZ:=tN {cls:=.type "traceback",dict:=none,data:=.fields ([head,.ref L,.none,rawInt L,.none]++(if pl.isEmpty then List.replicate 6 Value.none else pl)).toArray} gY;refine wpAny_setField dZ hd hsz ?_;have ie:=vS (t9 gY);have gX:=Obj.data_mapFields hd (·.setIfInBounds 1 (Value.ref aH.objs.size));have i9:=uX (Obj.mapFields (·.setIfInBounds 1 (Value.ref aH.objs.size))) dZ (Obj.isFreed_of_fields gX);have iW:=(uU (aH.push {cls:=.type "traceback",dict:=none,data:=.fields ([head,.ref L,.none,rawInt L,.none]++(if pl.isEmpty then List.replicate 6 Value.none else pl)).toArray})
  (Obj.mapFields (·.setIfInBounds 1 (Value.ref aH.objs.size))) (Ne.symm ie)).trans (tY aH rfl)
 have keep:∀b o,b≠e->aH.get? b=some o ->
   ((aH.push {cls:=.type "traceback",dict:=none,data:=.fields ([head,.ref L,.none,rawInt L,.none]++(if pl.isEmpty then List.replicate 6 Value.none else pl)).toArray}).update e (Obj.mapFields (·.setIfInBounds 1 (Value.ref aH.objs.size)))).get? b=some o:=λb o fE hb=>by
  rw[uU _ _ (Ne.symm fE)];exact tN _ hb
 refine h _ aH.objs.size (by rw[bq.1];exact uh _) (λb o hb hn fE=>keep b o fE ((bq.2.1 b hn).trans hb)) (λb o hb hn=>?_) ?_
 .obtain⟨sl,q⟩:=bq.2.2 b o hb;exact⟨sl,keep b _ (λz=>nX (by rw[<- z];exact hn)) q⟩
 .exact⟨_,_,i9,Obj.cls_mapFields _ _,(Obj.N8 _ _).trans fZ,gX,by simp[hsz],ie,_,_,iW,rfl,by first|(simp;done)|(rcases aI with rfl|⟨_,_,_,_,_,_,_,rfl⟩<;>simp)⟩
end
structure Oy(X:Cx):Prop where
 pn:X.pn=[]
 ex:X.ex=[]
 st:X.stack=X.env::X.outer
 fr:X.env.frame=some X.env.locals
theorem AZ.get(x:AZ P w H h a o):∃u,h.get? a=some u:=by cases o with|lst xs=>obtain⟨_,_,_,_,e⟩:=x;exact⟨_,e⟩|tup xs=>obtain⟨_,_,_,ob,e,_⟩:=x;exact⟨_,e⟩|l ah=>obtain⟨_,_,_,_,o,_,_,e,_⟩:=x;exact⟨_,e⟩|dT ah=>obtain⟨_,_,_,_,o,_,_,e,_⟩:=x;exact⟨_,e⟩|set S n=>obtain⟨o,_,_,_,e,_⟩:=x;exact⟨_,e⟩|ins C dx fs=>obtain⟨_,_,_,e,_⟩:=x;exact⟨_,e⟩|own y=>obtain⟨_,e⟩:=x;exact⟨_,e⟩|xd fs=>obtain⟨_,⟨_,_,_,e,_⟩,_⟩:=x;exact⟨_,e⟩|yT lo hi=>obtain⟨_,_,_,e⟩:=x;exact⟨_,e⟩|frz ob u=>obtain⟨e,_⟩:=x;exact⟨_,e⟩|zi ps=>exact⟨_,(show h.get? a=some _ from x)⟩|met f y=>exact⟨_,(show h.get? a=some _ from x)⟩|ext φ=>obtain⟨_,⟨_,e⟩,_⟩:=x;exact⟨_,e⟩
theorem HOk.none(x:HOk P w H h)(e:h.get? a=none):H a=none:=by cases q:H a with|none=>rfl|some u =>obtain⟨o,z⟩:=(x a u q).get;rw[e]at z;cases z
section
variable{X:Cx}{U:St}{H:Hp}{s:Shared}{h':Heap}{ch:List Addr}
theorem Inv.kp(I:Inv X aa U H s)(iz:X.pn=[])(k:∀b o,s.heap.get? b=some o->b∉frs X.stack->b∉ch->h'.get? b=some o)(sl:∀b o,s.heap.get? b=some o->b∈frs X.stack->∃sl,h'.get? b=some {o with slots:=sl})
  (nc:∀b∈ch,X.zZ.heap.get? b=none/\H b=none/\∃o vs,s.heap.get? b=some o/\o.data=.fields vs):Inv X [] U H {s with heap:=h' }:=by
 have any:=λb o e n=>by
  by_cases hb:b∈frs X.stack
  .exact sl b o e hb
  .exact⟨o.slots,k b o e hb n⟩
 have n0:∀b o,X.zZ.heap.get? b=some o->b∉ch:=λb o e z=>by have:=(nc b z).1;rw[e]at this;cases this
 have nf:∀b o,s.heap.get? b=some o->(∀vs,o.data≠.fields vs)->b∉ch:=λb o e hd z=>by obtain⟨_,_,o',vs,e',d⟩:=nc b z;rw[e]at e';cases e';exact hd vs d
 have c7:∀x c,X.env.cells.lookup x=some c->∀v,s.heap.IsCell c v->h'.IsCell c v:=λx c e v ⟨o,ho,hd⟩=>by obtain⟨l,q⟩:=any c o ho (nf c o ho λvs z=>by rw[hd]at z;cases z);exact⟨_,q,hd⟩
 refine⟨I.ok,I.os,I.bare,⟨λb o e n hb hx=>?_,λb o e n hb hx=>?_,I.base.free,λb o e hx=>?_,I.base.zL,I.base.zV,I.base.zN⟩,?_,λx c e=>?_,I.free,I.zX,λp hp=>?_,λb u e=>?_,I.len⟩
 .refine k b o (I.base.keep b o e n hb hx) (λz=>?_) (n0 b o e);rcases uk.mp (I.HU b z)with z|z
  .exact ur (uf (t9 e) I.ok.above) z
  .exact hb z
 .obtain⟨l,e1⟩:=I.base.slot b o e n hb hx;obtain⟨l',e2⟩:=any b _ e1 (n0 b o e);exact⟨l',e2⟩
 .obtain⟨o',e1⟩:=I.base.there b o e hx;obtain⟨l',e2⟩:=any b _ e1 (n0 b o e);exact⟨_,e2⟩
 .obtain⟨m,⟨o,es,ep,ho,hd,r⟩,hl⟩:=I.loc;obtain⟨l,q⟩:=any _ o ho (nf _ o ho λvs z=>by rw[hd]at z;cases z);refine⟨m,⟨_,es,ep,q,hd,r⟩,λi x v e1 e2 e3=>?_⟩;obtain⟨u,rv,z⟩:=hl i x v e1 e2 e3;refine⟨u,rv,?_⟩;rcases z with z|⟨kk,c,e,z⟩
  .exact .inl z
  .exact .inr ⟨kk,c,e,c7 x c e _ z⟩
 .obtain⟨v,z⟩:=I.cell x c e;exact⟨v,c7 x c e v z⟩
 .rw[iz]at hp;cases hp
 .have nn:∀c,(c=b\/H c=some (.own b))->H c≠none:=λc hc z=>by
   rcases hc with rfl|hc
   .rw[z]at e;cases e
   .rw[z]at hc;cases hc
  exact(I.z9 b u e).MB (λc v hc q=>k c v q (λz=>nn c hc (I.Js c z)) λz=>nn c hc (nc c z).2.1) (λ_ q=>q) λ_ _ q=>q
theorem Inv.new(I:Inv X aa U H s)(D:X.ex=[])(e:s.heap.get? b=none):X.zZ.heap.get? b=none/\H b=none:=by refine⟨?_,I.z9.none e⟩;cases q:X.zZ.heap.get? b with|none=>rfl|some o =>obtain⟨o',z⟩:=I.base.there b o q (by rw[D];simp);rw[e]at z;cases z
end
section
variable{X:Cx}{U:St}{H:Hp}{s:Shared}{a:Addr}{c fl:Value}{T:Option Addr}{M:Model}{A:Around}{E:Value->Shared->Prop}{Q:Unit->Shared->Prop}
def YL(X:Cx)(H:Hp)(a:Addr)(T:Option Addr):Prop:=∀b,b=a\/T=some b->X.zZ.heap.get? b=none/\H b=none
theorem QM.there(e:QM s.heap a c T fl):∀b,b=a\/T=some b->∃o vs,s.heap.get? b=some o/\o.data=.fields vs:=by
 obtain⟨oe,vs,h1,h2,h3,h4,h5⟩:=e;intro b hb;rcases hb with rfl|rfl
 .exact⟨oe,vs,h1,h4⟩
 .obtain⟨_,_,oT,ts,q1,q2,_⟩:=h5;exact⟨oT,ts,q1,q2⟩
theorem JG(D:Oy X)(gZ:A.frames=some X.stack)(I:Inv X [] U H s)(e:QM s.heap a c T fl)(mW:fl=.none\/fl=rawInt X.env.locals)(nw:YL X H a T)
  (h:∀h' T',QM h' a c (some T') (rawInt X.env.locals)->YL X H a (some T')->Inv X [] U H {s with heap:=h' }->Q () {s with heap:=h' }):wpAny M A (noteFrame (.ref a) X.env) Q E s:=by
 have hl:=I.stack;rw[D.st]at gZ hl;obtain⟨oe,vs,he,cf,fZ,hd,ht⟩:=id e;have th:=e.there;subst cf;unfold noteFrame;simp only[D.fr];cases T with
 |none =>
  refine tM (uw he hd ht ?_);rw[if_neg (by decide)];refine K1 gZ hl D.fr he fZ hd (vv.mp ht).1 λh' T' q1 q2 q3 q4=>?_
  have nT:=I.new D.ex (Heap.get?_none_of_le q1);refine h h' T' q4 (λb hb=>hb.elim (λz=>nw b (.inl z)) λz=>by cases z;exact nT) (I.kp (ch:=[a]) D.pn (λb o x y z=>q2 b o x (by rw[<- D.st];exact y) λw=>z (by simp[w])) (λb o x y=>q3 b o x (by rw[<- D.st];exact y)) λb hb=>?_);rw[ub.mp hb];exact⟨(nw a (.inl rfl)).1,(nw a (.inl rfl)).2,oe,vs,he,hd⟩
 |some T =>
  obtain⟨h1,ie,oT,ts,hT,gw,h3⟩:=ht;refine tM (uw he hd h1 ?_);rw[if_pos (show(Value.ref T !=Value.none)=true from by simp)];refine tM (uw hT gw h3 ?_);rcases mW with rfl|rfl
  .rw[if_neg (show ¬((Value.none==rawInt X.env.locals)=true)from by simp[rawInt])];refine tM (wpAny_setField hT gw (vv.mp h3).1 ?_);have other:∀b,b≠T->(s.heap.update T (Obj.mapFields (·.setIfInBounds 3 Value.none))).get? b=s.heap.get? b:=λb hb=>uU _ _ (Ne.symm hb)
   have nr:∀b o,s.heap.get? b=some o->(∀vs,o.data≠.fields vs)->b≠T:=λb o hb gE q=>by rw[q,hT]at hb;injection hb with hb;subst hb;exact gE ts gw
   have rM:T∉frs X.stack:=λhm=>by obtain⟨_,o,ho,gE⟩:=I.stack.mem hm;rw[hT]at ho;injection ho with ho;subst ho;exact gE ts gw
   refine K1 gZ (hl.of_keeps λb o hb gE=>⟨o,(other b (nr b o hb gE)).trans hb,rfl⟩) D.fr ((other a (Ne.symm ie)).trans he) fZ hd (vv.mp h1).1 λh' T' q1 q2 q3 q4=>?_
   have sz:s.heap.objs.size<=T':=by have:(s.heap.update T (Obj.mapFields (·.setIfInBounds 3 Value.none))).objs.size=s.heap.objs.size:=Heap.size_after_update ..;rw[<- this];exact q1
   have nT:=I.new D.ex (Heap.get?_none_of_le sz);refine h h' T' q4 (λb hb=>hb.elim (λz=>nw b (.inl z)) λz=>by cases z;exact nT) (I.kp (ch:=[a,T]) D.pn (λb o x y z=>?_) (λb o x y=>?_) λb hb=>?_)
   .exact q2 b o ((other b λw=>z (by simp[w])).trans x) (by rw[<- D.st];exact y) λw=>z (by simp[w])
   .exact q3 b o ((other b λw=>rM (by rw[<- w];exact y)).trans x) (by rw[<- D.st];exact y)
   .have kK:b=a\/some T=some b:=by
     rcases uk.mp hb with z|z
     .exact .inl z
     .exact .inr (by rw[ub.mp z])
    exact⟨(nw b kK).1,(nw b kK).2,th b kK⟩
  .rw[if_pos (show(rawInt X.env.locals==rawInt X.env.locals)=true from by simp)];exact tS (h s.heap T e nw I)
theorem DX(iz:X.pn=[])(I:Inv X [] U H s)(e:QM s.heap a c T fl)(nw:YL X H a T)
  (h:∀h',QM h' a c T (f.elim .none λf=>rawInt f)->Inv X [] U H {s with heap:=h' }->Q () {s with heap:=h' }):wpAny M A (setFlight (.ref a) f) Q E s:=by
 obtain⟨oe,vs,he,cf,fZ,hd,ht⟩:=id e;have th:=e.there;unfold setFlight;cases T with
 |none =>refine tM (uw he hd ht ?_);rw[if_neg (by decide)];exact tS (h s.heap ⟨oe,vs,he,cf,fZ,hd,ht⟩ I)
 |some T =>
  obtain⟨h1,ie,oT,ts,hT,gw,h3⟩:=ht;have hsz:=(vv.mp h3).1;refine tM (uw he hd h1 ?_);rw[if_pos (show(Value.ref T !=Value.none)=true from by simp)];have other:∀b,b≠T->(s.heap.update T (Obj.mapFields (·.setIfInBounds 3 (f.elim Value.none λf=>rawInt f)))).get? b=s.heap.get? b:=λb hb=>uU _ _ (Ne.symm hb)
  refine wpAny_setField hT gw hsz (h _ ⟨oe,vs,(other a (Ne.symm ie)).trans he,cf,fZ,hd,h1,ie,_,_,uX _ hT (Obj.isFreed_of_fields (Obj.data_mapFields gw _)),Obj.data_mapFields gw _,by simp[hsz]⟩ (I.kp (ch:=[T]) iz (λb o x _ z=>(other b λw=>z (by simp[w])).trans x) (λb o x y=>?_) λb hb=>?_))
  .refine⟨o.slots,(other b λw=>?_).trans x⟩;obtain⟨_,o',bN,gE⟩:=I.stack.mem y;rw[w,hT]at bN;injection bN with bN;subst bN;exact gE ts gw
  .rw[ub.mp hb];exact⟨(nw T (.inr rfl)).1,(nw T (.inr rfl)).2,th T (.inr rfl)⟩
end
abbrev XE:=Value->St->Hp->Prop
inductive XW(X:Cx)(Z:XE)(e:Value)(s:Shared):Prop
 |mk (a:Addr) (c:Value) (T:Option Addr) (fl:Value) (U:St) (H:Hp) (h0:e=.ref a) (h1:Inv X [] U H s) (h2:QM s.heap a c T fl) (h3:fl=.none\/fl=rawInt X.env.locals) (h4:YL X H a T) (h5:Z c U H)
inductive CX1(P:Program)(w:World)(outer:List Env)(H:Hp)(s:Shared)(E:XK)(e:Value)(s':Shared):Prop
 |mk (a:Addr) (c:Value) (T:Option Addr) (H':Hp) (h0:e=.ref a) (h1:s'.os=s.os) (h2:AllBare s'.gens) (h3:Un (frs outer) [] H H' s.heap s'.heap) (h4:HOk P w H' s'.heap) (h5:QM s'.heap a c T .none) (h6:∀b,b=a\/T=some b->s.heap.get? b=none/\H' b=none) (h7:E c none H')
section
variable{X:Cx}{Z Z':XE}{e:Value}{s s':Shared}{aa:List (Addr×Obj)}{U:St}{H:Hp}
theorem XW.imp(h:XW X Z e s)(k:∀c U H,Z c U H->Z' c U H):XW X Z' e s :=
 let⟨a,c,T,fl,U,H,q1,q2,q3,q4,q5,q6⟩:=h
 ⟨a,c,T,fl,U,H,q1,q2,q3,q4,q5,k _ _ _ q6⟩
theorem XW.E3(h:XW (X.E3 E) Z e s):XW X Z e s :=
 let⟨a,c,T,fl,U,H,q1,q2,q3,q4,q5,q6⟩:=h
 ⟨a,c,T,fl,U,H,q1,q2.Di,q3,q4,q5,q6⟩
theorem CX1.xw(D:X.ex=[])(I:Inv X aa U H s)(h:CX1 X.prog X.w X.stack H s (λc _ H'=>Z c U H') e s'):XW X Z e s':=by
 obtain⟨a,c,T,H',rfl,q1,q2,q3,q4,q5,q6,q7⟩:=h;have I':=I.Yv q1 q3 q4 q2 λb z=>absurd z (by simp)
 exact⟨a,c,T,.none,U,H',rfl,I'.Hf λ_ z=>absurd z (by simp),q5,.inl rfl,λb hb=>⟨(I.new D (q6 b hb).1).1,(q6 b hb).2⟩,q7⟩
theorem XW.own(D:Oy X):PassesOwn (model X.prog X.w) X.A X.env (XW X Z):=by
 intro e s' h;obtain⟨a,c,T,fl,U,H,rfl,I,q3,q4,q5,q6⟩:=h;refine JG D I.ok.frames I q3 q4 q5 λh1 T1 e1 n1 I1=>?_
 obtain⟨oe,vs,he,hc,fZ,hd,ht⟩:=id e1;refine tM (uw he hd ht.1 ?_);rw[if_neg (show ¬((Value.ref T1==Value.none)=true)from by simp)];rw[D.fr];exact DX D.pn I1 e1 n1 λh2 e2 I2=>⟨a,c,some T1,rawInt X.env.locals,U,H,rfl,I2,e2,.inr rfl,n1,q6⟩
end
section
variable{P:Program}{w:World}{K:Fg}{mg:Str->Option Value}{base:Heap}{N:List Str}{qual:Str}{scope:Scope}{f:Addr}{cd:Value}{A:Around}{outer:List Env}{s:Shared}{H:Hp}{E:XK}
theorem Yl:Oy (L7 (CX1 P w) P w K mg base N qual scope f cd A outer s H E):=⟨rfl,rfl,rfl,rfl⟩
theorem YQ(h:XW (L7 (CX1 P w) P w K mg base N qual scope f cd A outer s H E) (λc _ H'=>E c none H') e s'):(L7 (CX1 P w) P w K mg base N qual scope f cd A outer s H E).xe e s':=by
 obtain⟨a,c,T,fl,U,H',rfl,I,q3,q4,q5,q6⟩:=h;show wpAny _ _ (leaving (L7 (CX1 P w) P w K mg base N qual scope f cd A outer s H E).env (.ref a)) _ _ s';unfold leaving;refine tM (JG Yl I.ok.frames I q3 q4 q5 λh1 T1 e1 n1 I1=>?_);refine DX rfl I1 e1 n1 λh2 e2 I2=>?_
 exact⟨a,c,some T1,H',rfl,I2.os,I2.bare,I2.base,I2.z9,e2,n1,q6⟩
end
def Lk(X:Cx)(Z:XE):Prop:=∀(aa:List (Addr×Obj))(U:St)(H:Hp)(s:Shared)(e:Value)(s':Shared),Inv X aa U H s->CX1 X.prog X.w X.stack H s (λc _ H'=>Z c U H') e s'->X.xe e s'
theorem Lk.of(D:X.ex=[])(k:∀e s,XW X Z e s->X.xe e s):Lk X Z:=λ_ _ _ _ _ _ I h=>k _ _ (CX1.xw D I h)
section
variable{X:Cx}{k:Nat}{f C:Addr}{fd:FuncData}{ps:List Str}{sp:Sp}{Z:XE}{x m:Str}{p pos aB:Pos}{e o:Expr}{es:List Expr}{ta:TE}{t:TA}
def Vu(sp:Sp)(Z:XE)(t:TA):TE:=λU H Q=>t U H λvs H1=>sp vs H1 Q λc _ H'=>Z c U H'
theorem MG(F:CS X.prog X.w X.K X.mg X.base (CX1 X.prog X.w) k f fd ps sp)(hr:C7 k X.A)(hb:Binds X.K fd ps [])(hx:Lk X Z)
  (I:Inv X aa U H s) (r:Vals vs us) (h:sp vs H Q λc _ H'=>Z c U H'):wpAny (model X.prog X.w) X.A (call (.ref f) us) (EP X aa U Q) X.xe s:=by
 have hl:us.length=ps.length:=by rw[<- r.length];exact F.len _ _ _ _ h
 have b:=hb s us I.kIn (by rw[uK];exact hl);rw[uK]at b;refine wpAny_call (codeAny_mono (F.run X.A X.stack s H ⟨us,[]⟩ us vs Q _ hr I.Ja2 b r h) λr s' hq=>?_);cases r with|error e=>exact hx aa U H s e s' I hq|ok fl =>cases fl with|ret u=>exact I.after hq|next=>exact False.elim hq|brk=>exact False.elim hq|cont=>exact False.elim hq
theorem Wm(G:FnAt X.prog X.w X.K X.mg X.base (CX1 X.prog X.w) x k ps sp)(hr:C7 k X.A)(hx:Lk X Z)(ha:PA X (e::es) t)(hg:Gl X x:=by rfl)(aQ:(x==("__debug__":Str))=false:=by decide)
  (he:starEach (e::es) X.env=(false,eval e X.env)::starEach es X.env:=by rfl) (aI:(backTo pos (starEach es X.env)).any (·.1)=false:=by rfl):PE X (.Call (.Name x p) (e::es) [] pos) (Vu sp Z t):=by
 obtain⟨f,fd,F,hm,hk,hb⟩:=G.ex;intro aa s U H Q I h;refine wpAny_Call_Name_kw (Ee I hg hm ?_ aQ);refine callWith_K I.ok.mod.y0 hk (thn (ha pos aa s U H _ I h) λus s1 ⟨vs,H1,I1,r,q⟩=>⟨I1.kIn,?_⟩) he aI;exact MG F hr hb hx I1 r q
end
noncomputable def UU:List Value:=[.type "ValueError",.type "Exception",.type "BaseException",.type "object"]
structure ExC(K:Fg)(mg:Str->Option Value)(x:Str)(C:Addr):Prop where
 at_:mg x=some (.ref C)
 ok:excIn K C UU "ValueError.__new__"=true
def Vo(C:Addr)(Z:XE)(t:TA):TS:=λ_ U H=>t U H λvs H1=>vs.length<=1000/\Z (.ref C) U H1
theorem ExC.own{K:Fg}(c:ExC K mg x C)(X:K.In h):OwnCls x C UU "ValueError.__new__" mg h:=by
 refine⟨c.at_,?_⟩;have q:=c.ok;unfold excIn at q;split at q
 .rename_i dd cd sl ho;split at q
  .rename_i C' bm k0 k1 k2 k3 n k5 hm hs;simp only[uq,beq_iff_eq,Bool.not_eq_true']at q;obtain⟨⟨⟨⟨⟨rfl,rfl⟩,i6⟩,ht⟩,z9⟩,jX⟩:=q;obtain⟨nm,bs,mro,ns,qn,hd,sn,sub,ab,col,del⟩:=cd;dsimp only at hm i6 z9 jX;subst hm i6;have qX:sl=#[k0,k1,k2,k3,some (.builtin "ValueError.__new__"),k5]:=by obtain⟨l⟩:=sl;simp only at hs;rw[hs]
   subst qX;exact⟨bm,ns,nm,qn,bs,hd,sn,sub,ab,col,dd,k0,k1,k2,k3,k5,_,X _ _ ho,.of_isNs (PySem.W.isNs_of_in X z9),PySem.W.nsMap_none_of_in X z9 jX,PySem.W.tail_of_in X ht⟩
  .cases q
 .cases q
section
variable{X:Cx}{C:Addr}{Z:XE}{x:Str}{np aA pos:Pos}{e:Expr}{es:List Expr}{t:TA}
theorem Te(D:X.ex=[])(I:Inv X aa U H s)(hm:Heap.MadeExcOf s.heap h' a (.ref C) us)(q:Z (.ref C) U H):XW X Z (.ref a) {s with heap:=h' }:=by
 obtain⟨t,ht,_,_⟩:=hm.there;refine⟨a,.ref C,none,.none,U,H,rfl,(I.kept hm.keeps).Hf λ_ z=>absurd z (by simp),⟨_,_,ht,rfl,rfl,rfl,rfl⟩,.inl rfl,λb hb=>?_,q⟩;rcases hb with rfl|hb
 .exact I.new D hm.new
 .cases hb
theorem EN(c:ExC X.K X.mg x C)(D:X.ex=[])(hc:X.calm=true)(hx:∀e s,XW X Z e s->X.xe e s)(ha:PA X (e::es) t)(hg:Gl X x:=by rfl)(aQ:(x==("__debug__":Str))=false:=by decide)
  (he:starEach (e::es) X.env=(false,eval e X.env)::starEach es X.env:=by rfl) (aI:(backTo aA (starEach es X.env)).any (·.1)=false:=by rfl) :
  PS X (.Raise (some (.Call (.Name x np) (e::es) [] aA)) none pos) (Vo C Z t):=by
 intro aa s U H D' I h;obtain⟨tl,N,nm,q,bs,hdct,sn,sub,ab,col,dd,k0,k1,k2,k3,k5,mN,hC,hN,jX,T⟩:=(c.own I.ok.mod.y0).obj;refine wpAny_Raise_call_subT (nm:=nm) (q:=q) (N:=N) (bs:=bs) (bm:=tl) (hdct:=hdct) (sn:=sn) (sub:=sub) (ab:=ab) (col:=col) (dd:=dd) (k0:=k0) (k1:=k1) (k2:=k2) (k3:=k3) (k5:=k5)
  PySem.F.excBase_ValueError (mN:=mN) (T.hasType PySem.F.excBase_ValueError.hasBase) (I.ok.hd hc) (by rw[he];show(false||(backTo aA (starEach es X.env)).any (·.1))=false;rw[aI];rfl) jX (Ee I hg c.at_ ⟨rfl,?_⟩ aQ)
 have h1:=ha aA aa s U H _ I h;rw[he]at h1 ⊢;refine Calls.evalArgs_plain (thn h1 λus s2 ⟨vs,H1,I1,r,hl,hz⟩=>⟨rfl,?_,I1.bk _ _ hC,hN.keeps I1.bk,T.keeps I1.bk,λh' a hm=>hx _ _ (Te D I1 hm hz)⟩);show us.length<=sizeLine;rw[<- r.length,sizeLine_eq]
 lia
end
noncomputable def exO(c:Value)(a:Addr):HO:=.ext λh=>∃o vs,h.get? a=some o/\o.cls=c/\o.dict=none/\o.data=.fields vs
abbrev Cx.hand(X:Cx)(a:Addr):Cx:={X with A:=X.A.mark (some (.ref a)),calm:=false,xe:=λ_ _=>False}
section
variable{X:Cx}{aa:List (Addr×Obj)}{U:St}{H:Hp}{s:Shared}{a:Addr}
theorem Cx.Ok.hand(ok:X.Ok):(X.hand a).Ok :=
 ⟨ok.mod,ok.kind,ok.glob,ok.blt,ok.above,ok.inj,ok.has,ok.zh,(λz=>nomatch z),ok.frames,ok.yZ,ok.yW,ok.bs,ok.zA,ok.zx,ok.zy,ok.KR,ok.zo⟩
theorem Inv.hand(I:Inv X aa U H s):Inv (X.hand a) aa U H s:=⟨I.ok.hand,I.os,I.bare,I.base,I.loc,I.cell,I.free,I.zX,I.pin,I.z9,I.len⟩
theorem Inv.Gs(ok:X.Ok)(I:Inv (X.hand a) aa U H s):Inv X aa U H s:=⟨ok,I.os,I.bare,I.base,I.loc,I.cell,I.free,I.zX,I.pin,I.z9,I.len⟩
theorem Inv.ZH(I:Inv X [] U H s)(iz:X.pn=[])(h0:X.zZ.heap.get? a=none)(hn:H a=none)(hf:∃u vs,s.heap.get? a=some u/\u.data=.fields vs)(new:AZ X.prog X.w (upd H a o) s.heap a o):Inv X [] U (upd H a o) s:=by
 have rK:∀b u,X.zZ.heap.get? b=some u->b≠a:=λb u e z=>by rw[z,h0]at e;cases e
 obtain⟨u,vs,hu,hd⟩:=hf;refine⟨I.ok,I.os,I.bare,⟨I.base.keep,I.base.slot,λb o e n hx=>?_,I.base.there,λb xs e=>?_,λb o u e=>?_,λb ps e=>?_⟩,I.loc,I.cell,?_,λx c e=>?_,λp hp=>?_,λb u e=>?_,I.len⟩
 .rw[Aj (rK b o e)];exact I.base.free b o e n hx
 .have q:=I.base.zL b xs e;rw[Aj (A3 q hn)];exact q
 .have q:=I.base.zV b o u e;rw[Aj (A3 q hn)];exact q
 .obtain⟨more,q⟩:=I.base.zN b ps e;exact⟨more,by rw[Aj (A3 q hn)];exact q⟩
 .rw[Aj]
  .exact I.free
  .intro z;obtain⟨m,⟨o',_,_,bN,fG,_⟩,_⟩:=I.loc;rw[z,hu]at bN;cases bN;rw[hd]at fG;cases fG
 .rw[Aj]
  .exact I.zX x c e
  .intro z;obtain⟨v,o',bN,fG⟩:=I.cell x c e;rw[z,hu]at bN;cases bN;rw[hd]at fG;cases fG
 .rw[iz]at hp;cases hp
 .by_cases hb:b=a
  .subst hb;rw[Ak]at e;cases e;exact new
  .rw[Aj hb]at e;exact(I.z9 b u e).MB (λ_ _ _ q=>q) (λc q=>by rw[Aj (A3 q hn)];exact q) λc xs q=>by rw[Aj (A3 q hn)];exact q
theorem Hu(I:Inv X [] U H s)(iz:X.pn=[])(hN:X.N.Nodup)(hi:X.N[i]?=some n)(hl:X.env.scope.names.lookup n=some .local)
  (h:∀s',Inv X [] (U.set i none) H s'->Q () s'):wpAny M A (do bindName X.env n .none;unbindBehindTheSuite X.env n pos) Q E s:=by
 have cf:(X.env.scope.kind==.class||(X.env.scope.kind==.module&&X.env.locals !=X.env.globals))=false:=by rw[I.ok.kind];rfl
 have hk:X.env.kindOf n=some .local:=hl;refine tM (wpAny_bindName (EK I hN hi (.inl hl) (v:=V.o) rfl (λs1 I1=>?_) (.inr hl)));unfold unbindBehindTheSuite;refine wpAny_onRaise ?_;unfold unbindName;refine tM (wpAny_point (tM ?_));unfold deleteName;simp only[hk,cf];rw[if_neg (by decide)];obtain⟨m,hn,jW⟩:=id I1.loc;have fH:i<U.length:=by rw[I.len];exact(tX.mp hi).1
 have qK:(m n).isSome=true:=by
  obtain⟨u,_,z⟩:=jW i n V.o hi (by rw[uQ fH]) (.inl hl);rcases z with⟨_,z⟩|⟨z,_⟩
  .rw[z];rfl
  .rw[hk]at z;rcases z with z|z<;>cases z
 refine tM (wpAny_nsDel_keeps hn λh2 v gf aY=>?_);simp only[qK,Bool.not_true,uJ,if_false];refine tS (wpAny_point ?_);have cne:=I1.cne;have iJ:∀b o,X.zZ.heap.get? b=some o->b≠X.env.locals:=λb o e=>ur (uf (t9 e) I.ok.above)
 have key:Inv X [] (U.set i none) H {s1 with heap:=h2}:=by
  refine⟨I1.ok,I1.os,I1.bare,⟨λb o e n hb hx=>(aY.2 b (iJ b o e)).trans (I1.base.keep b o e n hb hx),λb o e n hb hx=>?_,I1.base.free,λb o e hx=>?_,I1.base.zL,I1.base.zV,I1.base.zN⟩,⟨_,gf,λj y v' e1 e2 e3=>?_⟩,λy c e=>?_,I1.free,I1.zX,λp hp=>?_,λb ob e=>?_,by simpa using I1.len⟩
  .obtain⟨sl,e1⟩:=I1.base.slot b o e n hb hx;exact⟨sl,(aY.2 b (iJ b o e)).trans e1⟩
  .obtain⟨o',e1⟩:=I1.base.there b o e hx;exact⟨o',(aY.2 b (iJ b o e)).trans e1⟩
  .by_cases hj:j=i
   .subst hj;rw[uQ fH]at e2;cases e2
   .rw[uT (Ne.symm hj)]at e2;obtain⟨u',r',q⟩:=jW j y v' e1 (by rw[uT (Ne.symm hj)];exact e2) e3;refine⟨u',r',?_⟩;rcases q with⟨k,e⟩|⟨k,c,e,z⟩
    .refine .inl ⟨k,?_⟩;have:y≠n:=λe=>hj (Ho hN e1 (e▸hi))
     simp[this,e]
    .exact .inr ⟨k,c,e,z.sameBut aY (cne y c e)⟩
  .obtain⟨w',z⟩:=I1.cell y c e;exact⟨w',z.sameBut aY (cne y c e)⟩
  .rw[iz]at hp;cases hp
  .refine(I1.z9 b ob e).MB (λc w' hc q=>(aY.2 c ?_).trans q) (λ_ q=>q) λ_ _ q=>q
   rintro rfl
   rcases hc with rfl|hc
   .rw[I1.free]at e;cases e
   .rw[I1.free]at hc;cases hc
 first
  |exact h _ key
  |exact h _ (key.tok _)
end
def PS0(X:Cx)(st:Stmt)(t:TS):Prop:=∀(s:Shared)(U:St)(H:Hp)(D:Ends),Inv X [] U H s->t D U H->wpAny (model X.prog X.w) X.A (exec st X.env) (SP X [] D) X.xe s
def QK(X:Cx)(st:List Stmt)(t:TS):Prop:=∀(s:Shared)(U:St)(H:Hp)(D:Ends),Inv X [] U H s->t D U H->wpAny (model X.prog X.w) X.A (execs st X.env) (SP X [] D) X.xe s
section
variable{X:Cx}{st:Stmt}{rest:List Stmt}{t u:TS}
theorem PS.zero(h:PS X st t):PS0 X st t:=λs U H D I q=>h [] s U H D I q
theorem PSs.zero(h:PSs X rest t):QK X rest t:=λs U H D I q=>h [] s U H D I q
theorem MM(h1:PS0 X st t)(h2:QK X rest u):QK X (st::rest) (Jbh t u):=by intro s U H D I h;refine wpAny_execs_cons (thn (h1 s U H {D with nx:=u D} I h) λf s1 q=>?_);cases f with|next =>obtain⟨au,H',I',q⟩:=q;exact h2 s1 au H' D I' q|ret v=>exact q|brk=>exact q|cont=>exact q
theorem QK.unw(h:QK (X.E3 E) rest t)(k:∀e s,E e s->X.xe e s):QK X rest t:=λs U H D I hw =>wpAny_mono (h s U H D (I.E3 _) hw) (λ_ _ q=>q.Di) λe s z=>k e s z
end
theorem XA{K:Fg}{dV kV cU pm cdv ct oc:Value}{an od:Option Addr}
  {hV:Array (Option Value)} {N ps:List Str} {sp:Sp} (lk:K.lookup f=some ⟨oc,od,.func (fnOf name qual params body scope dV kV cU pm an cdv ct),hV⟩) (eG:codeIn K cdv qual=true) (S:HL N ps scope)
  (len:∀vs H Q E,sp vs H Q E->vs.length=ps.length)
  (fF:∀(A:Around)(outer:List Env)(s:Shared)(H:Hp)(vs:List V)(Q:VK)(E:XK),C7 k (A.deeper (envOfC qual scope s.heap.objs.size f cdv))->sp vs H Q E ->
   ∃t,QK (L7 CX P w K mg base N qual scope f cdv A outer s H E) body t/\t {nx:=λ_ H'=>Q .o H',rt:=Q} (start N vs) H) :
  CS P w K mg base CX (k+1) f (fnOf name qual params body scope dV kV cU pm an cdv ct) ps sp:=by
 refine⟨len,λA outer s H args us vs Q E hr e0 hb r gh=>?_⟩;have hl:=len _ _ _ _ gh;have KX:K.In s.heap:=e0.mod.y0.keeps λb o e=>(e0.bs b o e).1
 have lim:s.heap.NoLimit:=e0.mod.nolimit.keeps λb o e=>(e0.bs b o e).1
 have jb:∀y∈ps.zip us,scope.names.lookup y.1=some .local\/(scope.names.lookup y.1=some .cell/\((cellsFrom (s.heap.objs.size+1) scope.names []).lookup y.1).isSome=true):=λ⟨n,v⟩ hy=>by
  rcases S.par n (vG hy).1 with q|q
  .exact .inl q
  .exact .inr ⟨q,PySem.W.cellsFrom_some _ _ _ (.inl q)⟩
 refine codeAny_call_function hr.depth (KX _ _ lk) rfl S.co S.gen rfl (PySem.W.codeRec_of KX eG) (hb _ _ _ _ ?_);refine wpAny_newFunctionEnv_cells S.kind jb λenv he s1 x=>?_
 subst he;refine⟨lim.keeps x.toInCall.keep,codeAny_func ?_⟩;obtain⟨t,ht,hq⟩:=fF A outer s H vs Q E (hr.deeper _) gh;have I:Inv (L7 CX P w K mg base N qual scope f cdv A outer s H E) [] (start N vs) H s1:=NA S hr.hd e0 hl r x;refine wpAny_mono (ht s1 (start N vs) H _ I hq) (λfl s' hs=>?_) λe s' hs=>hs
 have aT:∀{au:St}{H':Hp}{v:V}{u:Value},Inv (L7 CX P w K mg base N qual scope f cdv A outer s H E) [] au H' s'->RelV v u->Q v H'->CE outer P w H s Q u s' :=
  λ{au H' v u} J rv q=>⟨v,H',J.os,J.bare,J.base,J.z9,rv,q⟩
 cases fl with|ret u =>obtain⟨v,au,H',J,rv,q⟩:=hs;exact aT J rv q|next =>obtain⟨au,H',J,q⟩:=hs;exact aT (v:=V.o) (u:=Value.none) J rfl q|brk =>obtain⟨_,_,_,q⟩:=hs;exact False.elim q|cont =>obtain⟨_,_,_,q⟩:=hs;exact False.elim q
theorem Fun.ok0{K:Fg}{mg:Str->Option Value}{base:Heap}{N:List Str}{qual:Str}{f:Addr}{x:Str}{st:Stmt}{fd:FuncData}{ps:List Str}{k:Nat}{sp:Sp}(F:Fun K x qual st f fd)(S:HL N ps (Be st))(len:∀vs H Q E,sp vs H Q E->vs.length=ps.length)
  (fF:∀(cdv:Value)(A:Around)(outer:List Env)(s:Shared)(H:Hp)(vs:List V)(Q:VK)(E:XK),C7 k (A.deeper (envOfC qual (Be st) s.heap.objs.size f cdv))->sp vs H Q E ->
   ∃t,QK ((L7 (CX1 P w) P w K mg base N qual (Be st) f cdv A outer s H E).E3 (XW (L7 (CX1 P w) P w K mg base N qual (Be st) f cdv A outer s H E) λc _ H'=>E c none H')) (Dx st) t/\t {nx:=λ_ H'=>Q .o H',rt:=Q} (start N vs) H) :
  CS P w K mg base (CX1 P w) (k+1) f fd ps sp:=by
 obtain⟨oc,od,kV,cU,pm,an,cdv,ct,hV,rfl,lk,eG⟩:=F.ex;refine XA lk eG S len λA outer s H vs Q E hr gh=>?_
 obtain⟨t,h,q⟩:=fF cdv A outer s H vs Q E hr gh;exact⟨t,h.unw λ_ _=>YQ,q⟩
noncomputable def RI(i:Nat)(D:Ends):Ends:={nx:=λU H=>D.nx (U.set i none) H,rt:=D.rt,bk:=λU H=>D.bk (U.set i none) H,ct:=λU H=>D.ct (U.set i none) H}
def ZTry(K:Fg)(C:Addr)(i:Nat)(th:TS)(D:Ends):XE:=λc U H=>exmOne K c (.ref C)=some true/\∀a,H a=none->th (RI i D) (U.set i (some (.ref a))) (upd H a (exO c a))
section
variable{X:Cx}{C:Addr}{x n:Str}{i:Nat}{np pos eN:Pos}{body bD:List Stmt}{cK:Stmt}{tb:Ends->TS}{th:TS}
theorem SP.Gs(ok:X.Ok)(h:SP (X.hand a) [] D f s'):SP X [] D f s':=by cases f with|next=>obtain⟨au,H',I,q⟩:=h;exact⟨au,H',I.Gs ok,q⟩|brk=>obtain⟨au,H',I,q⟩:=h;exact⟨au,H',I.Gs ok,q⟩|cont=>obtain⟨au,H',I,q⟩:=h;exact⟨au,H',I.Gs ok,q⟩|ret u=>obtain⟨v,au,H',I,r,q⟩:=h;exact⟨v,au,H',I.Gs ok,r,q⟩
theorem Ss(D:Oy X)(hC:X.mg x=some (.ref C))(hN:X.N.Nodup)(hb:∀D,PSs (X.E3 (XW X (ZTry X.K C i th D))) body (tb D))(hs:∀a,PSs (X.hand a) (cK::bD) th)(hi:X.N[i]?=some n:=by rfl)(hl:X.env.scope.names.lookup n=some .local:=by rfl)
  (hg:Gl X x:=by rfl) (aQ:(x==("__debug__":Str))=false:=by decide) :
  PS0 X (.Try body [.ExceptHandler (some (.Name x np)) (some n) (cK::bD) eN] [] [] pos) (λD=>tb D D):=by
 intro s U H D' I h;refine wpAny_Try_except (wpAny_mono (hb D' [] s U H D' (I.E3 _) h) (λf s1 q=>?_) λe s1 q=>?_)
 .have q:=q.Di;cases f with|next=>exact wpAny_execs_nil q|ret v=>exact q|brk=>exact q|cont=>exact q
 .obtain⟨a,c,T,fl,iK,H1,rfl,I1,e1,f1,n1,z1,z2⟩:=q;refine JG D I1.ok.frames I1 e1 f1 n1 λh2 T2 e2 n2 I2=>?_
  refine DX D.pn I2 e2 n2 λh3 e3 I3=>?_
  refine wpAny_handleBy_cons (codeAny_handlers_test (Ee I3.hand hg hC ?_ aQ)) (by intro q;cases q);obtain⟨oe,vs,he,cf,fZ,hd,ht⟩:=id e3;have LT:Looks (model X.prog X.w) h3 (typeOf (.ref a)) c:=cf▸(PySem.W.Looks.ld he).andThen .now;refine PySem.W.Looks.here (PySem.W.exm_one I3.kIn LT z1) ?_;refine codeAny_handlers_suite_as ?_;refine DX D.pn I3 e3 n2 λh4 e4 I4=>?_
  obtain⟨lM,og,kQ,iZ,kO,mU,sX⟩:=id e4;have kZ:=n2 a (.inl rfl);have I5:Inv X [] iK (upd H1 a (exO c a)) {s1 with heap:=h4}:=I4.ZH D.pn kZ.1 kZ.2 ⟨lM,og,kQ,mU⟩ ⟨⟨lM,og,kQ,iZ,kO,mU⟩,⟨lM,kQ⟩,λg1 g2 ⟨o,v,q1,q2⟩ k=>⟨o,v,k o q1,q2⟩⟩;refine EK I5 hN hi (.inl hl) (v:=V.ref a) rfl (λs6 I6=>?_) (.inr hl);refine wpAny_mono (hs a [] s6 _ _ (RI i D') I6.hand (z2 a kZ.2)) (λf s7 q=>?_) λ_ _ z=>False.elim z
  have q:=q.Gs I.ok;cases f with
  |next =>obtain⟨au,H',I',q⟩:=q;exact Hu I' D.pn hN hi hl λs8 I8=>⟨_,_,I8,q⟩
  |ret u =>obtain⟨v,au,H',I',r,q⟩:=q;exact Hu I' D.pn hN hi hl λs8 I8=>⟨v,_,_,I8,r,q⟩
  |brk =>obtain⟨au,H',I',q⟩:=q;exact Hu I' D.pn hN hi hl λs8 I8=>⟨_,_,I8,q⟩
  |cont =>obtain⟨au,H',I',q⟩:=q;exact Hu I' D.pn hN hi hl λs8 I8=>⟨_,_,I8,q⟩
end
end L2
namespace PySem.W
open PySem PySem.Spec PySem.Calls PyProof.Rows
section
variable{prog:Program}{w:World}{A:Around}{E:Value->Shared->Prop}{K:Frag}{x D:Addr}{ox:Obj}
structure ExK(K:Frag)(D:Addr):Prop where
 ga:findIn K (.ref D) "__getattribute__"=some (some (.builtin "BaseException.__getattribute__"))
 gt:findIn K (.ref D) "__getattr__"=some none
 ca:findIn K (.ref D) "__class__"=some (some (.builtin "object.__class__"))
 gs:specialIn K (.builtin "object.__class__") "__get__"=some (some (.builtin "getset_descriptor.__get__"))
 tk:takesIn K (.builtin "object.__class__")=some true
 mo:mroIn K D (.type "object")=some true
 mb:mroIn K D (.type "BaseException")=some true
theorem ExK.find(k:ExK K D)(hc:(clsIn K D).isSome=true):findObj K D none "__class__"=some (.bind (.builtin "getset_descriptor.__get__") (.builtin "object.__class__")):=by obtain⟨cd,hc⟩:=vF.mp hc;unfold findObj;rw[hc,uZ,k.ca,uZ];simp[k.gs,k.tk]
theorem NV(k:ExK K D)(hc:(clsIn K D).isSome=true)(X:K.In s.heap)(I:InstAt s.heap x ox D none)(h:Q (.done (.ret (.ref D))) s) :
  wpAny (model prog w) A (Builtin.«object.__getattribute__» ⟨[.ref x,.str "__class__" tk],[]⟩) Q E s:=by
 obtain⟨hh,g,d,t,os⟩:=s;have L0:=I.type (M:=model prog w);have L1:=looks_find (M:=model prog w) X I (k.find hc);unfold Builtin.«object.__getattribute__»
 repeat (any_goals (first|assumption|with_reducible refine L0.at ?_|with_reducible refine L1.at ?_|wp_step))
 exact class_get X I k.mo (tS h)
theorem NX(k:ExK K D)(X:K.In s.heap)(I:InstAt s.heap x ox D none)(h:Q () s):wpAny M A (checkBuiltinCall "BaseException.__getattribute__" ⟨[.ref x,nameV],[]⟩) Q E s:=by
 obtain⟨hh,g,d,t,os⟩:=s;have hk:builtinKind "BaseException.__getattribute__"=some .slot:=by decide +kernel
 have iB:splitId "BaseException.__getattribute__"=some ("BaseException","__getattribute__"):=by decide +kernel
 have L0:=I.type (M:=M);have L1:=looks_mroIn (M:=M) X k.mb;have ha:=F.args_bexc_ga (.ref x) nameV;simp only[checkBuiltinCall,hk,iB];refine tM ?_;unfold isInstance
 repeat (first|with_reducible refine L0.at ?_|with_reducible refine L1.at ?_|wp_step)
 exact h
theorem Qm(k:ExK K D)(hc:(clsIn K D).isSome=true)(X:K.In s.heap)(I:InstAt s.heap x ox D none)(h:R (.ok (.ret (.ref D))) s) :
  codeAny (model prog w) A (.call (.builtin "BaseException.__getattribute__") ⟨[.ref x,.str "__class__" tk],[]⟩) R s :=
 codeAny_call_builtin PySem.F.excAttr_ValueError.ga.plain F.entry_bexc_ga (NX k X I (NV k hc X I h))
theorem Yf(k:ExK K D)(hc:(clsIn K D).isSome=true)(X:K.In s.heap)(I:InstAt s.heap x ox D none)(h:Q (.ref D) s) :
  wpAny (model prog w) A (getAttrBy (.ref x) (.str "__class__" tk) false) Q E s:=by
 obtain⟨hh,g,d,t,os⟩:=s;have L0:=I.type (M:=model prog w);have L1:=looks_findIn (M:=model prog w) X k.ga;have L2:=looks_findIn (M:=model prog w) X k.gt;have f3:=PySem.F.excAttr_ValueError.ga.bind (.ref x);have rh:(Value.builtin "BaseException.__getattribute__"==Value.builtin "object.__getattribute__")=false:=by decide +kernel
 have tf:(onTheHeap (Value.ref D)&&Value.builtin "BaseException.__getattribute__"==Value.builtin "object.__getattribute__")=false:=by rw[rh];rfl
 have sZ:(false&&onTheHeap (Value.builtin "BaseException.__getattribute__"))=false:=rfl
 repeat (any_goals (first|assumption|with_reducible refine L0.at ?_|with_reducible refine L1.at ?_|with_reducible refine L2.at ?_|wp_step))
 refine Qm k hc X I ?_
 repeat (any_goals (first|assumption|wp_step))
theorem NW(k:ExK K D)(hc:(clsIn K D).isSome=true)(X:K.In s.heap)(I:InstAt s.heap x ox D none)(h:Q (some (.ref D)) {s with toks:=s.toks+1}) :
  wpAny (model prog w) A (getAttr? (.ref x) "__class__") Q E s:=by
 obtain⟨hh,g,d,t,os⟩:=s;unfold getAttr? getAttrBy?;exact tM (wpAny_mkText (tM (wpAny_attempt (Yf k hc X I (tS h)))))
theorem Px(k:ExK K D)(hc:(clsIn K D).isSome=true):KitX K (.ref x) (.ref D) (λh=>InstAt h x ox D none) where
 ty:=λ_ _ _ I=>I.type
 it:=λ_ _ X _=>by
  unfold clsIn at hc;split at hc
  next c' d' o8 lW ho=>intro A' Q' E' s' k q;unfold isType loadHead;exact tM (wpAny_loadPart (k _ _ (X _ _ ho)) (tS q))
  .cases hc
 ne:=λh tp dd aq n sl X jZ=>by
  refine Bool.eq_false_iff.mpr λq=>?_
  have e:=Value.ref.inj (beq_iff_eq.mp q);subst e;unfold clsIn at hc;split at hc
  next c' d' o8 lW ho=>have z:=(X _ _ ho).symm.trans jZ;cases z
  .cases hc
 ca:=λX I q=>NW k hc X I q
end
end PySem.W
namespace L2
open PySem PySem.Spec PyProof.Rows
section
variable{X:Cx}
theorem GQ:BZ X (.builtin "isinstance") (λxs H Q=>∃a D y c b,xs=[.ref a,y]/\(∀u,RelV y u->u=c)/\H a=some (exO (.ref D) a)/\PySem.W.ExK X.K D/\(clsIn X.K D).isSome=true/\kitOne X.K (.ref D) c=some b/\Q (.v b) H):=by
 intro aa s U H xs us Q I r h;obtain⟨a,D,y,c,b,rfl,hy,ha,k,hc,e,q⟩:=h;cases r with
 |cons r1 rr =>
  cases rr with
  |cons r2 rr =>
   cases rr;cases(show _=Value.ref a from r1);cases hy _ r2;obtain⟨⟨o,vs,h1,h2,h3,h4⟩,_⟩:=(show AZ X.prog X.w H s.heap a (exO (.ref D) a)from I.z9 a _ ha)
   have J:InstAt s.heap a o D none:=⟨h1,h2,by unfold PySem.W.notCls;rw[h4],by rw[h3];trivial⟩
   exact kia_one (PySem.W.Px k hc) I.kIn J e (λz=>nomatch z) λtk=>⟨.v b,H,I.tok tk,rfl,q⟩
theorem QH{bs:List Bool}(rv:Vals (bs.map V.v) aq):∀y,y∈aq.toArray->∃b,y=Value.bool b:=by intro y hy;rw[B8 rv]at hy;simp only[List.mem_toArray,ug]at hy;obtain⟨b,_,rfl⟩:=hy;exact⟨b,rfl⟩
noncomputable def isT:Value->Bool
 |.bool b=>b==true
 |_=>false
theorem Yh{bs:List Bool}(rv:Vals (bs.map V.v) aq):∀y,y∈aq.toArray->SeqAt.EqAt A s y (.bool true) (isT y):=λy hy=>by obtain⟨b,rfl⟩:=QH rv y hy;exact SeqAt.EqAt.bool_bool b true
theorem Pq:MtR X "list.index" (λx vs H Q=>∃(l:Addr)(bs:List Bool)(j:Nat),x=.ref l/\vs=[.v true]/\SqL X.K H l (bs.map V.v)/\bs[j]?=some true/\(∀m,m<j->bs[m]?=some false)/\Q (.int ((j:Nat):Int)) H):=by
 intro aa s U H x vs v us Q I rx rv h;obtain⟨l,bs,j,rfl,rfl,hq,hj,k6,q⟩:=h;cases rx;obtain⟨u,rfl,ru⟩:=rv.one;cases(show u=Value.bool true from ru);obtain⟨aq,rv,⟨⟨cls,dd,data,sl⟩,n,ho,hc,mV,hd⟩,hz⟩:=I.list hq;simp only at hc mV hd;subst hc mV hd;have hb:=B8 rv;subst hb;have qE:=(tX.mp hj).1;rw[tZ,sizeLine_eq]at hz;refine call_meets F.slot_list_index ⟨_,ho,rfl⟩ F.entry_list_index (F.args_list_index_2 _ _) (SeqAt.list_indexAt l (bs.map Value.bool).toArray n none sl (.bool true) isT j (by simpa using qE) (by lia) ?_ ?_) ⟨ho,Yh rv,?_⟩
 .have:=(tX.mp hj).2;simp[isT,this]
 .intro m hm qJ;have e:=k6 m qJ;have:=(tX.mp e).2;simp[isT,this]
 .exact⟨.int _,H,I.tok _,⟨_,rfl⟩,q⟩
end
end L2
namespace L2
open PySem PySem.Spec PySem.W PyProof.Rows
theorem Lr{l:OpenLaw}{K:Params->Fg}{CX:World->CXT}{sp:Fg->Sp}{x:Str}
  (hn:l.most=some n) (gf:n<=sizeLine) (i7:d.params.defaults=[]) (hr:C7 k callerA)
  (hY:∀(w:World)(h:Heap),YP w h->(K w.params).In h)
  (F:∀(w:World)(mg:Str->Option Value)(fa:Addr)(h:Heap),(K w.params).In h->h.Ns mainGlobals mg->mg d.name=some (.ref fa) ->
   ∃fd:FuncData,(∀(s:Shared)(u:Value),BindsTo s fd ⟨[u],[]⟩ [(x,u)]) /\
    ∀base:Heap,(K w.params).In base->base.Ns mainGlobals mg->CS l.prog w (K w.params) mg base (CX w) k fa fd [x] (sp (K w.params)))
  (gh:∀(K:Fg)(H:Hp)(a:Addr)(ns:List Int),ns.length<=n->Cs ns<=2^20->YK H->SqL K H a (ns.map V.int)->sp K [.ref a] H (λv _=>v=.v true) λ_ _ _=>False)
  (iT:∀(w:World)(H:Hp)(s:Shared)(e:Value)(s':Shared),CX w [] H s (λ_ _ _=>False) e s'->False) :
  WalkO q loose XP YP l.row.toRowW d [] (λf vs=>PySem.call f vs):=by
 intro w zZ az mg mb G Y fa o pm cd cU dV kV ho hd eG hD je hg args vals as eO gB ng jo bZ;obtain rfl:dV=.none:=Dflts.none hD i7;obtain rfl:kV=.none:=Dflts.noKw hD;obtain⟨a,vs,ns,rfl,rfl,k7,hints,hlen⟩:=Att.MF hn eO jo;have hw:Cs ns<=2^20:=by
  have h1:(WData.list (ns.map WData.int)).layable=true:=by unfold WData.layableAll at gB;simpa using gB
  unfold WData.layable at h1;rw[uq]at h1;have h2:=um h1.2;simp only[WData.weight]at h2;rw[<- FN];exact h2
 have KX:=hY w _ Y;obtain⟨fd,hb,hF⟩:=F w mg fa _ KX G.T.g je;refine PySem.W.enter_call (codeAny_mono (Pw KX G.T.g G.T.b G.T.builtins G.T.nolimit hg k7 hints (uz hlen gf) hr hF hb (λH hO hS=>gh (K w.params) H a ns hlen hw hO hS) λH e s'=>iT w H az e s') λr s' hq=>?_);obtain⟨rfl,h2,h3,h4⟩:=hq;exact⟨.inl ⟨.bool true,.bool true,[],rfl,λ_=>rfl,.bool true,Att.MP l _,λ_=>⟨List.Pairwise.nil,λ_ hm=>(nomatch hm)⟩⟩,h2,h3,h4⟩
theorem Jo{l:OpenLaw}{K:Params->Fg}{as:List Addr}{CX:World->CXT}{sp:Fg->Sp}{x:Str}
  (hn:l.most=some n) (gf:n<=sizeLine) (i7:d.params.defaults=[]) (hr:C7 k callerA)
  (hK:∀P:Params,as=(K P).map (·.1))
  (F:∀(w:World)(mg:Str->Option Value)(fa:Addr)(h:Heap),(K w.params).In h->h.Ns mainGlobals mg->mg d.name=some (.ref fa) ->
   ∃fd:FuncData,(∀(s:Shared)(u:Value),BindsTo s fd ⟨[u],[]⟩ [(x,u)]) /\
    ∀base:Heap,(K w.params).In base->base.Ns mainGlobals mg->CS l.prog w (K w.params) mg base (CX w) k fa fd [x] (sp (K w.params)))
  (gh:∀(K:Fg)(H:Hp)(a:Addr)(ns:List Int),ns.length<=n->Cs ns<=2^20->YK H->SqL K H a (ns.map V.int)->sp K [.ref a] H (λv _=>v=.v true) λ_ _ _=>False)
  (iT:∀(w:World)(H:Hp)(s:Shared)(e:Value)(s':Shared),CX w [] H s (λ_ _ _=>False) e s'->False) :
  WalkX q loose XP (PySem.W.X.obsZ as) (PySem.W.X.valZ K N tk) l.row.toRowW d [] (λf vs=>PySem.call f vs):=by
 intro w zZ az mg mb G Y fa o pm cd cU dV kV ho hd eG hD je hg args vals oZ hL eO gB ng jo bZ;have W:=Lr (l:=l) (q:=q) (loose:=loose) (XP:=XP) (YP:=λw h=>(K w.params).In h) (d:=d) (K:=K) (CX:=CX) (sp:=sp) (x:=x) hn gf i7 hr (λ_ _ h=>h) F gh iT;refine W w zZ az mg mb G ?_ fa o pm cd cU dV kV ho hd eG hD je hg args vals oZ eO gB ng jo bZ;have h1:as.map zZ.heap.get?=(K w.params).map (λp=>some p.2):=congrArg Prod.fst Y;rw[hK w.params]at h1;exact λa o e=>hL.keeps a o (Nj _ h1 a o e)
end L2
namespace L2
open PySem PySem.Spec PyProof.Rows
section
variable{X:Cx}{k:Nat}{C:Addr}{ps:List Str}{sp:Sp}{Z:XE}{x m:Str}{p pos aB:Pos}{e o:Expr}{es:List Expr}{ta:TE}{t:TA}
def Vq(C:Addr)(m:Str)(sp:Sp)(Z:XE)(ta:TE)(t:TA):TE:=λU H Q=>ta U H λx H1=>∃a dx fs,x=.ref a/\H1 a=some (.ins C dx fs)/\fs.lookup m=none /\
 t U H1 λvs H2=>sp (x::vs) H2 Q λc _ H'=>Z c U H'
theorem Wg(G:UX X.prog X.w X.K X.mg X.base (CX1 X.prog X.w) C m k ps sp)(hr:C7 k X.A)(hx:Lk X Z)(he:PE X o ta)(ha:PA X (e::es) t)
  (dH:starEach (e::es) X.env=(false,eval e X.env)::starEach es X.env:=by rfl) (aI:(backTo pos (starEach es X.env)).any (·.1)=false:=by rfl)
  (ht:eval (.Call (.Attribute o m aB) (e::es) [] pos) X.env=(do
   let ov <- eval o X.env
   standAt aB.atName
   let(f,first) <- holding [ov] (getMethod ov m pl)
   callWith pos f first (backTo pos (starEach (e::es) X.env)) (backToKw pos (keywordEach [] X.env))):=by rfl) :
  PE X (.Call (.Attribute o m aB) (e::es) [] pos) (Vq C m sp Z ta t):=by
 obtain⟨f,fd,F,hm,hb⟩:=G.ex;intro aa s U H Q I h;refine methodCall_KW (thn (he aa s U H _ I h) λu s1 ao=>?_) ht;obtain⟨x,H1,I1,rx,a,dx,fs,ex,ea,l,q⟩:= ao;subst ex;obtain rfl:u=Value.ref a:=rx;refine GJ I1 ea G.cl hm l ?_;refine callWith_K I.ok.mod.y0 hm.kp (thn (ha pos aa s1 U H1 _ I1 q) λus s2 ⟨vs,H2,I2,r,q2⟩=>⟨I2.kIn,?_⟩) dH aI;exact MG (vs:=.ref a::vs) F hr hb hx I2 (.cons rfl r) q2
theorem Wo:Passes (CX1 X.prog X.w) X E0:=λ_ _ _ _ _ _ _ ⟨_,_,_,_,_,_,_,_,_,_,_,q⟩=>q.elim
end
noncomputable def CO(z:Str):Bool:=decide (z.length<=3000)&&z.cps.toList.all λc=>decide (c<16^8)
theorem DL{z:Str}(h:CO z=true):(reprText z).length<=40000:=by
 unfold CO at h;rw[uq]at h;have h1:=um h.1;have h2:=PySem.StrLaws.reprText_len z λc m=>um (uS.mp h.2 c m)
 lia
section
variable{X:Cx}{v:Expr}{ta:TE}{a:Str}{j:Nat}{cp fp jp:Pos}
def tFr(ta:TE):TE:=λU H Q=>ta U H λx H1=>∃z,x=.str z/\CO z=true/\∀r,Q (.str r) H1
theorem Jaa(hv:PE X v ta)(hl:a.length<=1000:=by decide):PE X (.JoinedStr [.Constant (.str a) j cp,.FormattedValue v 114 none fp] jp) (tFr ta):=by
 intro aa s U H Q I h;refine wpAny_JoinedStr ?_;show wpAny _ _ (eval (.Constant (.str a) j cp) X.env) _ _ s;refine thn (Ik aa s U H (λu H1=>u=.str a/\H1=H) I ⟨rfl,rfl⟩) λu s1 ao=>?_
 obtain⟨x,H1,I1,r1,q1,q2⟩:= ao;subst q1 q2;obtain⟨t1,rfl⟩:=r1;have e0:(Str.empty++a).length=a.length:=by rw[strLen_append];exact vR _
 refine⟨a,t1,rfl,by rw[e0,sizeLine_eq];lia,?_⟩;show wpAny _ _ (eval (.FormattedValue v 114 none fp) X.env) _ _ s1;refine wpAny_FormattedValue_repr (thn (hv aa s1 U H1 _ I1 h) λu s2 ao=>?_);obtain⟨x,H2,I2,r2,z,ez,hz,q⟩:= ao;subst ez;obtain⟨t2,rfl⟩:=r2;have hr:=DL hz;refine wpAny_pyReprObj_str ?_ (by rw[sizeLine_eq];lia);have e1:(Str.empty++a++reprText z).length<=41000:=by rw[strLen_append,e0];lia
 refine formatField_str (λt' tk=>⟨_,t',rfl,by rw[sizeLine_eq];lia,?_⟩) (by rw[sizeLine_eq];lia);refine⟨by rw[sizeLine_eq];lia,.str (Str.empty++a++reprText z),H2,?_,⟨_,rfl⟩,q _⟩;exact(I2.tok _).tok _
end
section
variable{X:Cx}
theorem QC(hc:X.calm=true):BZ X (.builtin "any") (λxs H Q=>∃(l:Addr)(bs:List Bool),xs=[.ref l]/\SqL X.K H l (bs.map V.v)/\Q (.v (bs.any id)) H):=by
 intro aa s U H xs us Q I r h;obtain⟨l,bs,rfl,hq,q⟩:=h;obtain⟨u,rfl,rx⟩:=vals1 r;cases rx;obtain⟨aq,rv,pl,hz⟩:=I.list hq;have hb:=B8 rv;have hl:=pl.isList;have cV:l<s.heap.objs.size:=by obtain⟨_,e,_⟩:=hl;exact t9 e
 refine call_any_walk (wpAny_pyIter_list hl ?_);refine⟨s.heap.objs.size,[s.heap.objs.size,l],[s.heap.objs.size],aq.toArray.size,_,_,λi=>(bs[i]?).getD false,rfl,Walks.list (A:=X.A.in1) (I.ok.hd hc) _ l (ur cV) aq.toArray,
  ⟨⟨_,tY _ rfl,rfl,rfl⟩,hl.push _⟩,λi v s' Q' E' hP hQ=>?_,λh' tk hk=>?_⟩
 .have e:=by simpa using hP
  rw[hb,ux]at e;cases eb:bs[i]? with|none=>rw[eb]at e;cases e|some b =>rw[eb]at e;have e':=Option.some.inj e;subst e';simp only[eb,Option.getD_some]at hQ;exact wpAny_truthy_bool hQ
 .have e:((List.range aq.toArray.size).any λi=>(bs[i]?).getD false)=bs.any id:=by
   have hlen:aq.toArray.size=bs.length:=by rw[hb];simp
   rw[hlen];rw[vc,wa,wa];constructor
   .rintro⟨i,hi,hh⟩
    have eJ:=vj.mp hi;exact⟨bs[i],v8 eJ,by simpa[tO eJ]using hh⟩
   .rintro⟨b,hm,hh⟩
    obtain⟨i,hi,rfl⟩:=vD hm;exact⟨i,vj.mpr hi,by simpa[tO hi]using hh⟩
  rw[e];have kp:∀b o,s.heap.get? b=some o->h'.get? b=some o:=λb o e=>hk b o (λhm=>by rw[ub.mp hm]at e;exact uR _ (t9 e)) (tN _ e)
  exact⟨.v _,H,I.kept kp,rfl,q⟩
end
section
variable{X:Cx}{v:Expr}{ta:TE}{fp:Pos}
end
section
variable{X:Cx}{v w:Expr}{ta tb:TE}{a a2:Str}{j j2:Nat}{cp fp gS ic jp:Pos}
def Jcd(ta tb:TE):TE:=λU H Q=>ta U H λx H1=>∃z,x=.str z/\CO z=true/\tb U H1 λy H2=>∃z2,y=.str z2/\CO z2=true/\∀r,Q (.str r) H2
theorem Wl(hv:PE X v ta)(hw:PE X w tb)(hl:a.length<=1000:=by decide)(dB:a2.length<=1000:=by decide):PE X (.JoinedStr [.Constant (.str a) j cp,.FormattedValue v 114 none fp,.Constant (.str a2) j2 gS,.FormattedValue w 114 none ic] jp) (Jcd ta tb):=by
 intro aa s U H Q I h;refine wpAny_JoinedStr ?_;show wpAny _ _ (eval (.Constant (.str a) j cp) X.env) _ _ s;refine thn (Ik aa s U H (λu H1=>u=.str a/\H1=H) I ⟨rfl,rfl⟩) λu s1 ao=>?_
 obtain⟨x,H1,I1,r1,q1,q2⟩:= ao;subst q1 q2;obtain⟨t1,rfl⟩:=r1;have e0:(Str.empty++a).length=a.length:=by rw[strLen_append];exact vR _
 refine⟨a,t1,rfl,by rw[e0,sizeLine_eq];lia,?_⟩;show wpAny _ _ (eval (.FormattedValue v 114 none fp) X.env) _ _ s1;refine wpAny_FormattedValue_repr (thn (hv aa s1 U H1 _ I1 h) λu s2 ao=>?_);obtain⟨x,H2,I2,r2,z,ez,hz,q⟩:= ao;subst ez;obtain⟨t2,rfl⟩:=r2;have hr:=DL hz;refine wpAny_pyReprObj_str ?_ (by rw[sizeLine_eq];lia);have e1:(Str.empty++a++reprText z).length<=41000:=by rw[strLen_append,e0];lia
 refine formatField_str (λt' tk=>⟨_,t',rfl,by rw[sizeLine_eq];lia,?_⟩) (by rw[sizeLine_eq];lia);show wpAny _ _ (eval (.Constant (.str a2) j2 gS) X.env) _ _ _;refine thn (Ik aa _ U H2 (λu H3=>u=.str a2/\H3=H2) ((I2.tok _).tok _) ⟨rfl,rfl⟩) λu s3 ao=>?_
 obtain⟨x,H3,I3,r3,q1,q2⟩:= ao;subst q1 q2;obtain⟨t3,rfl⟩:=r3;have e2:(Str.empty++a++reprText z++a2).length<=42000:=by rw[strLen_append];lia
 refine⟨a2,t3,rfl,by rw[sizeLine_eq];lia,?_⟩;show wpAny _ _ (eval (.FormattedValue w 114 none ic) X.env) _ _ s3;refine wpAny_FormattedValue_repr (thn (hw aa s3 U H3 _ I3 q) λu s4 ao=>?_);obtain⟨x,H4,I4,r4,z2,p9,g8,q'⟩:= ao;subst p9;obtain⟨t4,rfl⟩:=r4;have sW:=DL g8;refine wpAny_pyReprObj_str ?_ (by rw[sizeLine_eq];lia);have e3:(Str.empty++a++reprText z++a2++reprText z2).length<=83000:=by rw[strLen_append];lia
 refine formatField_str (λt' tk=>⟨_,t',rfl,by rw[sizeLine_eq];lia,?_⟩) (by rw[sizeLine_eq];lia);refine⟨by rw[sizeLine_eq];lia,.str (Str.empty++a++reprText z++a2++reprText z2),H4,?_,⟨_,rfl⟩,q' _⟩;exact(I4.tok _).tok _
end
end L2
namespace PySem
namespace Zp
theorem OB:typeLookup (.type "zip") "__getattr__"=pure none:=by rw[typeLookup_type,builtinLookup_eq_fast];kernel_rfl
theorem OD:typeLookup (.type "zip") "keys"=pure none:=by rw[typeLookup_type,builtinLookup_eq_fast];kernel_rfl
theorem Mj:entryFor table "zip.__getattribute__"=some Builtin.«object.__getattribute__» :=
 entryFor_alias (id':="object.__getattribute__") (by kernel_rfl) (by decide +kernel) (by decide +kernel) (by kernel_rfl)
theorem OC(a:Addr)(vs:Array Value)(u:Tok) :
  Meets (Builtin.«object.__getattribute__» ⟨[.ref a,.str "keys" u],[]⟩) (λA R s=>s.heap.get? a=some {cls:=.type "zip",dict:=none,data:=.fields vs,slots:=#[]}/\raisesAttr (.ref a) "keys" A R s) :=
 Meets.of_wp λprog w A R s hs=>by
  obtain⟨hp,g,d,tk,os⟩:=s;obtain⟨hx,hs⟩:=hs;have hT:(⟨hp,g,d,tk,os⟩:Shared).TypeIs (.ref a) "zip":=⟨_,hx,rfl⟩
  have jf:(["__module__","__name__","__qualname__","__doc__","__annotations__"]:List Str).contains "keys"=false:=by decide +kernel
  have m6:=OD;unfold Builtin.«object.__getattribute__»
  repeat (any_goals (first|assumption|wp_step))
  try simp only[jf,uJ,if_false]
  repeat (any_goals (first|assumption|wp_step))
  exact wpAny_raiseAttrError hs.1 hs.2 (attrMsg_fits (by decide +kernel) (by size_fits))
theorem OA
  (hx:s.heap.get? a=some {cls:=.type "zip",data:=.fields vs}) (hA:A.handled=none)
  (h:∀h' tk,(∀b o,s.heap.get? b=some o->h'.get? b=some o)->Q none {s with heap:=h',toks:=tk}):wpAny (model prog w) A (getAttr? (.ref a) "keys") Q E s:=by
 obtain⟨hp,g,d,tk,os⟩:=s;have hT:∀hX,(⟨hp,g,d,hX,os⟩:Shared).TypeIs (.ref a) "zip":=λ_=>⟨_,hx,rfl⟩
 have f1:=sub_AttributeError;have f3:=F.slot_zip_getattribute.lookup;have f4:=F.slot_zip_getattribute.bind (.ref a);have f5:=OB;unfold getAttr? getAttrBy? getAttrBy
 repeat (any_goals (first|assumption|exact hT _|((with_reducible show wpAny _ _ (call (Value.builtin "zip.__getattribute__") _ _) _ _ _);refine call_meets F.slot_zip_getattribute (hT _) Mj (F.args_zip_getattribute_2 _ _) (OC a vs _) ⟨hx,hA,λh' hX e j0=>?_⟩)|wp_step))
 obtain⟨t',u',he⟩:=j0.there;unfold getattributeRaised
 repeat (any_goals (first|assumption|wp_step))
 exact h h' hX j0.1
theorem IL:entryFor table "dict.update.loop"=some Builtin.«dict.update.loop»:=entryFor_of_fast (by kernel_rfl)
theorem DJ:plainId "dict.update.loop"=true:=by decide +kernel
section
variable{prog:Program}{w:World}{A:Around}{E:Value->Shared->Prop}{s:Shared}{z TI TO i1 i2 l1 l2 lo S:Addr}{xs ys:Array Value}{b1 b2:Bool}{R:Result->Shared->Prop}{K:Type}[DecidableEq K]{knd:KeyKind prog w K}
theorem OG(hh:A.handled=none)(D:Apart z TI TO i1 i2 l1 l2)(bZ:∀b∈[z,TI,TO,i1,i2,l1,l2],b<lo)(fq:∀b∈[z,TI,TO,i1,i2,l1,l2],b≠S)(mR:S<lo){ks:List K}(eT:∀(i:Nat)(x:Value),xs[i]?=some x->∃k,ks[i]?=some k/\knd.is k x=true)(hn:xs.size<=sizeLine)(hl:ks.length=xs.size)(res:Value){aH:Heap}
  (hR:∀h' tk,(∀b o,b≠S->b∉[z,TO,i1,i2]->aH.get? b=some o->h'.get? b=some o)->h'.DictOf knd S (merged [] (ks.zip ys.toList))->R (.ok (.ret res)) {s with heap:=h',toks:=tk}) :
  ∀(k i:Nat)(h:Heap)(tk:Nat),min xs.size ys.size-i=k->i<=min xs.size ys.size->Frs b1 b2 h z TI TO i1 i2 l1 l2 lo i->DB b1 h l1 xs->DB b2 h l2 ys->(∀b o,b≠S->b∉[z,TO,i1,i2]->aH.get? b=some o->h.get? b=some o) ->
   h.DictOf knd S (merged [] ((ks.zip ys.toList).take i))->lo<=h.objs.size ->
   codeAny (model prog w) A (.builtin "dict.update.loop" ⟨[.ref S,.ref z,rawInt i,res],[]⟩) R {s with heap:=h,toks:=tk}:=by
 have rN:∀{b a:Addr},b<lo->lo<=a->a≠b:=λ{b a} h1 h2 q=>absurd (uf h1 h2) (by rw[q];exact uR _)
 have zl:(ks.zip ys.toList).length=min xs.size ys.size:=by rw[vP,hl,vf]
 intro k
 induction k with
 |zero =>
  intro i h tk hk hi dH c1 c2 fI hS jQ;have bt:xs[i]?=none\/ys[i]?=none:=by
   rcases Nat.le_total xs.size ys.size with q|q
   .left;rw[Array.getElem?_eq_none_iff];lia
   .right;rw[Array.getElem?_eq_none_iff];lia
  refine codeAny_builtin IL ?_;rw[Around.under_plainId DJ _];show wpAny _ A.in1 (pyNext (.ref z) >>= _) _ _ _;refine tM (Ur (A:=A.in1) hh D dH c1 c2 bt λh' he=>?_);show wpAny _ _ (Builtin.Dict.addKeywords S [] >>= _) _ _ _;refine tM (tS (tS (hR h' tk (λb o q1 q2 e=>?_) ?_)))
  .simp only[uk,uI,or_false,not_or]at q2;exact he b o q2.1 q2.2.1 q2.2.2.1 q2.2.2.2 (fI b o q1 (by simp[q2]) e)
  .rw[vm (by lia)]at hS;obtain⟨o,es,ep,ho,r⟩:=hS;exact⟨o,es,ep,he S _ (Ne.symm (fq _ (by simp))) (Ne.symm (fq _ (by simp))) (Ne.symm (fq _ (by simp))) (Ne.symm (fq _ (by simp))) ho,r⟩
 |succ k ih =>
  intro i h tk hk hi dH c1 c2 fI hS jQ;have jd:i<xs.size:=by lia
  have eM:i<ys.size:=by lia
  obtain⟨κ,ek,rl⟩:=eT i _ (u9 jd);have ez:(ks.zip ys.toList)[i]?=some (κ,ys[i]):=by rw[List.getElem?_zip_eq_some];exact⟨ek,by rw[Array.getElem?_toList];exact u9 eM⟩
  refine codeAny_builtin IL ?_;rw[Around.under_plainId DJ _];show wpAny _ A.in1 (pyNext (.ref z) >>= _) _ _ _;refine tM (OJ (s:={s with heap:=h,toks:=tk}) D dH c1 c2 (u9 jd) (u9 eM) jQ bZ λh' lu o5 o7 ht hz kW=>?_);dsimp only at ht hz kW ⊢;have gU:h'.DictOf knd S (merged [] ((ks.zip ys.toList).take i)):=by obtain⟨o,es,ep,ho,r⟩:=hS;exact⟨o,es,ep,kW S _ (Ne.symm (fq _ (by simp))) (Ne.symm (fq _ (by simp))) (Ne.symm (fq _ (by simp))) (Ne.symm (fq _ (by simp))) ho,r⟩
  refine tM (wpAny_holding ?_);refine tM (wpAny_tryCatch ?_);unfold Builtin.Dict.pairItems;refine tM (wpAny_typeOf (T:="tuple") ⟨_,ht,rfl⟩ ?_);rw[if_pos (by decide)];refine tM (wpAny_seqItems ht rfl (tS ?_));show wpAny _ _ (holding [xs[i],ys[i]] (dictSet S xs[i] ys[i])) _ _ _;refine wpAny_holding (wpAny_dictSet_pairs (s:={s with heap:=h',toks:=tk}) rl gU (λh2 hd2 sb=>?_) (uz (merged_length_le _ _) (by simp only[List.length_nil,uN];lia)));rw[<- merged_take_succ _ _ _ _ ez]at hd2;have up:∀b o,b≠S->h'.get? b=some o->h2.get? b=some o:=λb o hb e=>sb.extBut b o hb e
  have qp:h.objs.size≠S:=rN mR jQ;refine tS ⟨plainId_quiet DJ _,ih (i+1) h2 (tk+1) (by lia) (by lia) (lu.keep up (λb hb=>fq b (ud [l1,l2] hb)) mR) (o5.at λo e=>up _ o (fq _ (by simp)) e) (o7.at λo e=>up _ o (fq _ (by simp)) e) (λb o q1 q2 e=>?_) hd2 ?_⟩
  .have q3:=q2;simp only[uk,uI,or_false,not_or]at q3;exact up b o q1 (kW b o q3.1 q3.2.1 q3.2.2.1 q3.2.2.2 (fI b o q1 q2 e))
  .exact uz jQ (vT (t9 (up _ _ qp ht)))
theorem HF(hh:A.handled=none)(D:Apart z TI TO i1 i2 l1 l2)(hz:IsZip s.heap z TI TO .none)(bj:IsPair s.heap TI (.ref i1) (.ref i2))(bL:∃a b,IsPair s.heap TO a b)(t1:Gq b1 s.heap i1 l1 0)(t2:Gq b2 s.heap i2 l2 0)(c1:DB b1 s.heap l1 xs)(c2:DB b2 s.heap l2 ys)
  (bZ:∀b∈[z,TI,TO,i1,i2,l1,l2],b<s.heap.objs.size) {ks:List K} (eT:∀(i:Nat)(x:Value),xs[i]?=some x->∃k,ks[i]?=some k/\knd.is k x=true) (hn:xs.size<=sizeLine) (hl:ks.length=xs.size)
  (hQ:∀h' tk,(∀b o,b∉[z,TO,i1,i2]->s.heap.get? b=some o->h'.get? b=some o)->h'.DictOf knd s.heap.objs.size (merged [] (ks.zip ys.toList))->Q (.ref s.heap.objs.size) {s with heap:=h',toks:=tk}) :
  wpAny (model prog w) A (call (.type "dict") [.ref z]) Q E s:=by
 refine callType_codes (Q₁:=λobj az=>obj=.ref s.heap.objs.size/\az={s with heap:=s.heap.push {cls:=.type "dict",data:=.dict #[]} }) F.kt_called_dict (F.kt_typeCall_dict_1 _) F.entry_dict_init (kt_code_dict_new _ ⟨rfl,rfl⟩) ?_
 rintro obj az ⟨rfl,rfl⟩
 have gD:(s.heap.push {cls:=.type "dict",data:=.dict #[]}).DictOf knd s.heap.objs.size []:=Heap.DictOf.new s.heap;have nS:∀b∈[z,TI,TO,i1,i2,l1,l2],b≠s.heap.objs.size:=λb hb=>ur (bZ b hb)
 have z6:∀b o,s.heap.get? b=some o->(s.heap.push {cls:=.type "dict",data:=.dict #[]}).get? b=some o:=λb o e=>tN _ e
 refine⟨gD.typeIs,F.args_dict_init_2 _ _,?_⟩;unfold Builtin.«dict.__init__»;refine tM ?_;unfold Builtin.Dict.selfAndRest;refine tM (wpAny_notOrdered_dict gD.typeIs ?_);show wpAny _ _ (pure (s.heap.objs.size,[Value.ref z])) _ _ _;refine tS ?_;show wpAny _ _ (Builtin.Dict.updateFrom "dict.__init__" s.heap.objs.size (.ref z) [] .none) _ _ _;unfold Builtin.Dict.updateFrom;refine tM (wpAny_typeOf (T:="zip") ⟨_,z6 _ _ hz,rfl⟩ ?_);rw[if_pos (by decide)];refine tM (OA (z6 _ _ hz) hh λh2 sm k2=>?_);have up:∀b o,s.heap.get? b=some o->h2.get? b=some o:=λb o e=>k2 b o (z6 b o e)
 simp only[Option.isNone_none,if_true];refine tM (wpAny_rule ?_);refine tM (wpAny_pyIter_zip (up _ _ hz) ?_);obtain⟨ta,tb,bL⟩:=bL;have lz:s.heap.objs.size<=h2.objs.size:=by obtain⟨o,es,ep,ho,_⟩:=gD;exact vT (t9 (k2 _ _ ho))
 have g6:h2.DictOf knd s.heap.objs.size []:=by obtain⟨o,es,ep,ho,r⟩:=gD;exact⟨o,es,ep,k2 _ _ ho,r⟩
 have lS:s.heap.objs.size<h2.objs.size:=by obtain⟨o,es,ep,ho,_⟩:=g6;exact t9 ho
 refine tS ⟨plainId_quiet DJ _,OG (A:=A.in1) (s:=s) (aH:=h2) (lo:=h2.objs.size) (b1:=b1) (b2:=b2) (xs:=xs) (ys:=ys) (knd:=knd) hh D (λb hb=>uf (bZ b hb) lz) nS lS eT hn hl .none (λh' tk kp dd=>?_) (min xs.size ys.size) 0 h2 sm rfl (v3 _)
  ⟨.inl ⟨rfl,up _ _ hz,ta,tb,up _ _ bL⟩,up _ _ bj,t1.at λo e=>up _ o e,t2.at λo e=>up _ o e⟩ (c1.at λo e=>up _ o e) (c2.at λo e=>up _ o e) (λb o _ _ e=>e) (by simpa[merged]using g6) (uh _)⟩
 exact⟨rfl,hQ h' tk (λb o q e=>kp b o (ur (t9 e)) q (up b o e)) dd⟩
end
end Zp
end PySem
namespace L2
open PySem PySem.Spec PyProof.Rows
theorem Rj:∀{ks:List Key}{ys:List V}{us:List Value},Vals ys us->KV (ks.zip ys) (ks.zip us)
 | [],_,_,_=>.nil
 |_::_,[],_,.nil=>.nil
 |k::ks,_::_,_::_,.cons r rr=>.cons ⟨rfl,r⟩ (Rj rr)
def OM(K:Fg)(ta:TA):TE:=λU H Q=>ta U H λvs H1=>∃(b1:Bool)(a1:Addr)(b2:Bool)(a2:Addr)(ks:List Key)(ys:List V),vs=[.ref a1,.ref a2]/\SqB b1 K H1 a1 (ks.map kV)/\SqB b2 K H1 a2 ys/\ks.Nodup/\ks.length=ys.length/\∀d,H1 d=none->Q (.ref d) (upd H1 d (.l (ks.zip ys)))
theorem LH(hc:X.calm=true)(gC:X.mg "dict"=none)(de:X.mg "zip"=none)(ha:PA X [a,b] ta)(iw:Gl X "dict":=by rfl)(eI:Gl X "zip":=by rfl)
  (he:starEach [(.Call (.Name "zip" p2) [a,b] [] aU:Expr)] X.env=[(false,eval (.Call (.Name "zip" p2) [a,b] [] aU) X.env)]:=by rfl) (hs:starEach [a,b] X.env=[(false,eval a X.env),(false,eval b X.env)]:=by rfl) (aY:starEach [b] X.env=[(false,eval b X.env)]:=by rfl) :
  PE X (.Call (.Name "dict" p1) [.Call (.Name "zip" p2) [a,b] [] aU] [] di) (OM X.K ta):=by
 intro aa s U H Q I h;refine wpAny_Call_Name_kw (Dm I iw gC boot_dict ?_);refine callWith_type1 ?_ he rfl;rw[he];refine Calls.spliced_cons ?_;refine wpAny_Call_Name_kw (Dm I eI de boot_zip ?_);refine callWith_type1 (thn (ha aU aa s U H _ I h) λus s1 ao=>?_) (by rw[hs,aY]) (by rw[aY];rfl);obtain⟨vs,H1,I1,r1,q1⟩:= ao;obtain⟨b1,a1,b2,a2,ks,ys,e,hx,hy,nd,ln,q⟩:=q1;subst e;cases r1 with
 |cons r rr =>
  cases rr with
  |cons r' rr =>
   cases rr;cases r;cases r';obtain⟨cm,lR,c1,z1⟩:=I1.sqb hx;obtain⟨aZ,lT,c2,z2⟩:=I1.sqb hy;have e1:=lR.length;have e2:=lT.length;rw[tZ]at e1;refine Zp.Lb (T1:=Zp.BQ b1) (T2:=Zp.BQ b2) (C1:=λh=>Zp.DB b1 h a1 cm.toArray) (C2:=λh=>Zp.DB b2 h a2 aZ.toArray) (Zp.KO b1 a1 cm.toArray) (Zp.KO b2 a2 aZ.toArray) (λh o c=>Zp.DB.at (b:=b2) c λo e=>tN _ e) c1 c2 ?_;obtain⟨z,TI,TO,i1,i2,ez,g0,g1,g2,g3,g4,D,hz,bj,bL,t1,t2,hk⟩:=Zp.made c1 c2;rw[<- ez];refine Calls.spliced_nil ?_;have mC:Zp.DB b1 (Zp.z5 s1.heap (Zp.BQ b1) (Zp.BQ b2) a1 a2) a1 cm.toArray:=Zp.DB.at (b:=b1) c1 λo e=>hk _ o e
   have mD:Zp.DB b2 (Zp.z5 s1.heap (Zp.BQ b1) (Zp.BQ b2) a1 a2) a2 aZ.toArray:=Zp.DB.at (b:=b2) c2 λo e=>hk _ o e
   have mE:∀{b:Bool}{h:Heap}{l:Addr}{xs:Array Value},Zp.DB b h l xs->l<h.objs.size:=λ{b h l xs} c=>by
    cases b
    .obtain⟨o,e,_⟩:=c;exact t9 e
    .obtain⟨o,e,_⟩:=c;exact t9 e
   refine Zp.HF (s:={s1 with heap:=Zp.z5 s1.heap (Zp.BQ b1) (Zp.BQ b2) a1 a2}) (b1:=b1) (b2:=b2) (xs:=cm.toArray) (ys:=aZ.toArray) (knd:=AY X.prog X.w) (ks:=ks) (I.ok.hd hc) D hz bj ⟨_,_,bL⟩ t1 t2 mC mD (λb hb=>?_) (λi x ex=>?_) (by simp only[ua];lia) (by simp only[ua];lia) λh' tk kp dd=>?_
   .simp only[uk,uI,or_false]at hb;rcases hb with rfl|rfl|rfl|rfl|rfl|rfl|rfl
    .exact t9 hz
    .exact t9 bj
    .exact t9 bL
    .obtain⟨o,e,_⟩:=t1.obj;exact t9 e
    .obtain⟨o,e,_⟩:=t2.obj;exact t9 e
    .exact mE mC
    .exact mE mD
   .have kD:cm[i]?=some x:=by simpa using ex
    have li:=(tX.mp kD).1;obtain⟨u',hu,ru⟩:=lR.get (i:=i) (tO (by rw[tZ];lia));rw[kD]at hu;cases hu;rw[vh]at ru;exact⟨_,tO (by lia),JT ru⟩
   .have gs:s1.heap.objs.size<=(Zp.z5 s1.heap (Zp.BQ b1) (Zp.BQ b2) a1 a2).objs.size:=uz g0 (vT (t9 hz));have I2:Inv X aa U H1 {s1 with heap:=Zp.z5 s1.heap (Zp.BQ b1) (Zp.BQ b2) a1 a2,toks:=s1.toks}:=I1.kept hk;have zk:((ks.zip aZ).map (·.1))=ks:=by rw[vA (by lia)]
    rw[merged_nil_of_nodup _ (by simp only[List.toList_toArray];rw[zk];exact nd)]at dd;have fr:=I1.z9.fresh (a:=(Zp.z5 s1.heap (Zp.BQ b1) (Zp.BQ b2) a1 a2).objs.size) gs;have nm:((Zp.z5 s1.heap (Zp.BQ b1) (Zp.BQ b2) a1 a2).objs.size==sysModules)=false:=beq_eq_false_iff_ne.mpr (Ne.symm (ur (uf I1.big gs)));refine⟨.ref (Zp.z5 s1.heap (Zp.BQ b1) (Zp.BQ b2) a1 a2).objs.size,upd H1 (Zp.z5 s1.heap (Zp.BQ b1) (Zp.BQ b2) a1 a2).objs.size (.l (ks.zip ys)),?_,rfl,q _ fr⟩;refine I2.Tj (fp:=[z,TO,i1,i2]) kp (λb hb=>?_) (λb u e=>?_) λb u e=>?_
    .have gz:s1.heap.objs.size<=b:=by simp only[uk,uI,or_false]at hb;rcases hb with rfl|rfl|rfl|rfl<;>assumption
     exact I1.Qd gz (I1.z9.fresh gz)
    .rw[Aj (λz=>by rw[z,fr]at e;cases e)];exact e
    .by_cases hb:b=(Zp.z5 s1.heap (Zp.BQ b1) (Zp.BQ b2) a1 a2).objs.size
     .subst hb;rw[Ak]at e;cases e;refine .inr ⟨uh _,(show AZ X.prog X.w _ h' _ (.l (ks.zip ys))from⟨by rw[vP];lia,nm,ks.zip aZ,Rj lT,dd⟩)⟩
     .rw[Aj hb]at e;exact .inl e
section
variable{X:Cx}{v:Expr}{ta:TE}{a:Str}{j:Nat}{cp fp jp:Pos}
theorem Wk(hv:PE X v ta)(hl:a.length<=1000:=by decide):PE X (.JoinedStr [.FormattedValue v 114 none fp,.Constant (.str a) j cp] jp) (tFr ta):=by
 intro aa s U H Q I h;refine wpAny_JoinedStr ?_;show wpAny _ _ (eval (.FormattedValue v 114 none fp) X.env) _ _ s;refine wpAny_FormattedValue_repr (thn (hv aa s U H _ I h) λu s2 ao=>?_);obtain⟨x,H2,I2,r2,z,ez,hz,q⟩:= ao;subst ez;obtain⟨t2,rfl⟩:=r2;have hr:=DL hz;refine wpAny_pyReprObj_str ?_ (by rw[sizeLine_eq];lia);have e0:(Str.empty++reprText z).length=(reprText z).length:=by rw[strLen_append];exact vR _
 refine formatField_str (λt' tk=>⟨_,t',rfl,by rw[sizeLine_eq];lia,?_⟩) (by rw[sizeLine_eq];lia);show wpAny _ _ (eval (.Constant (.str a) j cp) X.env) _ _ _;refine thn (Ik aa _ U H2 (λu H3=>u=.str a/\H3=H2) ((I2.tok _).tok _) ⟨rfl,rfl⟩) λu s3 ao=>?_
 obtain⟨x,H3,I3,r3,q1,q2⟩:= ao;subst q1 q2;obtain⟨t3,rfl⟩:=r3;have e2:(Str.empty++reprText z++a).length<=41000:=by rw[strLen_append,e0];lia
 refine⟨a,t3,rfl,by rw[sizeLine_eq];lia,?_⟩;refine⟨by rw[sizeLine_eq];lia,.str (Str.empty++reprText z++a),H3,I3.tok _,⟨_,rfl⟩,q _⟩
end
section
variable{X:Cx}
def rSlS:V->Option Int->Option Int->Hp->VK->Prop:=λx lo hi H Q=>∃z:Str,x=.str z/\(Txt.slice z lo hi).length<=sizeLine/\Q (.str (Txt.slice z lo hi)) H
theorem part_of{v:Value}{o:Option Int}(p:IsPart v o):∃l:Option (Int×Tok),v=partValue l/\l.map (·.1)=o:=by cases p with|none=>exact⟨none,rfl,rfl⟩|int i t=>exact⟨some (i,t),rfl,rfl⟩
theorem Vz:SlR X rSlS:=by
 intro aa s U H x v vl vu lo hi sl Q I rx hs pl pu h;obtain⟨z,rfl,hz,q⟩:=h;obtain⟨t,rfl⟩:=rx;obtain⟨l,rfl,el⟩:=part_of pl;obtain⟨u,rfl,eu⟩:=part_of pu;refine⟨"str",_,PyProof.Rows.slot_str_getitem.lookup,typeIs_str s z t,?_⟩;refine wpAny_getItem_str_slice (l:=l) (u:=u) (st:=none) hs rfl ?_;have e:Builtin.Str.strSliceIndices lo hi 1 z.length=slicePicked z l u none:=by rw[<- el,<- eu];rfl
 unfold sliceMade;unfold Txt.slice at q hz;rw[e]at q hz;split
 next c=>rw[if_pos (by simpa using c)]at q;exact⟨.str z,H,I,⟨t,rfl⟩,q⟩
 next c=>rw[if_neg (by simpa using c)]at q hz;exact⟨hz,.str _,H,I.tok _,⟨_,rfl⟩,q⟩
end
end L2
namespace L2
open PySem PySem.Spec
section
variable{X:Cx}{aa:List (Addr×Obj)}{U:List (Option V)}{H:Hp}{s:Shared}{a:Addr}{o:Obj}{ah:List (Key×V)}{dS:HO}{xs:List V}
theorem Inv.Jb4(I:Inv X aa U H s)(e:H a=some (.frz o dS))(n:∀o u,X.zu a≠some (.frz o u))(nf:∀o w,dS≠.frz o w):Inv X aa U (upd H a dS) s:=by
 have h1:=(show AZ X.prog X.w H s.heap a (.frz o dS)from I.z9 a _ e)
 have ne:∀{b:Addr}{u:HO},H b=some u->(∀o w,u≠.frz o w)->upd H a dS b=some u:=λ{b u} z q=>by unfold upd;rw[if_neg (λx=>by subst x;rw[e]at z;cases z;exact q _ _ rfl)];exact z
 have no:∀{b:Addr},H b=none->upd H a dS b=none:=λ{b} z=>by unfold upd;rw[if_neg (λx=>by subst x;rw[e]at z;cases z)];exact z
 have st:∀{b:Addr}{u:HO},AZ X.prog X.w H s.heap b u->AZ X.prog X.w (upd H a dS) s.heap b u:=λz=>z.MB (λ_ _ _ q=>q) (λ_ q=>ne q (λ_ _=>nofun)) λ_ _ q=>ne q (λ_ _=>nofun)
 exact⟨I.ok,I.os,I.bare,⟨I.base.keep,I.base.slot,λb ob q z x=>no (I.base.free b ob q z x),I.base.there,λb xs q=>ne (I.base.zL b xs q) (λ_ _=>nofun),λb ob u q=>by
  have q':=I.base.zV b ob u q;unfold upd;rw[if_neg (λx=>by subst x;exact n _ _ q)];exact q',λb ps q=>by
  obtain⟨m,z⟩:=I.base.zN b ps q;exact⟨m,ne z (λ_ _=>nofun)⟩⟩,I.loc,I.cell,no I.free,λx c q=>no (I.zX x c q),λp q=>⟨(I.pin p q).1,no (I.pin p q).2.1,(I.pin p q).2.2⟩,λb u q=>by
  by_cases z:b=a
  .subst z;rw[Ak]at q;cases q;exact st h1.2
  .unfold upd at q;rw[if_neg z]at q;exact st (I.z9 b u q),I.len⟩
def ZJ(td:TE):TE:=λU H Q=>∃a ah,H a=some (.l ah)/\∀o,td U (upd H a (.frz o (.l ah))) λv H1=>H1 a=some (.frz o (.l ah))/\Q v (upd H1 a (.l ah))
theorem SE{e:Expr}{td:TE}(h:PE X e td):PE X e (ZJ td):=by
 intro aa s U H Q I q;obtain⟨a,ah,ha,q⟩:=q;obtain⟨o,I2⟩:=I.freeze ha;refine thn (h aa s U _ _ I2 (q o)) λv s1 ao => ?_
 obtain⟨x,H1,I1,r1,h1,q1⟩:= ao;refine⟨x,_,I1.Jb4 h1 (λob u z=>by rw[I.base.zV a ob u z]at ha;cases ha) (λ_ _=>nofun),r1,q1⟩
end
end L2
namespace PySem
section
variable{prog:Program}{w:World}{A:Around}{E:Value->Shared->Prop}
theorem Yj{it t:Addr}{items:Array Value}(aP:t≠it):∀(n i:Nat)(s:Shared)(Q:List Value->Shared->Prop),s.heap.IsListIter it t i->s.heap.IsList t items->i+n<=items.size ->
  (∀h',h'.IsListIter it t (i+n)->Heap.SameBut it s.heap h'->Q ((items.toList.drop i).take n) {s with heap:=h' })->wpAny (model prog w) A (draw (.ref it) n) Q E s
 |0,i,s,Q,hit,_,_,hQ=>by show wpAny _ _ (pure []) Q E s;exact tS (by simpa using hQ s.heap hit (Heap.SameBut.refl ..))
 |n+1,i,s,Q,hit,ht,hle,hQ=>by
  have cV:i<items.size:=by lia
  show wpAny _ _ (pyNext (.ref it) >>= _) Q E s;refine tM (wpAny_pyNext_list_item hit ht (x:=items[i]) (by simp[cV]) λaH dA bq=>?_);refine tM (wpAny_holding (Yj aP n (i+1) _ _ dA (ht.at λo e=>(bq.2 t aP).trans e) (by lia) λbX ix jm=>tS ?_));have hd:items.toList.drop i=items[i]::items.toList.drop (i+1):=by simp[vW,cV]
  have:=hQ bX (by rw[show i+(n+1)=i+1+n by lia];exact ix) (bq.trans jm);rw[hd,List.take_succ_cons]at this;exact this
theorem El{s:Shared}{env:Env}{bz:List Expr}{x1}{pos:Pos}{t:Addr}{items:Array Value}{Q:Unit->Shared->Prop}(hh:A.handled=none)(ht:s.heap.IsList t items)
  (hn:(assignEach bz env).length=items.size) (jl:(assignEach bz env).findIdx? (·.1)=none)
  (h:∀h',Heap.ExtBut s.heap.objs.size s.heap h'->wpAny (model prog w) A (assignInOrder ((assignEach bz env).map (·.2)) items.toList) Q E {s with heap:=h' }) :
  wpAny (model prog w) A (assign (.Tuple bz x1 pos) env (.ref t)) Q E s:=by
 rw[arm_assign_Tuple];refine tM (wpAny_standAt ?_);unfold unpack;rw[hn,jl];refine tM (wpAny_holding ?_);have cV:t≠s.heap.objs.size:=by obtain⟨o,ho,_⟩:=ht;exact ur (t9 ho)
 unfold unpackItems;refine tM ?_;unfold notIterableAtAll;refine tM (wpAny_specialOf ht.typeIs slot_list_iter.lookup ?_);refine tS ?_;simp only[uJ,if_false];refine tM (wpAny_holding (wpAny_pyIter_list ht ?_));have jZ:(s.heap.push {cls:=.type "list_iterator",data:=.fields #[.ref t,.int 0 0]}).IsList t items:=ht.at λo e=>tN _ e
 refine tM (wpAny_holding (Yj cV items.size 0 _ _ ⟨_,tY _ rfl,rfl,rfl⟩ jZ (by lia) λaH dA bq=>?_));have dw:List.take items.size (List.drop 0 items.toList)=items.toList:=by rw[List.drop_zero];exact vm (by simp)
 rw[dw];rw[if_neg (by simp)];have jn:aH.IsList t items:=jZ.at λo e=>(bq.2 t cV).trans e
 refine tM (wpAny_holding (wpAny_pyNext_list_end hh dA jn (by simp) λbX dZ=>?_));simp only[Option.isSome_none,uJ,if_false];refine tS (h bX λb o hb e=>dZ b o hb (bq.extBut b o hb (tN _ e)))
end
end PySem
namespace L2
open PySem PySem.Spec
section
variable{X:Cx}{pos:Pos}
def gLst(K:Fg)(n:Nat)(t:TGs):TG:=λv U H Q=>∃a xs,v=.ref a/\SqL K H a xs/\xs.length=n/\t xs U H Q
theorem Wa{es:List Expr}{k:Nat}{t:TGs}{n:Nat}(hc:X.calm=true)(h:PGs X es t)
  (hn:(assignEach es X.env).length=n:=by rfl) (dH:(assignEach es X.env).findIdx? (·.1)=none:=by rfl):PG X (.Tuple es k pos) (gLst X.K n t):=by
 intro aa s U H v u Q I r hw;obtain⟨a,xs,e1,hq,hl,hw⟩:=hw;subst e1;cases r;obtain⟨aq,rv,⟨o,m,e,c,d,hs⟩,hz⟩:=I.list hq;refine El (I.ok.hd hc) ⟨o,e,c,m,hs⟩ (by simp[hn,<- hl,rv.length]) dH λh' hx=>?_
 have I1:Inv X aa U H {s with heap:=h' }:=I.kept (t':=s.toks) λb o e=>hx b o (ur (t9 e)) e
 exact h aa _ U H xs _ Q I1 (by simpa using rv) hw
end
end L2
namespace PySem
namespace Zp
section
variable{prog:Program}{w:World}{A:Around}{E:Value->Shared->Prop}{s:Shared}{e it l:Addr}{xs:Array Value}{S:Nat->Heap->Prop}
theorem NZ(W:Draws prog w it l xs S)(ei:e≠it)(le:l≠e){i:Nat}{x old:Value}{Q:Option Value->Shared->Prop}(he:IsEnum s.heap e it i old)(h1:S i s.heap)(hx:xs[i]?=some x)
  (hQ:∀h',IsEnumOut h' e it ((i:Int)+1) x s.heap.objs.size->S (i+1) h'->IsPair h' s.heap.objs.size (.int i s.toks) x->(∀c o,c≠e->c≠it->s.heap.get? c=some o->h'.get? c=some o)->Q (some (.ref s.heap.objs.size)) {s with heap:=h',toks:=s.toks+1}) :
  wpAny (model prog w) A (pyNext (.ref e)) Q E s:=by
 have hT:s.TypeIs (.ref e) "enumerate":=⟨_,he,rfl⟩
 unfold pyNext;refine tM (wpAny_attempt (wpAny_callSpecial?_slot (name:=Str.ofString "__next__") hT F.slot_enumerate_next (wpAny_call_entry F.slot_enumerate_next hT F.entry_enumerate_next ?_ (F.args_enumerate_next_1 _))));obtain⟨hp,g,d,tk,os⟩:=s;show wpAny _ _ (field (.ref e) 2 >>= _) _ _ _;refine tM (uw he rfl (x:=.ref it) rfl ?_);refine tM (W.item _ _ i x _ _ h1 hx λa s1 b1=>?_);replace b1:Heap.SameBut it hp a:=b1;have ea:IsEnum a e it i old:=(b1.2 e ei).trans he;show wpAny _ _ (field (.ref e) 3 >>= _) _ _ ⟨a,g,d,tk,os⟩;refine tM (uw ea rfl (x:=rawInt i) rfl ?_);show wpAny _ _ (field (.ref e) 4 >>= _) _ _ ⟨a,g,d,tk,os⟩;refine tM (uw ea rfl (x:=.none) rfl ?_);show wpAny _ _ (mkInt i >>= _) _ _ ⟨a,g,d,tk,os⟩;refine tM (wpAny_mkInt ?_);show wpAny _ _ (setField (.ref e) 3 (rawInt ((i:Int)+1)) >>= _) _ _ ⟨a,g,d,tk+1,os⟩;refine tM (wpAny_setField_rec ea (by simp) λb eb bb=>?_);replace bb:Heap.SameBut e a b:=bb;replace eb:IsEnum b e it ((i:Int)+1) old:=eb;show wpAny _ _ (setField (.ref e) 4 .none >>= _) _ _ ⟨b,g,d,tk+1,os⟩;refine tM (wpAny_setField_rec eb (by simp) λc ec bc=>?_);replace bc:Heap.SameBut e b c:=bc;replace ec:IsEnum c e it ((i:Int)+1) old:=ec;show wpAny _ _ (newTuple [.int i tk,x] >>= _) _ _ ⟨c,g,d,tk+1,os⟩;refine tM (wpAny_newTuple ?_);have sz:c.objs.size=hp.objs.size:=by rw[bc.1,bb.1,b1.1]
 have lt:e<hp.objs.size:=t9 he;have keep:∀q o,q≠e->q≠it->hp.get? q=some o->c.get? q=some o:=λq o q1 q2 z=>bc.extBut q o q1 (bb.extBut q o q1 (b1.extBut q o q2 z))
 have sc:S (i+1) c:=W.keep _ _ _ s1 (λo z=>bc.extBut _ _ ei.symm (bb.extBut _ _ ei.symm z)) λo z=>bc.extBut _ _ le (bb.extBut _ _ le z)
 have ef:IsEnum (c.push {cls:=.type "tuple",data:=.seq #[.int i tk,x]}) e it ((i:Int)+1) old:=tN _ ec;show wpAny _ _ (Builtin.SmallTypes.ownedTupleIsFree (.ref e) >>= _) _ _ ⟨c.push {cls:=.type "tuple",data:=.seq #[.int i tk,x]},g,d,tk+1,os⟩;refine tM ?_;unfold Builtin.SmallTypes.ownedTupleIsFree;refine tM (uw ef rfl (x:=.none) rfl (tS ?_));simp only[if_true];refine tM (wpAny_rule ?_);refine tM (uw ef rfl (x:=old) rfl ?_);refine tM (wpAny_setField_rec ef (by simp) λf eg bf=>?_);replace bf:Heap.SameBut e (c.push {cls:=.type "tuple",data:=.seq #[.int i tk,x]}) f:=bf;replace eg:IsEnum f e it ((i:Int)+1) x:=eg;show wpAny _ _ (Builtin.SmallTypes.ownedTupleHandOut (.ref e) (.ref c.objs.size) >>= _) _ _ ⟨f,g,d,tk+1,os⟩;refine tM ?_;unfold Builtin.SmallTypes.ownedTupleHandOut;refine tM (wpAny_setField_rec eg (by simp) λk ek bk=>?_);replace bk:Heap.SameBut e f k:=bk;replace ek:IsEnumOut k e it ((i:Int)+1) x c.objs.size:=ek;refine wpAny_setField_rec ek (by simp) λm em bm=>?_;replace bm:Heap.SameBut e k m:=bm;replace em:IsEnumOut m e it ((i:Int)+1) x c.objs.size:=em
 have up:∀q o,q≠e->(c.push {cls:=.type "tuple",data:=.seq #[.int i tk,x]}).get? q=some o->m.get? q=some o:=λq o q1 z=>bm.extBut q o q1 (bk.extBut q o q1 (bf.extBut q o q1 z))
 refine tM (wpAny_letGo (tS ⟨_,rfl,tS ?_⟩));have ne:hp.objs.size≠e:=vS lt;rw[sz]at em ⊢;exact hQ m em (W.keep _ _ _ sc (λo z=>up _ o ei.symm (tN _ z)) λo z=>up _ o le (tN _ z)) (up _ _ ne (by rw[<- sz];exact tY _ rfl)) λq o q1 q2 z=>up q o q1 (tN _ (keep q o q1 q2 z))
theorem Qo(hh:A.handled=none)(W:Draws prog w it l xs S){i:Nat}{old:Value}{Q:Option Value->Shared->Prop}(he:IsEnum s.heap e it i old)(h1:S i s.heap)(hx:xs[i]?=none)
  (hQ:∀h',Heap.ExtBut it s.heap h'->Q none {s with heap:=h' }):wpAny (model prog w) A (pyNext (.ref e)) Q E s:=by
 have hT:s.TypeIs (.ref e) "enumerate":=⟨_,he,rfl⟩
 unfold pyNext;refine tM (wpAny_attempt (wpAny_callSpecial?_slot (name:=Str.ofString "__next__") hT F.slot_enumerate_next (wpAny_call_entry F.slot_enumerate_next hT F.entry_enumerate_next ?_ (F.args_enumerate_next_1 _))));show wpAny _ _ (field (.ref e) 2 >>= _) _ _ _;refine tM (uw he rfl (x:=.ref it) rfl ?_);refine tM (W.stop _ _ i _ _ hh h1 hx λh' x ig j0=>?_);obtain⟨o,ho,hc⟩:=j0;refine tM (wpAny_isInstance (T:="StopIteration") (b:=true) ⟨o,ho,hc⟩ isSubtype_stop ?_);exact tS (hQ _ ig)
end
noncomputable def Us(i:Addr):Obj:={cls:=.type "enumerate",data:=.fields #[.none,.bool false,.ref i,rawInt 0,.none,.none]}
theorem JO(l:Addr)(xs:Array Value)(n:Nat)(dc:Option Addr)(sl:Array (Option Value)) :
  Meets (Builtin.«enumerate.__new__» ⟨[.type "enumerate",.ref l],[]⟩) (λ_ R s=>s.heap.get? l=some {cls:=.type "tuple",dict:=dc,data:=.seq xs n,slots:=sl} /\
   R (.ok (.ret (.ref (s.heap.push (Gk "tuple_iterator" l)).objs.size))) {s with heap:=(s.heap.push (Gk "tuple_iterator" l)).push (Us s.heap.objs.size)}) :=
 .of_wp λprog w A R s h=>by
  obtain⟨hp,g,d,tk,os⟩:=s;obtain⟨hl,h⟩:=h;have fM:=sub_enumerate;have hL:Heap.IsTuple (Shared.heap ⟨hp,g,d,tk,os⟩) l xs:=⟨_,hl,rfl,n,rfl⟩
  wp_walk using wpAny_loadPart' hl
  refine wpAny_stack_any λst=>tS ?_
  split
  next c _ _ _ _ _=>cases(c==Value.type "enumerate")<;>(wp_walk using wpAny_loadPart' hl,wpAny_pyIter_tuple hL;exact⟨_,rfl,h⟩)
  .wp_walk using wpAny_loadPart' hl,wpAny_pyIter_tuple hL;exact⟨_,rfl,h⟩
section
variable{prog:Program}{w:World}{A:Around}{E:Value->Shared->Prop}{s:Shared}
theorem Ol(b:Bool){l:Addr}{xs:Array Value}{Q:Value->Shared->Prop}(c:DB b s.heap l xs)
  (h:∀h',IsEnum h' (s.heap.objs.size+1) s.heap.objs.size 0 .none->Gq b h' s.heap.objs.size l 0->(∀c o,s.heap.get? c=some o->h'.get? c=some o)->Q (.ref (s.heap.objs.size+1)) {s with heap:=h' }) :
  wpAny (model prog w) A (call (.type "enumerate") [.ref l]) Q E s:=by
 cases b
 .exact call_enumerate_list c λh' a1 a2 _ a4=>h h' a1 a2 a4
 .obtain⟨⟨cc,dc,dt,sl⟩,hl,hc,n,hd⟩:=c;replace hc:cc=.type "tuple":=hc;replace hd:dt=.seq xs n:=hd;subst hc hd;refine callType_new F.called_enumerate (by decide) (F.typeCall_enumerate_1 _) (F.newCall_enumerate_1 _) (λobj=>F.args_object_init_2 obj _) F.entry_enumerate_new (JO l xs n dc sl) ⟨hl,?_⟩;have hz:(s.heap.push (Gk "tuple_iterator" l)).objs.size=s.heap.objs.size+1:=u4 ..;have he:IsEnum ((s.heap.push (Gk "tuple_iterator" l)).push (Us s.heap.objs.size)) (s.heap.objs.size+1) s.heap.objs.size 0 .none:=by have:=tY (s.heap.push (Gk "tuple_iterator" l)) (o:=Us s.heap.objs.size) rfl;rw[hz]at this;exact this
  show _/\_;rw[hz];exact⟨⟨_,he,rfl⟩,h _ he (Gq.new (b:=true) (tN _ (tY _ rfl))) λb o x=>tN _ (tN _ x)⟩
end
end Zp
end PySem
namespace L2
open PySem PySem.Spec PyProof.Rows
def Ite(K:Fg)(b:Bool)(a:Addr):It :=
  ⟨λi H=>∃xs x,SqB b K H a xs/\xs[i]?=some x,
   λi H x H'=>∃T vx,H T=none/\x=.ref T/\H'=upd H T (.tup [.int i,vx])/\∀xs,SqB b K H a xs->xs[i]?=some vx,
   λi H=>∃xs,SqB b K H a xs/\xs.length<=i⟩
theorem Mt{P:Program}{w:World}{K:Fg}{bz:List Expr}{k0:Nat}{bJ:Pos}{b:Bool}{a e it:Addr}(ei:e≠it)(ae:a≠e)(ai:a≠it) :
  Turn P w K (.Tuple bz k0 bJ) (Ite K b a) [e,it] e (λi h=>(∃old,IsEnum h e it i old)/\Zp.Gq b h it a i) where
 mem:=by simp
 obj:=λi h st c hc=>by
  obtain⟨⟨old,he⟩,h1⟩:=st;simp only[uk,uI,or_false]at hc;rcases hc with rfl|rfl
  .exact⟨_,he,λv z=>nomatch z⟩
  .exact h1.obj
 keep:=λi h h' st k=>by obtain⟨⟨old,he⟩,h1⟩:=st;exact⟨⟨old,k e (by simp) _ he⟩,h1.at λo z=>k it (by simp) o z⟩
 item:=by
  intro X hP hw hK hc i aa s U H E I hf st hg;subst hP hw hK;obtain⟨⟨old,he⟩,h1⟩:=st;obtain⟨xs,x,q1,ex⟩:=hg;obtain⟨aq,r1,c1,z1⟩:=I.sqb q1;obtain⟨u1,ly,lQ⟩:=r1.get ex;refine Zp.NZ (Zp.A6 b ai) ei ae he ⟨h1,c1⟩ (x:=u1) (by simpa using ly) λh' eo s' hT hk=>⟨_,rfl,?_⟩
  refine wpAny_letOwnedTupleGo_enum eo λh2 e2 sb=>?_
  have Tn:∀{c o},s.heap.get? c=some o->c≠s.heap.objs.size:=λq=>ur (t9 q)
  have Il:Inv X aa U (upd H s.heap.objs.size (.tup [.int i,x])) {s with heap:=s.heap.push {cls:=.type "tuple",data:=.seq #[.int i s.toks,u1]},toks:=s.toks+1} :=
   I.laid (λb o e=>tN _ e) (uh _) ⟨by show 2<=sizeLine;rw[sizeLine_eq];decide,[.int i s.toks,u1],.cons ⟨_,rfl⟩ (.cons lQ .nil),⟨_,tY _ rfl,rfl,_,rfl,rfl⟩⟩
  have cV:∀c∈[e,it],c≠s.heap.objs.size:=λc hc=>by
   simp only[uk,uI,or_false]at hc;rcases hc with rfl|rfl
   .exact Tn he
   .obtain⟨o,q,_⟩:=h1.obj;exact Tn q
  have il:∀c∈[e,it],Jj X aa (upd H s.heap.objs.size (.tup [.int i,x])) c:=λc hc=>by obtain⟨f0,f⟩:=hf c hc;exact⟨by rw[Aj (cV c hc)];exact f0,f⟩
  have I2:Inv X aa U (upd H s.heap.objs.size (.tup [.int i,x])) {s with heap:=h2,toks:=s.toks+1}:=Il.E4 (t':=s.toks+1) (λc o hc z=>by
   have ne:c≠e:=λq=>hc (by simp[q])
   refine sb.extBut _ _ ne ?_;by_cases cT:c=s.heap.objs.size
   .subst cT;have z':(s.heap.push {cls:=.type "tuple",data:=.seq #[.int i s.toks,u1]}).get? s.heap.objs.size=some o:=z;rw[tY _ rfl]at z';cases z';exact hT
   .have z':(s.heap.push {cls:=.type "tuple",data:=.seq #[.int i s.toks,u1]}).get? c=some o:=z;rw[Heap.get?_push_ne _ _ _ cT]at z';exact hk c o ne (λq=>hc (by simp[q])) z') il
  refine⟨.ref s.heap.objs.size,_,I2,rfl,⟨s.heap.objs.size,x,I.z9.fresh (uh _),rfl,rfl,λzs hz=>by rw[I.Jv hz q1];exact ex⟩,?_,λc hc=>(il c hc).1⟩;exact⟨⟨_,by simpa using e2⟩,s'.1.at λo z=>sb.extBut _ _ ei.symm z⟩
 done:=by intro X hP hw hK hc i aa s U H E I hf st hg;subst hP hw hK;obtain⟨⟨old,he⟩,h1⟩:=st;obtain⟨xs,q1,bt⟩:=hg;obtain⟨aq,r1,c1,z1⟩:=I.sqb q1;have e1:=r1.length;exact Zp.Qo (I.ok.hd hc) (Zp.A6 b ai) he ⟨h1,c1⟩ (by simp;lia) λh' hk=>⟨rfl,I.E4 (t':=s.toks) (λc o hc z=>hk c o (λq=>hc (by simp[q])) z) hf⟩
 self:=λ_ _ _ _ _ st h=>by obtain⟨⟨old,he⟩,_⟩:=st;exact wpAny_pyIter_enum he h
def Jaq(K:Fg)(ta:TA):TI:=λU H R=>ta U H λvs H1=>∃b a,vs=[.ref a]/\(∃xs,SqB b K H1 a xs)/\R (Ite K b a) H1
theorem Sz{X:Cx}{a:Expr}{ta:TA}{p pos bJ:Pos}{bz:List Expr}{k0:Nat}(hg:Gl X "enumerate")(hm:X.mg "enumerate"=none)(ha:PA X [a] ta)(hs:starEach [a] X.env=[(false,eval a X.env)]:=by rfl) :
  PI X (.Tuple bz k0 bJ) (.Call (.Name "enumerate" p) [a] [] pos) (Jaq X.K ta):=by
 intro aa s U H R I h;refine Call_ (Dm I hg hm boot_enumerate (callWith_type1 (thn (ha pos aa s U H _ I h) λus s1 ao=>?_) (by rw[hs];rfl) (by rfl)));obtain⟨vs,H1,I1,r1,q1⟩:= ao;obtain⟨b,a1,e,⟨xs,hx⟩,q⟩:=q1;subst e;cases r1 with
 |cons r rr =>
  cases rr;cases r;obtain⟨aq,rv,c,_⟩:=I1.sqb hx;have lt:@LT.lt Nat _ a1 s1.heap.objs.size:=by
   cases b
   .obtain⟨o,e,_⟩:=c;exact t9 e
   .obtain⟨o,e,_⟩:=c;exact t9 e
  refine Zp.Ol b c λh' he hi hk=>?_
  refine wpAny_pyIter_enum he ⟨s1.heap.objs.size+1,[s1.heap.objs.size+1,s1.heap.objs.size],_,Ite X.K b a1,H1,rfl,I1.kept (t':=s1.toks) hk,Mt (by intro z;have z2:@Eq Nat _ _:=z;lia) (by intro z;have z2:@Eq Nat _ _:=z;lia) (by intro z;have z2:@Eq Nat _ _:=z;lia),⟨⟨_,he⟩,hi⟩,λc hc=>?_,q⟩;have gz:@LE.le Nat _ s1.heap.objs.size c:=by
   simp only[uk,uI,or_false]at hc;rcases hc with rfl|rfl
   .exact Nat.le_succ _
   .exact uh _
  exact I1.Qd gz (I1.z9.fresh gz)
end L2
namespace FL
open PySem PySem.Spec L2
inductive T where
 |o|v (b:Bool)|int (i:Int)|str (x:Str)
 |tup (ts:List T)|lst (ts:List T)
 |zY (ts:List T)
 |l (ks:List Key) (ts:List T)|dT (ks:List (List Key)) (ts:List T)
 |ins (C:Addr) (fs:List Str) (ts:List T)
 |x (ks:List Key) (ts:List T)
 |zD (c:Str)
inductive FO where
 |lst (ts:List T)|l (ks:List Key) (ts:List T)|dT (ks:List (List Key)) (ts:List T)
 |ins (C:Addr) (fs:List Str) (os:List FO)|val (t:T)
 |ze (os:List FO)|zc (os:List FO)
 |dO (ks:List Key) (os:List FO)|la (p:Addr) (ts:List T)
inductive Sl where
 |val (t:T)|own (o:FO)|bor (o:FO)
abbrev FS:=List (Option Sl)
inductive Rv where
 |t (t:T)|nw (o:FO)|n (i:Nat)
inductive Out(α:Type) where
 |ok (a:α) (fs:FS)|exc (c:Str) (fs:FS)|bad
inductive SO where
 |nx (fs:FS)|ret (r:Rv) (fs:FS)|brk (fs:FS)|cnt (fs:FS)|exc (c:Str) (fs:FS)|bad
structure Wd where
 f:Addr->Prop
 p:Addr->Prop
instance:CoeFun Wd λ_=>Addr->Prop:=⟨Wd.f⟩
structure Le(F:Wd)(H:Hp)(F':Wd)(H':Hp):Prop where
 f:∀a,F a->F' a/\H' a=H a
 p:∀a,F.p a->F'.p a/\H' a=H a
theorem Le.refl:Le F H F H:=⟨λ_ h=>⟨h,rfl⟩,λ_ h=>⟨h,rfl⟩⟩
theorem Le.trans(x:Le F H F1 H1)(y:Le F1 H1 F2 H2):Le F H F2 H2 :=
 ⟨λa h=>let⟨p,q⟩:=x.f a h;let⟨p2,q2⟩:=y.f a p;⟨p2,q2.trans q⟩,λa h=>let⟨p,q⟩:=x.p a h;let⟨p2,q2⟩:=y.p a p;⟨p2,q2.trans q⟩⟩
section
variable(K:Fg)
def KL(a:Addr)(vs:List V):Prop:=∃(o:Obj)(aq:Array Value)(n:Nat),K.lookup a=some o/\o.cls=.type "list"/\o.dict=none/\o.data=.seq aq n/\aq.size<=sizeLine/\Vals vs aq.toList
def StL(F:Wd)(H:Hp)(a:Addr)(vs:List V):Prop:=(F a/\Rd H a (.lst vs))\/KL K a vs
def StT(F:Wd)(H:Hp)(a:Addr)(vs:List V):Prop:=K=K/\F a/\H a=some (.tup vs)
end
section
variable{K:Fg}{F F':Wd}{H H':Hp}{a:Addr}{vs:List V}
theorem StL.sq(h:StL K F H a vs):SqL K H a vs:=by
 rcases h with⟨_,h⟩|h
 .exact .inl h
 .exact .inr h
theorem StT.sq(h:StT K F H a vs):SqT K H a vs:=SqT.of h.2.2
theorem Rd.same(h:Rd H a u)(e:H' a=H a):Rd H' a u:=by unfold Rd at *;rw[e];exact h
theorem StL.le(h:StL K F H a vs)(l:Le F H F' H'):StL K F' H' a vs:=by
 rcases h with⟨f,h⟩|h
 .exact .inl ⟨(l.f a f).1,FL.Rd.same h (l.f a f).2⟩
 .exact .inr h
theorem StT.le(h:StT K F H a vs)(l:Le F H F' H'):StT K F' H' a vs:=⟨rfl,(l.f a h.2.1).1,(l.f a h.2.1).2.trans h.2.2⟩
end
noncomputable def Cz(K:Fg)(c:Str):Option Addr:=match nsIn K mainGlobals c with|some (some (.ref C))=>some C|_=>none
section
variable(K:Fg)(F:Wd)(H:Hp)
mutual
def Ar:T->V->Prop
 |.o,v=>v=.o
 |.v b,v=>v=.v b
 |.int i,v=>v=.int i
 |.str x,v=>v=.str x
 |.tup ts,v=>∃a vs,v=.ref a/\StT K F H a vs/\Ad ts vs
 |.lst ts,v=>∃a vs,v=.ref a/\F a/\H a=some (.lst vs)/\Ad ts vs
 |.zY ts,v=>∃a vs,v=.ref a/\StL K F H a vs/\Ad ts vs
 |.l ks ts,v=>∃a ah,v=.ref a/\F a/\Rd H a (.l ah)/\ah.map (·.1)=ks/\Ad ts (ah.map (·.2))
 |.dT ks ts,v=>∃a ah,v=.ref a/\F a/\H a=some (.dT ah)/\ah.map (·.1)=ks/\Ad ts (ah.map (·.2))
 |.ins C fs ts,v=>∃a dx ah,v=.ref a/\F a/\H a=some (.ins C dx ah)/\ah.map (·.1)=fs/\Ad ts (ah.map (·.2))
 |.x ks ts,v=>∃a ah,v=.ref a/\F a/\(∃o,H a=some (.frz o (.l ah)))/\ah.map (·.1)=ks/\Ad ts (ah.map (·.2))
 |.zD c,v=>∃a C,v=.ref a/\F a/\H a=some (exO (.ref C) a)/\Cz K c=some C
def Ad:List T->List V->Prop
 | [],vs=>vs=[]
 |t::ts,vs=>∃v r,vs=v::r/\Ar t v/\Ad ts r
end
mutual
def Ao:FO->V->List Addr->Prop
 |.val t,v,L=>L=[]/\Ar K F H t v
 |.lst ts,v,L=>∃a vs,v=.ref a/\H a=some (.lst vs)/\Ad K F H ts vs/\L=[a]
 |.l ks ts,v,L=>∃a ah,v=.ref a/\H a=some (.l ah)/\ah.map (·.1)=ks/\Ad K F H ts (ah.map (·.2))/\L=[a]
 |.dT ks ts,v,L=>∃a ah,v=.ref a/\H a=some (.dT ah)/\ah.map (·.1)=ks/\Ad K F H ts (ah.map (·.2))/\L=[a]
 |.ins C fs os,v,L=>∃a dx ah L',v=.ref a/\H a=some (.ins C dx ah)/\ah.map (·.1)=fs/\Aq os (ah.map (·.2)) L'/\L=a::L'
 |.ze os,v,L=>∃a vs L',v=.ref a/\H a=some (.lst vs)/\Aq os vs L'/\L=a::L'
 |.zc os,v,L=>∃a vs L',v=.ref a/\H a=some (.tup vs)/\Aq os vs L'/\L=a::L'
 |.dO ks os,v,L=>∃a ah L',v=.ref a/\H a=some (.l ah)/\ah.map (·.1)=ks/\Aq os (ah.map (·.2)) L'/\L=a::L'
 |.la p ts,v,L=>∃vs,v=.ref p/\H p=some (.lst vs)/\Ad K F H ts vs/\L=[p]
def Aq:List FO->List V->List Addr->Prop
 | [],vs,L=>vs=[]/\L=[]
 |o::os,vs,L=>∃v r L1 L2,vs=v::r/\Ao o v L1/\Aq os r L2/\L=L1++L2
end
mutual
noncomputable def toT:FO->T
 |.val t=>t
 |.lst ts=>.lst ts
 |.l ks ts=>.l ks ts
 |.dT ks ts=>.dT ks ts
 |.ins C fs os=>.ins C fs (Me os)
 |.ze os=>.lst (Me os)
 |.zc os=>.tup (Me os)
 |.dO ks os=>.l ks (Me os)
 |.la _ ts=>.lst ts
noncomputable def Me:List FO->List T
 | []=>[]
 |o::os=>toT o::Me os
end
def An:FS->St->List Addr->Prop
 | [],U,L=>U=[]/\L=[]
 |none::r,U,L=>∃v au,U=v::au/\An r au L
 |some (.val t)::r,U,L=>∃v au,U=some v::au/\Ar K F H t v/\An r au L
 |some (.own o)::r,U,L=>∃v au L1 L2,U=some v::au/\Ao K F H o v L1/\An r au L2/\L=L1++L2
 |some (.bor o)::r,U,L=>∃v au L1 L2,U=some v::au/\Ao K F H o v L1/\An r au L2/\L=L1++L2
end
section
variable{K:Fg}{F F':Wd}{H H':Hp}
mutual
theorem Ar.le(l:Le F H F' H'):∀{t:T}{v:V},Ar K F H t v->Ar K F' H' t v
 |.o,_,h=>h
 |.v _,_,h=>h
 |.int _,_,h=>h
 |.str _,_,h=>h
 |.tup ts,_,h=>by simp only[Ar]at h ⊢;obtain⟨a,vs,e,s,r⟩:=h;exact⟨a,vs,e,s.le l,Ad.le l r⟩
 |.lst ts,_,h=>by simp only[Ar]at h ⊢;obtain⟨a,vs,e,f,s,r⟩:=h;exact⟨a,vs,e,(l.f a f).1,(l.f a f).2.trans s,Ad.le l r⟩
 |.zY ts,_,h=>by simp only[Ar]at h ⊢;obtain⟨a,vs,e,s,r⟩:=h;exact⟨a,vs,e,s.le l,Ad.le l r⟩
 |.l ks ts,_,h=>by simp only[Ar]at h ⊢;obtain⟨a,ah,e,f,s,k,r⟩:=h;exact⟨a,ah,e,(l.f a f).1,FL.Rd.same s (l.f a f).2,k,Ad.le l r⟩
 |.dT ks ts,_,h=>by simp only[Ar]at h ⊢;obtain⟨a,ah,e,f,s,k,r⟩:=h;exact⟨a,ah,e,(l.f a f).1,(l.f a f).2.trans s,k,Ad.le l r⟩
 |.ins C fs ts,_,h=>by simp only[Ar]at h ⊢;obtain⟨a,dx,ah,e,f,s,k,r⟩:=h;exact⟨a,dx,ah,e,(l.f a f).1,(l.f a f).2.trans s,k,Ad.le l r⟩
 |.x ks ts,_,h=>by simp only[Ar]at h ⊢;obtain⟨a,ah,e,f,⟨o,s⟩,k,r⟩:=h;exact⟨a,ah,e,(l.f a f).1,⟨o,(l.f a f).2.trans s⟩,k,Ad.le l r⟩
 |.zD c,_,h=>by simp only[Ar]at h ⊢;obtain⟨a,C,e,f,s,k⟩:=h;exact⟨a,C,e,(l.f a f).1,(l.f a f).2.trans s,k⟩
theorem Ad.le(l:Le F H F' H'):∀{ts:List T}{vs:List V},Ad K F H ts vs->Ad K F' H' ts vs
 | [],_,h=>h
 |t::ts,_,h=>by simp only[Ad]at h ⊢;obtain⟨v,r,e,h1,h2⟩:=h;exact⟨v,r,e,Ar.le l h1,Ad.le l h2⟩
end
theorem Ad.len:∀{ts:List T}{vs:List V},Ad K F H ts vs->vs.length=ts.length
 | [],_,h=>by simp only[Ad]at h;subst h;rfl
 |t::ts,_,h=>by simp only[Ad]at h;obtain⟨v,r,rfl,_,h2⟩:=h;simp[Ad.len h2]
theorem Ad.at:∀{ts:List T}{vs:List V}{i:Nat}{t:T},Ad K F H ts vs->ts[i]?=some t->∃v,vs[i]?=some v/\Ar K F H t v
 | [],_,_,_,_,e=>by simp at e
 |t::ts,_,0,_,h,e=>by simp only[Ad]at h;obtain⟨v,r,rfl,h1,_⟩:=h;simp at e;subst e;exact⟨v,rfl,h1⟩
 |t::ts,_,i+1,_,h,e=>by simp only[Ad]at h;obtain⟨v,r,rfl,_,h2⟩:=h;obtain⟨u,e1,e2⟩:=Ad.at h2 (by simpa using e);exact⟨u,by simpa using e1,e2⟩
theorem Ad.app:∀{ts us:List T}{vs ws:List V},Ad K F H ts vs->Ad K F H us ws->Ad K F H (ts++us) (vs++ws)
 | [],_,_,_,h,h'=>by simp only[Ad]at h;subst h;exact h'
 |t::ts,us,_,ws,h,h'=>by simp only[Ad]at h;obtain⟨v,r,rfl,h1,h2⟩:=h;show Ad K F H (t::(ts++us)) (v::(r++ws));simp only[Ad];exact⟨v,r++ws,rfl,h1,Ad.app h2 h'⟩
theorem Ad.one(h:Ar K F H t v):Ad K F H [t] [v]:=by simp only[Ad];exact⟨v,[],rfl,h,rfl⟩
theorem Ad.take:∀{ts:List T}{vs:List V}(n:Nat),Ad K F H ts vs->Ad K F H (ts.take n) (vs.take n)
 | [],_,n,h=>by simp only[Ad]at h;subst h;simp[Ad]
 |t::ts,_,0,h=>by simp[Ad]
 |t::ts,_,n+1,h=>by simp only[Ad]at h;obtain⟨v,r,rfl,h1,h2⟩:=h;simp only[List.take_succ_cons,Ad];exact⟨v,_,rfl,h1,Ad.take n h2⟩
theorem Ad.drop:∀{ts:List T}{vs:List V}(n:Nat),Ad K F H ts vs->Ad K F H (ts.drop n) (vs.drop n)
 | [],_,n,h=>by simp only[Ad]at h;subst h;simp[Ad]
 |t::ts,_,0,h=>by simpa using h
 |t::ts,_,n+1,h=>by simp only[Ad]at h;obtain⟨v,r,rfl,h1,h2⟩:=h;simp only[List.drop_succ_cons];exact Ad.drop n h2
theorem Ad.set(q:Ar K F H t v):∀{ts:List T}{vs:List V}(n:Nat),Ad K F H ts vs->Ad K F H (ts.set n t) (vs.set n v)
 | [],_,n,h=>by simp only[Ad]at h;subst h;simp[Ad]
 |u::ts,_,0,h=>by simp only[Ad]at h;obtain⟨w,r,rfl,h1,h2⟩:=h;simp only[List.set_cons_zero,Ad];exact⟨v,r,rfl,q,h2⟩
 |u::ts,_,n+1,h=>by simp only[Ad]at h;obtain⟨w,r,rfl,h1,h2⟩:=h;simp only[List.set_cons_succ,Ad];exact⟨w,_,rfl,h1,Ad.set q n h2⟩
theorem Ad.rev:∀{ts:List T}{vs:List V},Ad K F H ts vs->Ad K F H ts.reverse vs.reverse
 | [],_,h=>by simp only[Ad]at h;subst h;simp[Ad]
 |t::ts,_,h=>by simp only[Ad]at h;obtain⟨v,r,rfl,h1,h2⟩:=h;rw[vX,vX];exact Ad.app (Ad.rev h2) (Ad.one h1)
mutual
theorem Ao.le(l:Le F H F' H'):∀{o:FO}{v:V}{L:List Addr},(∀a∈L,H' a=H a)->Ao K F H o v L->Ao K F' H' o v L
 |.val t,_,L,k,h=>by simp only[Ao]at h ⊢;exact⟨h.1,h.2.le l⟩
 |.lst ts,_,L,k,h=>by simp only[Ao]at h ⊢;obtain⟨a,vs,e,s,r,rfl⟩:=h;exact⟨a,vs,e,(k a (by simp)).trans s,r.le l,rfl⟩
 |.l ks ts,_,L,k,h=>by simp only[Ao]at h ⊢;obtain⟨a,vs,e,s,q,r,rfl⟩:=h;exact⟨a,vs,e,(k a (by simp)).trans s,q,r.le l,rfl⟩
 |.dT ks ts,_,L,k,h=>by simp only[Ao]at h ⊢;obtain⟨a,vs,e,s,q,r,rfl⟩:=h;exact⟨a,vs,e,(k a (by simp)).trans s,q,r.le l,rfl⟩
 |.ins C fs os,_,L,k,h=>by simp only[Ao]at h ⊢;obtain⟨a,dx,ah,L',e,s,q,r,rfl⟩:=h;exact⟨a,dx,ah,L',e,(k a (by simp)).trans s,q,Aq.le l (λb hb=>k b (tV _ hb)) r,rfl⟩
 |.ze os,_,L,k,h=>by simp only[Ao]at h ⊢;obtain⟨a,vs,L',e,s,r,rfl⟩:=h;exact⟨a,vs,L',e,(k a (by simp)).trans s,Aq.le l (λb hb=>k b (tV _ hb)) r,rfl⟩
 |.zc os,_,L,k,h=>by simp only[Ao]at h ⊢;obtain⟨a,vs,L',e,s,r,rfl⟩:=h;exact⟨a,vs,L',e,(k a (by simp)).trans s,Aq.le l (λb hb=>k b (tV _ hb)) r,rfl⟩
 |.dO ks os,_,L,k,h=>by simp only[Ao]at h ⊢;obtain⟨a,ah,L',e,s,q,r,rfl⟩:=h;exact⟨a,ah,L',e,(k a (by simp)).trans s,q,Aq.le l (λb hb=>k b (tV _ hb)) r,rfl⟩
 |.la p ts,_,L,k,h=>by simp only[Ao]at h ⊢;obtain⟨vs,e,s,r,rfl⟩:=h;exact⟨vs,e,(k p (by simp)).trans s,r.le l,rfl⟩
theorem Aq.le(l:Le F H F' H'):∀{os:List FO}{vs:List V}{L:List Addr},(∀a∈L,H' a=H a)->Aq K F H os vs L->Aq K F' H' os vs L
 | [],_,L,k,h=>h
 |o::os,_,L,k,h=>by simp only[Aq]at h ⊢;obtain⟨v,r,L1,L2,e,h1,h2,rfl⟩:=h;exact⟨v,r,L1,L2,e,Ao.le l (λa ha=>k a (ud _ ha)) h1,Aq.le l (λa ha=>k a (ue _ ha)) h2,rfl⟩
end
mutual
theorem Ao.def:∀{o:FO}{v:V}{L:List Addr},Ao K F H o v L->∀a∈L,H a≠none
 |.val t,_,L,h,a,m=>by simp only[Ao]at h;rw[h.1]at m;cases m
 |.lst ts,_,L,h,a,m=>by simp only[Ao]at h;obtain⟨b,vs,e,s,r,rfl⟩:=h;rw[ub.mp m,s];simp
 |.l ks ts,_,L,h,a,m=>by simp only[Ao]at h;obtain⟨b,vs,e,s,q,r,rfl⟩:=h;rw[ub.mp m,s];simp
 |.dT ks ts,_,L,h,a,m=>by simp only[Ao]at h;obtain⟨b,vs,e,s,q,r,rfl⟩:=h;rw[ub.mp m,s];simp
 |.ins C fs os,_,L,h,a,m=>by
  simp only[Ao]at h;obtain⟨b,dx,ah,L',e,s,q,r,rfl⟩:=h;rcases uk.mp m with m|m
  .rw[m,s];simp
  .exact Aq.def r a m
 |.ze os,_,L,h,a,m=>by
  simp only[Ao]at h;obtain⟨b,vs,L',e,s,r,rfl⟩:=h;rcases uk.mp m with m|m
  .rw[m,s];simp
  .exact Aq.def r a m
 |.zc os,_,L,h,a,m=>by
  simp only[Ao]at h;obtain⟨b,vs,L',e,s,r,rfl⟩:=h;rcases uk.mp m with m|m
  .rw[m,s];simp
  .exact Aq.def r a m
 |.dO ks os,_,L,h,a,m=>by
  simp only[Ao]at h;obtain⟨b,vs,L',e,s,q,r,rfl⟩:=h;rcases uk.mp m with m|m
  .rw[m,s];simp
  .exact Aq.def r a m
 |.la p ts,_,L,h,a,m=>by simp only[Ao]at h;obtain⟨vs,e,s,r,rfl⟩:=h;rw[ub.mp m,s];simp
theorem Aq.def:∀{os:List FO}{vs:List V}{L:List Addr},Aq K F H os vs L->∀a∈L,H a≠none
 | [],_,L,h,a,m=>by simp only[Aq]at h;rw[h.2]at m;cases m
 |o::os,_,L,h,a,m=>by
  simp only[Aq]at h;obtain⟨v,r,L1,L2,e,h1,h2,rfl⟩:=h;rcases tW.mp m with m|m
  .exact Ao.def h1 a m
  .exact Aq.def h2 a m
end
mutual
theorem Ao.frz(l:Le F H F' H):∀{o:FO}{v:V}{L:List Addr},(∀a∈L,F' a)->Ao K F H o v L->Ar K F' H (toT o) v
 |.val t,_,L,k,h=>by simp only[Ao]at h;exact Ar.le l h.2
 |.lst ts,_,L,k,h=>by simp only[Ao]at h;obtain⟨a,vs,e,s,r,rfl⟩:=h;simp only[toT,Ar];exact⟨a,vs,e,k a (by simp),s,Ad.le l r⟩
 |.l ks ts,_,L,k,h=>by simp only[Ao]at h;obtain⟨a,vs,e,s,q,r,rfl⟩:=h;simp only[toT,Ar];exact⟨a,vs,e,k a (by simp),.inl s,q,Ad.le l r⟩
 |.dT ks ts,_,L,k,h=>by simp only[Ao]at h;obtain⟨a,vs,e,s,q,r,rfl⟩:=h;simp only[toT,Ar];exact⟨a,vs,e,k a (by simp),s,q,Ad.le l r⟩
 |.ins C fs os,_,L,k,h=>by simp only[Ao]at h;obtain⟨a,dx,ah,L',e,s,q,r,rfl⟩:=h;simp only[toT,Ar];exact⟨a,dx,ah,e,k a (by simp),s,q,Aq.frz l (λb hb=>k b (tV _ hb)) r⟩
 |.ze os,_,L,k,h=>by simp only[Ao]at h;obtain⟨a,vs,L',e,s,r,rfl⟩:=h;simp only[toT,Ar];exact⟨a,vs,e,k a (by simp),s,Aq.frz l (λb hb=>k b (tV _ hb)) r⟩
 |.zc os,_,L,k,h=>by simp only[Ao]at h;obtain⟨a,vs,L',e,s,r,rfl⟩:=h;simp only[toT,Ar];exact⟨a,vs,e,⟨rfl,k a (by simp),s⟩,Aq.frz l (λb hb=>k b (tV _ hb)) r⟩
 |.dO ks os,_,L,k,h=>by simp only[Ao]at h;obtain⟨a,ah,L',e,s,q,r,rfl⟩:=h;simp only[toT,Ar];exact⟨a,ah,e,k a (by simp),.inl s,q,Aq.frz l (λb hb=>k b (tV _ hb)) r⟩
 |.la p ts,_,L,k,h=>by simp only[Ao]at h;obtain⟨vs,e,s,r,rfl⟩:=h;simp only[toT,Ar];exact⟨p,vs,e,k p (by simp),s,Ad.le l r⟩
theorem Aq.frz(l:Le F H F' H):∀{os:List FO}{vs:List V}{L:List Addr},(∀a∈L,F' a)->Aq K F H os vs L->Ad K F' H (Me os) vs
 | [],_,L,k,h=>by simp only[Aq]at h;simp only[Me,Ad];exact h.1
 |o::os,_,L,k,h=>by simp only[Aq]at h;obtain⟨v,r,L1,L2,e,h1,h2,rfl⟩:=h;simp only[Me,Ad];exact⟨v,r,e,Ao.frz l (λa ha=>k a (ud _ ha)) h1,Aq.frz l (λa ha=>k a (ue _ ha)) h2⟩
end
theorem An.len:∀{fs:FS}{U:St}{L:List Addr},An K F H fs U L->U.length=fs.length
 | [],_,_,h=>by simp only[An]at h;rw[h.1];rfl
 |none::r,_,_,h=>by simp only[An]at h;obtain⟨v,au,rfl,h⟩:=h;simp[An.len h]
 |some (.val t)::r,_,_,h=>by simp only[An]at h;obtain⟨v,au,rfl,_,h⟩:=h;simp[An.len h]
 |some (.own t)::r,_,_,h=>by simp only[An]at h;obtain⟨v,au,L1,L2,rfl,_,h,_⟩:=h;simp[An.len h]
 |some (.bor t)::r,_,_,h=>by simp only[An]at h;obtain⟨v,au,L1,L2,rfl,_,h,_⟩:=h;simp[An.len h]
theorem An.le(l:Le F H F' H'):∀{fs:FS}{U:St}{L:List Addr},(∀a∈L,H' a=H a)->An K F H fs U L->An K F' H' fs U L
 | [],_,_,k,h=>h
 |none::r,_,_,k,h=>by simp only[An]at h ⊢;obtain⟨v,au,e,h⟩:=h;exact⟨v,au,e,An.le l k h⟩
 |some (.val t)::r,_,_,k,h=>by simp only[An]at h ⊢;obtain⟨v,au,e,q,h⟩:=h;exact⟨v,au,e,q.le l,An.le l k h⟩
 |some (.own t)::r,_,_,k,h=>by simp only[An]at h ⊢;obtain⟨v,au,L1,L2,e,q,h,rfl⟩:=h;exact⟨v,au,L1,L2,e,q.le l λa ha=>k a (ud _ ha),An.le l (λa ha=>k a (ue _ ha)) h,rfl⟩
 |some (.bor t)::r,_,_,k,h=>by simp only[An]at h ⊢;obtain⟨v,au,L1,L2,e,q,h,rfl⟩:=h;exact⟨v,au,L1,L2,e,q.le l λa ha=>k a (ud _ ha),An.le l (λa ha=>k a (ue _ ha)) h,rfl⟩
theorem An.def:∀{fs:FS}{U:St}{L:List Addr},An K F H fs U L->∀a∈L,H a≠none
 | [],_,_,h,a,m=>by simp only[An]at h;rw[h.2]at m;cases m
 |none::r,_,_,h,a,m=>by simp only[An]at h;obtain⟨v,au,e,h⟩:=h;exact An.def h a m
 |some (.val t)::r,_,_,h,a,m=>by simp only[An]at h;obtain⟨v,au,e,q,h⟩:=h;exact An.def h a m
 |some (.own t)::r,_,_,h,a,m=>by
  simp only[An]at h;obtain⟨v,au,L1,L2,e,q,h,rfl⟩:=h;rcases tW.mp m with m|m
  .exact q.def a m
  .exact An.def h a m
 |some (.bor t)::r,_,_,h,a,m=>by
  simp only[An]at h;obtain⟨v,au,L1,L2,e,q,h,rfl⟩:=h;rcases tW.mp m with m|m
  .exact q.def a m
  .exact An.def h a m
def Kj(K:Fg)(F:Wd)(H:Hp):Option Sl->Option V->List Addr->Prop
 |none,_,L=>L=[]
 |some (.val t),v,L=>∃u,v=some u/\Ar K F H t u/\L=[]
 |some (.own o),v,L=>∃u,v=some u/\Ao K F H o u L
 |some (.bor o),v,L=>∃u,v=some u/\Ao K F H o u L
theorem An.cons(h1:Kj K F H s v L1)(h2:An K F H r U L2):An K F H (s::r) (v::U) (L1++L2):=by cases s with|none =>simp only[Kj]at h1;subst h1;simp only[An];exact⟨v,U,rfl,h2⟩|some s =>cases s with|val t =>simp only[Kj]at h1;obtain⟨u,rfl,q,rfl⟩:=h1;simp only[An];exact⟨u,U,rfl,q,h2⟩|own o =>simp only[Kj]at h1;obtain⟨u,rfl,q⟩:=h1;simp only[An];exact⟨u,U,L1,L2,rfl,q,h2,rfl⟩|bor o =>simp only[Kj]at h1;obtain⟨u,rfl,q⟩:=h1;simp only[An];exact⟨u,U,L1,L2,rfl,q,h2,rfl⟩
theorem An.Gu(h:An K F H (s::r) U L):∃v au L1 L2,U=v::au/\Kj K F H s v L1/\An K F H r au L2/\L=L1++L2:=by cases s with|none =>simp only[An]at h;obtain⟨v,au,rfl,h⟩:=h;exact⟨v,au,[],L,rfl,rfl,h,rfl⟩|some s =>cases s with|val t =>simp only[An]at h;obtain⟨v,au,rfl,q,h⟩:=h;exact⟨some v,au,[],L,rfl,⟨v,rfl,q,rfl⟩,h,rfl⟩|own o =>simp only[An]at h;obtain⟨v,au,L1,L2,rfl,q,h,rfl⟩:=h;exact⟨some v,au,L1,L2,rfl,⟨v,rfl,q⟩,h,rfl⟩|bor o =>simp only[An]at h;obtain⟨v,au,L1,L2,rfl,q,h,rfl⟩:=h;exact⟨some v,au,L1,L2,rfl,⟨v,rfl,q⟩,h,rfl⟩
theorem An.pick:∀{fs:FS}{U:St}{L:List Addr}{i:Nat}{s:Option Sl},An K F H fs U L->fs[i]?=some s->∃v L1 L2 L3,U[i]?=some v/\L=L1++(L2++L3)/\Kj K F H s v L2 /\
  ∀(F':Wd)(H':Hp)(s':Option Sl)(v':Option V)(iN:List Addr),Le F H F' H'->(∀a∈L1++L3,H' a=H a)->Kj K F' H' s' v' iN->An K F' H' (fs.set i s') (U.set i v') (L1++(iN++L3))
 | [],_,_,_,_,_,e=>by simp at e
 |s::r,_,_,0,_,h,e=>by obtain⟨v,au,L1,L2,rfl,h1,h2,rfl⟩:=h.Gu;simp at e;subst e;refine⟨v,[],L1,L2,rfl,rfl,h1,λF' H' s' v' iN l k q=>?_⟩;have h3:=An.cons q (h2.le l λa ha=>k a (by simpa using ha));exact h3
 |s::r,_,_,i+1,_,h,e=>by
  obtain⟨v,au,L1,L2,rfl,h1,h2,rfl⟩:=h.Gu;obtain⟨w,M1,M2,M3,e1,rfl,h3,h4⟩:=An.pick h2 (by simpa using e);refine⟨w,L1++M1,M2,M3,by simpa using e1,by simp,h3,λF' H' s' v' iN l k q=>?_⟩;have h5:=h4 F' H' s' v' iN l (λa ha=>k a (by simp at ha ⊢;rcases ha with ha|ha;exact .inr (.inl ha);exact .inr (.inr ha))) q;have h6:Kj K F' H' s v L1:=by cases s with|none=>exact h1|some s =>cases s with|val t =>obtain⟨u,e,q,z⟩:=h1;exact⟨u,e,q.le l,z⟩|own o =>obtain⟨u,e,q⟩:=h1;exact⟨u,e,q.le l λa ha=>k a (by simp[ha])⟩|bor o =>obtain⟨u,e,q⟩:=h1;exact⟨u,e,q.le l λa ha=>k a (by simp[ha])⟩
  have h7:=An.cons h6 h5;simpa using h7
mutual
theorem Ar.wp:∀{t:T}{v:V},Ar K F H t v->Ar K ⟨F.f,p⟩ H t v
 |.o,_,h=>h
 |.v _,_,h=>h
 |.int _,_,h=>h
 |.str _,_,h=>h
 |.tup ts,_,h=>by simp only[Ar]at h ⊢;obtain⟨a,vs,e,s,r⟩:=h;exact⟨a,vs,e,s,Ad.wp r⟩
 |.lst ts,_,h=>by simp only[Ar]at h ⊢;obtain⟨a,vs,e,f,s,r⟩:=h;exact⟨a,vs,e,f,s,Ad.wp r⟩
 |.zY ts,_,h=>by simp only[Ar]at h ⊢;obtain⟨a,vs,e,s,r⟩:=h;exact⟨a,vs,e,s,Ad.wp r⟩
 |.l ks ts,_,h=>by simp only[Ar]at h ⊢;obtain⟨a,ah,e,f,s,k,r⟩:=h;exact⟨a,ah,e,f,s,k,Ad.wp r⟩
 |.dT ks ts,_,h=>by simp only[Ar]at h ⊢;obtain⟨a,ah,e,f,s,k,r⟩:=h;exact⟨a,ah,e,f,s,k,Ad.wp r⟩
 |.ins C fs ts,_,h=>by simp only[Ar]at h ⊢;obtain⟨a,dx,ah,e,f,s,k,r⟩:=h;exact⟨a,dx,ah,e,f,s,k,Ad.wp r⟩
 |.x ks ts,_,h=>by simp only[Ar]at h ⊢;obtain⟨a,ah,e,f,s,k,r⟩:=h;exact⟨a,ah,e,f,s,k,Ad.wp r⟩
 |.zD c,_,h=>by simp only[Ar]at h ⊢;obtain⟨a,C,e,f,s,k⟩:=h;exact⟨a,C,e,f,s,k⟩
theorem Ad.wp:∀{ts:List T}{vs:List V},Ad K F H ts vs->Ad K ⟨F.f,p⟩ H ts vs
 | [],_,h=>h
 |t::ts,_,h=>by simp only[Ad]at h ⊢;obtain⟨v,r,e,h1,h2⟩:=h;exact⟨v,r,e,Ar.wp h1,Ad.wp h2⟩
end
mutual
theorem Ao.wp:∀{o:FO}{v:V}{L:List Addr},Ao K F H o v L->Ao K ⟨F.f,p⟩ H o v L
 |.val t,_,L,h=>by simp only[Ao]at h ⊢;exact⟨h.1,h.2.wp⟩
 |.lst ts,_,L,h=>by simp only[Ao]at h ⊢;obtain⟨a,vs,e,s,r,q⟩:=h;exact⟨a,vs,e,s,r.wp,q⟩
 |.l ks ts,_,L,h=>by simp only[Ao]at h ⊢;obtain⟨a,vs,e,s,q,r,z⟩:=h;exact⟨a,vs,e,s,q,r.wp,z⟩
 |.dT ks ts,_,L,h=>by simp only[Ao]at h ⊢;obtain⟨a,vs,e,s,q,r,z⟩:=h;exact⟨a,vs,e,s,q,r.wp,z⟩
 |.ins C fs os,_,L,h=>by simp only[Ao]at h ⊢;obtain⟨a,dx,ah,L',e,s,q,r,z⟩:=h;exact⟨a,dx,ah,L',e,s,q,Aq.wp r,z⟩
 |.ze os,_,L,h=>by simp only[Ao]at h ⊢;obtain⟨a,vs,L',e,s,r,z⟩:=h;exact⟨a,vs,L',e,s,Aq.wp r,z⟩
 |.zc os,_,L,h=>by simp only[Ao]at h ⊢;obtain⟨a,vs,L',e,s,r,z⟩:=h;exact⟨a,vs,L',e,s,Aq.wp r,z⟩
 |.dO ks os,_,L,h=>by simp only[Ao]at h ⊢;obtain⟨a,vs,L',e,s,q,r,z⟩:=h;exact⟨a,vs,L',e,s,q,Aq.wp r,z⟩
 |.la p ts,_,L,h=>by simp only[Ao]at h ⊢;obtain⟨vs,e,s,r,z⟩:=h;exact⟨vs,e,s,r.wp,z⟩
theorem Aq.wp:∀{os:List FO}{vs:List V}{L:List Addr},Aq K F H os vs L->Aq K ⟨F.f,p⟩ H os vs L
 | [],_,L,h=>h
 |o::os,_,L,h=>by simp only[Aq]at h ⊢;obtain⟨v,r,L1,L2,e,h1,h2,z⟩:=h;exact⟨v,r,L1,L2,e,Ao.wp h1,Aq.wp h2,z⟩
end
theorem An.wp:∀{fs:FS}{U:St}{L:List Addr},An K F H fs U L->An K ⟨F.f,p⟩ H fs U L
 | [],_,_,h=>h
 |none::r,_,_,h=>by simp only[An]at h ⊢;obtain⟨v,au,e,h⟩:=h;exact⟨v,au,e,An.wp h⟩
 |some (.val t)::r,_,_,h=>by simp only[An]at h ⊢;obtain⟨v,au,e,q,h⟩:=h;exact⟨v,au,e,q.wp,An.wp h⟩
 |some (.own t)::r,_,_,h=>by simp only[An]at h ⊢;obtain⟨v,au,L1,L2,e,q,h,z⟩:=h;exact⟨v,au,L1,L2,e,q.wp,An.wp h,z⟩
 |some (.bor t)::r,_,_,h=>by simp only[An]at h ⊢;obtain⟨v,au,L1,L2,e,q,h,z⟩:=h;exact⟨v,au,L1,L2,e,q.wp,An.wp h,z⟩
theorem Kj.le(l:Le F H F' H')(k:∀a∈L,H' a=H a)(h:Kj K F H s v L):Kj K F' H' s v L:=by cases s with|none=>exact h|some s =>cases s with|val t =>obtain⟨u,e,q,z⟩:=h;exact⟨u,e,q.le l,z⟩|own o =>obtain⟨u,e,q⟩:=h;exact⟨u,e,q.le l k⟩|bor o =>obtain⟨u,e,q⟩:=h;exact⟨u,e,q.le l k⟩
end
def En(B:Nat->Option V)(fs:FS)(U:St):Prop:=∀(i:Nat)(o:FO),fs[i]?=some (some (.bor o))->∃v,U[i]?=some (some v)/\B i=some v
structure Ok(K:Fg)(F:Wd)(B:Nat->Option V)(H:Hp)(fs:FS)(U:St)(L:List Addr):Prop where
 sl:An K F H fs U L
 nd:L.Nodup
 nf:∀a∈L,¬F a
 fd:∀a,F a->H a≠none
 bo:En B fs U
 pd:∀a,F.p a->H a≠none
 pf:∀a,F a->¬F.p a
 pl:∀a∈L,¬F.p a
def Okk(K:Fg)(F:Wd)(B:Nat->Option V)(H:Hp)(fs:FS)(U:St):Prop:=∃L,Ok K F B H fs U L
structure Xp where
 p:Wd->(Nat->Option V)->Hp->Str->FS->Prop
 mono:∀{F:Wd}{B:Nat->Option V}{H:Hp}{c:Str}{fs:FS}{F':Wd}{H':Hp},p F B H c fs->Le F H F' H'->p F' B H' c fs
noncomputable def Xp.no:Xp:=⟨λ_ _ _ _ _=>False,λh _=>h⟩
def sat(Z:Xp)(B:Nat->Option V){α β:Type}(R:Wd->Hp->FS->α->β->Prop)(F:Wd)(H:Hp)(o:Out α)(Q:β->Hp->Prop):Prop :=
 match o with|.ok a fs=>∀F' H' b,Le F H F' H'->R F' H' fs a b->Q b H'|.exc c fs=>Z.p F B H c fs|.bad=>False
theorem sat.le(h:sat Z B R F H o Q)(l:Le F H F' H'):sat Z B R F' H' o Q:=by
 cases o with
 |ok a fs=>exact λF2 H2 b l2 r=>h F2 H2 b (l.trans l2) r
 |exc c fs=>exact Z.mono h l
 |bad=>exact h
noncomputable def Out.bind{α β:Type}(o:Out α)(k:α->FS->Out β):Out β:=match o with|.ok a fs=>k a fs|.exc c fs=>.exc c fs|.bad=>.bad
theorem Ax{R2:Wd->Hp->FS->γ->δ->Prop}
  (h:sat Z B R2 F H (o.bind k) Q) (hk:∀a fs F' H' b,Le F H F' H'->R1 F' H' fs a b->sat Z B R2 F' H' (k a fs) Q->Q' b H'):sat Z B R1 F H o Q':=by
 cases o with
 |ok a fs=>exact λF2 H2 b l r=>hk a fs F2 H2 b l r (sat.le h l)
 |exc c fs=>exact h
 |bad=>exact h
def Ox(K:Fg)(F:Wd)(H:Hp)(U:St):Rv->V->List Addr->Prop
 |.t t,v,L=>L=[]/\Ar K F H t v
 |.nw o,v,L=>Ao K F H o v L
 |.n i,v,L=>L=[]/\U[i]?=some (some v)
inductive RR(K:Fg)(B:Nat->Option V)(U:St)(F:Wd)(H:Hp)(fs:FS)(r:Rv)(u:V):Prop
 |mk (L L':List Addr) (h0:Ok K F B H fs U L) (h1:Ox K F H U r u L') (h2:(L++L').Nodup) (h3:∀a∈L',¬F a/\¬F.p a)
def Bz(K:Fg)(F:Wd)(H:Hp)(U:St):Rv->V->Prop
 |.t t,v=>Ar K F H t v
 |.nw _,_=>False
 |.n i,v=>U[i]?=some (some v)
noncomputable def Out.bnd{α:Type}(o:Out Rv)(k:Rv->FS->Out α):Out α:=o.bind λr fs=>match r with|.nw _=>.bad|.t t=>k (.t t) fs|.n i=>k (.n i) fs
section
variable{K:Fg}{Z:Xp}{B:Nat->Option V}{F F':Wd}{H H':Hp}{U:St}{fs:FS}{r:Rv}{u:V}
theorem Bz.le(h:Bz K F H U r u)(l:Le F H F' H'):Bz K F' H' U r u:=by cases r with|t t=>exact Ar.le l h|nw o=>exact h|n i=>exact h
theorem RR.of(h:Okk K F B H fs U)(q:Bz K F H U r u):RR K B U F H fs r u:=by obtain⟨L,h⟩:=h;refine⟨L,[],h,?_,by simpa using h.nd,(λ_ m=>nomatch m)⟩;cases r with|t t=>exact⟨rfl,q⟩|nw o=>exact q.elim|n i=>exact⟨rfl,q⟩
theorem RR.ok(h:RR K B U F H fs r u):Okk K F B H fs U:=let⟨L,_,h,_,_,_⟩:=h;⟨L,h⟩
theorem Ay{R2:Wd->Hp->FS->γ->δ->Prop}{o:Out Rv}
  (h:sat Z B R2 F H (o.bnd k) Q) (hk:∀r fs F' H' u,Le F H F' H'->Okk K F' B H' fs U->Bz K F' H' U r u->sat Z B R2 F' H' (k r fs) Q->Q' u H'):sat Z B (RR K B U) F H o Q':=by
 refine Ax h λr fs F' H' u l q s=>?_
 cases r with|t t =>obtain⟨L,L',q1,q2,_⟩:=q;exact hk (.t t) fs F' H' u l ⟨L,q1⟩ q2.2 s|nw o=>exact s.elim|n i =>obtain⟨L,L',q1,q2,_⟩:=q;exact hk (.n i) fs F' H' u l ⟨L,q1⟩ q2.2 s
end
inductive tF(K:Fg)(Z:Xp)(f:FS->Out Rv)(U:St)(H:Hp)(Q:VK):Prop
 |mk (F:Wd) (B:Nat->Option V) (fs:FS) (h0:Okk K F B H fs U) (h1:sat Z B (RR K B U) F H (f fs) Q)
def RB(K:Fg)(B:Nat->Option V)(U:St):Wd->Hp->FS->Bool->Bool->Prop:=λF H fs b b'=>Okk K F B H fs U/\b'=b
inductive tT(K:Fg)(Z:Xp)(f:FS->Out Bool)(U:St)(H:Hp)(Q:Bool->Hp->Prop):Prop
 |mk (F:Wd) (B:Nat->Option V) (fs:FS) (h0:Okk K F B H fs U) (h1:sat Z B (RB K B U) F H (f fs) Q)
def HJ(K:Fg)(F:Wd)(H:Hp)(U:St):List Rv->List V->Prop
 | [],vs=>vs=[]
 |r::rs,vs=>∃v w,vs=v::w/\Bz K F H U r v/\HJ K F H U rs w
def RA(K:Fg)(B:Nat->Option V)(U:St):Wd->Hp->FS->List Rv->List V->Prop:=λF H fs rs vs=>Okk K F B H fs U/\HJ K F H U rs vs
inductive tA(K:Fg)(Z:Xp)(f:FS->Out (List Rv))(U:St)(H:Hp)(Q:List V->Hp->Prop):Prop
 |mk (F:Wd) (B:Nat->Option V) (fs:FS) (h0:Okk K F B H fs U) (h1:sat Z B (RA K B U) F H (f fs) Q)
def FE(X:Cx)(Z:Xp)(e:Expr)(f:FS->Out Rv):Prop:=PE X e (tF X.K Z f)
def FT(X:Cx)(Z:Xp)(e:Expr)(f:FS->Out Bool):Prop:=PT X e (tT X.K Z f)
def FA(X:Cx)(Z:Xp)(es:List Expr)(f:FS->Out (List Rv)):Prop:=PA X es (tA X.K Z f)
theorem AJ(h:PE X e t)(i:∀U H Q,t' U H Q->t U H Q):PE X e t':=λaa s U H Q I q=>h aa s U H Q I (i _ _ _ q)
theorem Kt(h:PT X e t)(i:∀U H Q,t' U H Q->t U H Q):PT X e t':=λaa s U H Q I q=>h aa s U H Q I (i _ _ _ q)
theorem Ky(h:PA X e t)(i:∀U H Q,t' U H Q->t U H Q):PA X e t':=λpos aa s U H Q I q=>h pos aa s U H Q I (i _ _ _ q)
theorem BM(h:PS X e t)(i:∀D U H,t' D U H->t D U H):PS X e t':=λaa s U H D I q=>h aa s U H D I (i _ _ _ q)
theorem ML(h:PSs X e t)(i:∀D U H,t' D U H->t D U H):PSs X e t':=λaa s U H D I q=>h aa s U H D I (i _ _ _ q)
section
variable{K:Fg}{B:Nat->Option V}{F:Wd}{H:Hp}{U:St}{fs:FS}{p:Addr}{o:HO}
noncomputable def Ow(F:Wd)(p:Addr):Wd:=⟨λa=>F a\/a=p,F.p⟩
theorem AN(h:Okk K F B H fs U)(hp:H p=none):Le F H (Ow F p) (upd H p o) :=
 let⟨_,h⟩:=h
 ⟨λa f=>⟨.inl f,Aj λe=>h.fd a f (e▸hp)⟩,λa f=>⟨f,Aj λe=>h.pd a f (e▸hp)⟩⟩
theorem AE(h:Okk K F B H fs U)(hp:H p=none):Le F H F (upd H p o) :=
 let⟨_,h⟩:=h
 ⟨λa f=>⟨f,Aj λe=>h.fd a f (e▸hp)⟩,λa f=>⟨f,Aj λe=>h.pd a f (e▸hp)⟩⟩
theorem CT(h:H a≠none):upd H p o a≠none:=by
 by_cases e:a=p
 .subst e;rw[Ak];simp
 .rw[Aj e];exact h
theorem Ok.Tq(h:Ok K F B H fs U L)(hp:H p=none):∀a∈L,(upd H p o) a=H a:=λa m=>Aj λe=>h.sl.def a m (e▸hp)
theorem Okk.fd(h:Okk K F B H fs U):∀a,F a->H a≠none:=let⟨_,h⟩:=h;h.fd
theorem Okk.alloc(h:Okk K F B H fs U)(hp:H p=none):Okk K (Ow F p) B (upd H p o) fs U:=by
 obtain⟨L,h⟩:=h;refine⟨L,h.sl.le (AN ⟨L,h⟩ hp) (h.Tq hp),h.nd,λa m q=>?_,λa q=>?_,h.bo,λa q=>CT (h.pd a q),λa q z=>?_,h.pl⟩
 rotate_left 2
 .rcases q with q|q
  .exact h.pf a q z
  .exact h.pd a z (q▸hp)
 .rcases q with q|q
  .exact h.nf a m q
  .exact h.sl.def a m (q▸hp)
 .rcases q with q|q
  .exact CT (h.fd a q)
  .rw[q,Ak];simp
theorem RR.alloc(h:Okk K F B H fs U)(hp:H p=none)(q:Ao K F (upd H p o) ob (.ref p) [p]):RR K B U F (upd H p o) fs (.nw ob) (.ref p):=by
 obtain⟨L,h⟩:=h;refine⟨L,[p],⟨h.sl.le (AE ⟨L,h⟩ hp) (h.Tq hp),h.nd,h.nf,λa q=>CT (h.fd a q),h.bo,λa q=>CT (h.pd a q),h.pf,h.pl⟩,q,?_,λa m=>?_⟩
 .rw[tQ];exact⟨h.nd,by simp,λa ma b mb e=>h.sl.def a ma (by rw[e,ub.mp mb];exact hp)⟩
 .rw[ub.mp m];exact⟨λf=>h.fd p f hp,λf=>h.pd p f hp⟩
end
noncomputable def Sl.put:Sl->FO->Sl
 |.own _,o=>.own o
 |.bor _,o=>.bor o
 |.val t,_=>.val t
noncomputable def AD(fs:FS)(i:Nat):Option FO:=match fs[i]? with|some (some (.own o))=>some o|some (some (.bor o))=>some o|_=>none
noncomputable def putAt(fs:FS)(i:Nat)(o:FO):FS:=match fs[i]? with|some (some s)=>fs.set i (some (s.put o))|_=>fs
section
variable{K:Fg}{B:Nat->Option V}{F F':Wd}{H H':Hp}{U:St}{fs:FS}{i:Nat}{ob:FO}
theorem En.put(h:En B fs U)(hs:∀o,s=some (.bor o)->∃u,v=some u/\B i=some u)(hl:U.length=fs.length):En B (fs.set i s) (U.set i v):=by
 intro j o e;by_cases hj:i=j
 .subst hj;have hi:=by have:=(tX.mp e).1;simpa using this
  rw[uQ hi]at e;obtain⟨u,e1,e2⟩:=hs o (by simpa using e);exact⟨u,by rw[uQ (by lia),e1],e2⟩
 .rw[uT hj]at e;obtain⟨v,e1,e2⟩:=h j o e;exact⟨v,by rw[uT hj];exact e1,e2⟩
theorem A5{l:List α}(h:l[i]?=some x):l.set i x=l:=by
 apply List.ext_getElem?;intro j;by_cases hj:i=j
 .subst hj;rw[uQ (tX.mp h).1,h]
 .rw[uT hj]
theorem BD{L1 L2 L3 M:List Addr}(h:(L1++(L2++L3)).Nodup)(hm:M.Nodup)(d:∀a∈M,a∉L1++L3):(L1++(M++L3)).Nodup:=by
 rw[tQ]at h ⊢;obtain⟨h1,h2,h3⟩:=h;rw[tQ]at h2;obtain⟨h4,h5,h6⟩:=h2;refine⟨h1,?_,λa ha b hb e=>?_⟩
 .rw[tQ];exact⟨hm,h5,λa ha b hb e=>d a ha (by rw[e];exact ue _ hb)⟩
 .rcases tW.mp hb with hb|hb
  .exact d b hb (by rw[<- e];exact ud _ ha)
  .exact h3 a ha b (ue _ hb) e
theorem Okk.own(h:Okk K F B H fs U)(e:AD fs i=some ob):∃v L2,U[i]?=some (some v)/\Ao K F H ob v L2/\(∀a∈L2,¬F a/\¬F.p a)/\L2.Nodup /\
  ∀bO H',(∀a,a∉L2->H a≠none->H' a=H a)->Ao K F H' bO v L2->Okk K F B H' (putAt fs i bO) U/\Le F H F H':=by
 obtain⟨L,h⟩:=h;have key:∀s:Sl,fs[i]?=some (some s)->(s=.own ob\/s=.bor ob)->∃v L2,U[i]?=some (some v)/\Ao K F H ob v L2/\(∀a∈L2,¬F a/\¬F.p a)/\L2.Nodup /\
  ∀bO H',(∀a,a∉L2->H a≠none->H' a=H a)->Ao K F H' bO v L2->Okk K F B H' (fs.set i (some (s.put bO))) U/\Le F H F H':=by
  intro s es ho;obtain⟨v,L1,L2,L3,e1,rfl,h1,h2⟩:=h.sl.pick es;obtain⟨u,rfl,q⟩:∃u,v=some u/\Ao K F H ob u L2:=by
   rcases ho with rfl|rfl
   .exact h1
   .exact h1
  have nd:=h.nd;have eF:∀a∈L1++L3,a∉L2:=λa ha hb=>by
   rw[tQ]at nd;rcases tW.mp ha with ha|ha
   .exact nd.2.2 a ha a (ud _ hb) rfl
   .have:=(tQ.mp nd.2.1).2.2;exact this a hb a ha rfl
  refine⟨u,L2,e1,q,λa m=>⟨h.nf a (by simp[m]),h.pl a (by simp[m])⟩,?_,λbO H' k q'=>?_⟩
  .rw[tQ]at nd;exact(tQ.mp nd.2.1).1
  .have l:Le F H F H':=⟨λa f=>⟨f,k a (λm=>h.nf a (by simp[m]) f) (h.fd a f)⟩,λa f=>⟨f,k a (λm=>h.pl a (by simp[m]) f) (h.pd a f)⟩⟩
   refine⟨⟨L1++(L2++L3),?_,nd,h.nf,λa f=>by rw[(l.f a f).2];exact h.fd a f,?_,λa f=>by rw[(l.p a f).2];exact h.pd a f,h.pf,h.pl⟩,l⟩
   .have hL:∀a∈L1++L3,H' a=H a:=λa m=>k a (eF a m) (h.sl.def a (by
      rcases tW.mp m with m|m
      .simp[m]
      .simp[m]))
    have h3:=h2 F H' (some (s.put bO)) (some u) L2 l hL (by
     rcases ho with rfl|rfl
     .exact⟨u,rfl,q'⟩
     .exact⟨u,rfl,q'⟩)
    rwa[A5 e1]at h3
   .have:=En.put (s:=some (s.put bO)) h.bo (λo eo=>by
     rcases ho with rfl|rfl
     .cases eo
     .obtain⟨w,e3,e4⟩:=h.bo i ob es;rw[e1]at e3;have e5:u=w:=by simpa using e3
      exact⟨u,rfl,by rw[e5];exact e4⟩) h.sl.len
    rwa[A5 e1]at this
 unfold AD at e;split at e
 next o es=>cases e;obtain⟨v,L2,a1,a2,a3,a4,a5⟩:=key _ es (.inl rfl);refine⟨v,L2,a1,a2,a3,a4,λbO H' k q=>?_⟩;have:=a5 bO H' k q;unfold putAt;rw[es];exact this
 next o es=>cases e;obtain⟨v,L2,a1,a2,a3,a4,a5⟩:=key _ es (.inr rfl);refine⟨v,L2,a1,a2,a3,a4,λbO H' k q=>?_⟩;have:=a5 bO H' k q;unfold putAt;rw[es];exact this
 .cases e
end
noncomputable def Aa(i:Nat):FS->Out Rv:=λfs=>match fs[i]? with|some (some (.val t))=>.ok (.t t) fs|some (some (.own _))=>.ok (.n i) fs|some (some (.bor _))=>.ok (.n i) fs|_=>.bad
noncomputable def gc(t:T):FS->Out Rv:=λfs=>.ok (.t t) fs
section
variable{X:Cx}{Z:Xp}{e:Expr}
theorem fe_v(i:Nat)(hN:X.N[i]?=some x:=by rfl)(hv:Vis X.env.scope x:=by first|exact Or.inl rfl|exact Or.inr (Or.inl rfl)|exact Or.inr (Or.inr rfl))(hd:(x==("__debug__":Str))=false:=by decide)
  (eG:(x==("__classdict__":Str))=false:=by decide):FE X Z (.Name x pos) (Aa i):=by
 refine AJ (pv i hN hv hd eG) λU H Q h=>?_
 obtain⟨F,B,fs,ok,s⟩:=h;obtain⟨L,o⟩:=id ok;unfold Aa at s;split at s
 next t es=>obtain⟨v,L1,L2,L3,e1,_,h1,_⟩:=o.sl.pick es;obtain⟨u,rfl,q,_⟩:=h1;exact⟨u,e1,s F H u Le.refl (RR.of ok q)⟩
 next t es=>obtain⟨v,L1,L2,L3,e1,_,h1,_⟩:=o.sl.pick es;obtain⟨u,rfl,q⟩:=h1;exact⟨u,e1,s F H u Le.refl (RR.of ok e1)⟩
 next t es=>obtain⟨v,L1,L2,L3,e1,_,h1,_⟩:=o.sl.pick es;obtain⟨u,rfl,q⟩:=h1;exact⟨u,e1,s F H u Le.refl (RR.of ok e1)⟩
 .exact s.elim
theorem UT(t:T)(h:PE X e (tC v))(r:∀K F H,Ar K F H t v):FE X Z e (gc t) :=
 AJ h λU H Q ⟨F,B,fs,ok,s⟩=>s F H v Le.refl (RR.of ok (r _ _ _))
theorem X2:FE X Z (.Constant (.int i) j pos) (gc (.int i)):=UT _ Wi λ_ _ _=>rfl
theorem JaZ:FE X Z (.Constant (.bool b) j pos) (gc (.v b)):=UT _ Jac λ_ _ _=>rfl
theorem XQ:FE X Z (.Constant .none j pos) (gc .o):=UT _ Wf λ_ _ _=>rfl
theorem XI:FE X Z (.Constant (.str x) j pos) (gc (.str x)):=UT _ Ik λ_ _ _=>rfl
theorem X3(h:∃t,X.mg x=some (.int i t))(hg:Gl X x:=by rfl)(hd:(x==("__debug__":Str))=false:=by decide):FE X Z (.Name x pos) (gc (.int i)):=UT _ (Z9 h hg hd) λ_ _ _=>rfl
theorem JaW(h:∃t,X.mg x=some (.str z t))(hg:Gl X x:=by rfl)(hd:(x==("__debug__":Str))=false:=by decide):FE X Z (.Name x pos) (gc (.str z)):=UT _ (Z8 h hg hd) λ_ _ _=>rfl
end
noncomputable def fz(f:FS->Out Rv):FS->Out Rv:=λfs=>(f fs).bind λr fs=>match r with|.t t=>.ok (.t t) fs|.nw o=>.ok (.t (toT o)) fs|.n i=>match fs[i]? with|some (some (.own o))=>.ok (.t (toT o)) (fs.set i (some (.val (toT o))))|_=>.bad
section
variable{X:Cx}{Z:Xp}{e:Expr}{f:FS->Out Rv}
noncomputable def HI(F:Wd)(L:List Addr):Wd:=⟨λa=>F a\/a∈L,F.p⟩
theorem orF:Le F H (HI F L) H:=⟨λ_ f=>⟨.inl f,rfl⟩,λ_ f=>⟨f,rfl⟩⟩
theorem JaX(h:FE X Z e f):FE X Z e (fz f):=by
 refine AJ h λU H Q ao => ?_
 obtain⟨F,B,fs,ok,s⟩:= ao;refine⟨F,B,fs,ok,?_⟩;refine Ax s λr fs F' H' u l q s=>?_
 cases r with
 |t t=>exact s F' H' u Le.refl q
 |nw o =>
  obtain⟨L,L',o1,q,nd,nf⟩:=q;refine s (HI F' L') H' u orF (RR.of ⟨L,?_⟩ (Ao.frz orF (λa m=>.inr m) q));refine⟨o1.sl.le orF λ_ _=>rfl,o1.nd,λa m z=>?_,λa z=>?_,o1.bo,o1.pd,λa z=>?_,o1.pl⟩
  .rcases z with z|z
   .exact o1.nf a m z
   .exact(tQ.mp nd).2.2 a m a z rfl
  .rcases z with z|z
   .exact o1.fd a z
   .exact Ao.def q a z
  .rcases z with z|z
   .exact o1.pf a z
   .exact(nf a z).2
 |n i =>
  dsimp only at s;split at s
  .rename_i o es;obtain⟨L,L',o1,⟨_,q⟩,nd,nf⟩:=q;obtain⟨v,L1,L2,L3,e1,rfl,h1,h2⟩:=o1.sl.pick es;obtain⟨w,rfl,q2⟩:=h1;rw[e1]at q;have eu:w=u:=by simpa using q
   subst eu;have l2:Le F' H' (HI F' L2) H':=orF;have r2:=Ao.frz orF (λa m=>.inr m) q2;refine s (HI F' L2) H' w l2 (RR.of ⟨L1++([]++L3),?_⟩ r2);have h3:=h2 (HI F' L2) H' (some (.val (toT o))) (some w) [] l2 (λ_ _=>rfl) ⟨w,rfl,r2,rfl⟩;rw[A5 e1]at h3;have bP:=o1.nd;refine⟨h3,BD bP uF (λ_ m=>nomatch m),λa m z=>?_,λa z=>?_,?_,o1.pd,λa z=>?_,λa m=>o1.pl a ?_⟩
   .have m':=by simpa using m
    rcases z with z|z
    .exact o1.nf a (by rcases m' with m|m<;>simp[m]) z
    .rw[tQ]at bP;rcases m' with m|m
     .exact bP.2.2 a m a (ud _ z) rfl
     .exact(tQ.mp bP.2.1).2.2 a z a m rfl
   .rcases z with z|z
    .exact o1.fd a z
    .exact Ao.def q2 a z
   .have:=En.put (i:=i) (s:=some (.val (toT o))) (v:=some w) o1.bo (λo eo=>by cases eo) o1.sl.len;rwa[A5 e1]at this
   .rcases z with z|z
    .exact o1.pf a z
    .exact o1.pl a (by simp[z])
   .have m':=by simpa using m
    rcases m' with m|m<;>simp[m]
  .exact s.elim
end
noncomputable def big:Nat:=1000000
theorem D4:big<=sizeLine:=by rw[sizeLine_eq];decide
theorem FQ:big<sizeLine:=by rw[sizeLine_eq];decide
noncomputable def Df(fs:FS):Rv->Option (List T)
 |.t (.lst ts)=>some ts
 |.t (.zY ts)=>some ts
 |.n i=>match AD fs i with|some (.lst ts)=>some ts|_=>none
 |_=>none
noncomputable def ME:Rv->Option (List T)
 |.t (.tup ts)=>some ts
 |_=>none
section
variable{K:Fg}{B:Nat->Option V}{F F':Wd}{H H':Hp}{U:St}{fs:FS}{x:Rv}{u:V}{ts:List T}
theorem Bg(h:Okk K F B H fs U)(r:Bz K F H U x u)(e:Df fs x=some ts):∃a vs,u=.ref a/\SqL K H a vs/\Ad K F H ts vs:=by
 unfold Df at e;split at e
 .cases e;simp only[Bz,Ar]at r;obtain⟨a,vs,e,f,s,q⟩:=r;exact⟨a,vs,e,SqL.of s,q⟩
 .cases e;simp only[Bz,Ar]at r;obtain⟨a,vs,e,s,q⟩:=r;exact⟨a,vs,e,s.sq,q⟩
 .rename_i i;split at e
  .rename_i dk eo;cases e;obtain⟨v,L2,e1,q,_⟩:=h.own eo;have e2:U[i]?=some (some u):=r;rw[e1]at e2;have e3:v=u:=by simpa using e2
   subst e3;simp only[Ao]at q;obtain⟨a,vs,e,s,q,_⟩:=q;exact⟨a,vs,e,SqL.of s,q⟩
  .cases e
 .cases e
theorem Br(r:Bz K F H U x u)(e:ME x=some ts):∃a vs,u=.ref a/\SqT K H a vs/\Ad K F H ts vs:=by
 unfold ME at e;split at e
 .cases e;simp only[Bz,Ar]at r;obtain⟨a,vs,e,s,q⟩:=r;exact⟨a,vs,e,s.sq,q⟩
 .cases e
theorem Ov(r:Ad K F H ts vs)(e:atI ts i=some t):∃v,atI vs i=some v/\Ar K F H t v:=by unfold atI at e ⊢;rw[r.len];cases q:ixN ts.length i with|none=>rw[q]at e;cases e|some j =>rw[q]at e;exact r.at e
theorem Ad.ints:∀{ns:List Int}{vs:List V},Ad K F H (ns.map T.int) vs->vs=ns.map V.int
 | [],_,h=>by simpa[Ad]using h
 |n::ns,_,h=>by simp only[tR,Ad,Ar]at h;obtain⟨v,r,rfl,rfl,h⟩:=h;rw[tR,Ad.ints h]
theorem Ad.bls:∀{ns:List Bool}{vs:List V},Ad K F H (ns.map T.v) vs->vs=ns.map V.v
 | [],_,h=>by simpa[Ad]using h
 |n::ns,_,h=>by simp only[tR,Ad,Ar]at h;obtain⟨v,r,rfl,rfl,h⟩:=h;rw[tR,Ad.bls h]
end
noncomputable def Cn:List T->Option (List Int)
 | []=>some []
 |.int i::r=>(Cn r).map (i::·)
 |_=>none
noncomputable def CQ:List T->Option (List Bool)
 | []=>some []
 |.v i::r=>(CQ r).map (i::·)
 |_=>none
theorem Jg:∀{ts:List T}{ns:List Int},Cn ts=some ns->ts=ns.map T.int
 | [],_,e=>by cases e;rfl
 |.int i::r,_,e=>by simp only[Cn,uc]at e;obtain⟨ns,e,rfl⟩:=e;rw[tR,<- Jg e]
 |.o::r,_,e=>by simp[Cn]at e
 |.v _::r,_,e=>by simp[Cn]at e
 |.str _::r,_,e=>by simp[Cn]at e
 |.tup _::r,_,e=>by simp[Cn]at e
 |.lst _::r,_,e=>by simp[Cn]at e
 |.zY _::r,_,e=>by simp[Cn]at e
 |.l _ _::r,_,e=>by simp[Cn]at e
 |.dT _ _::r,_,e=>by simp[Cn]at e
 |.ins _ _ _::r,_,e=>by simp[Cn]at e
 |.x _ _::r,_,e=>by simp[Cn]at e
theorem E1:∀{ts:List T}{ns:List Bool},CQ ts=some ns->ts=ns.map T.v
 | [],_,e=>by cases e;rfl
 |.v i::r,_,e=>by simp only[CQ,uc]at e;obtain⟨ns,e,rfl⟩:=e;rw[tR,<- E1 e]
 |.o::r,_,e=>by simp[CQ]at e
 |.int _::r,_,e=>by simp[CQ]at e
 |.str _::r,_,e=>by simp[CQ]at e
 |.tup _::r,_,e=>by simp[CQ]at e
 |.lst _::r,_,e=>by simp[CQ]at e
 |.zY _::r,_,e=>by simp[CQ]at e
 |.l _ _::r,_,e=>by simp[CQ]at e
 |.dT _ _::r,_,e=>by simp[CQ]at e
 |.ins _ _ _::r,_,e=>by simp[CQ]at e
 |.x _ _::r,_,e=>by simp[CQ]at e
noncomputable def Af(g:Rv->Rv->FS->Out Rv)(fa fb:FS->Out Rv):FS->Out Rv:=λfs=>(fa fs).bnd λx fs=>(fb fs).bnd λy fs=>g x y fs
def OpF(K:Fg)(Z:Xp)(r:R2)(g:Rv->Rv->FS->Out Rv):Prop:=∀(F:Wd)(B:Nat->Option V)(H:Hp)(U:St)(fs:FS)(x y:Rv)(u w:V)(Q:VK),Okk K F B H fs U->Bz K F H U x u->Bz K F H U y w ->
 sat Z B (RR K B U) F H (g x y fs) Q->r u w H Q
noncomputable def asB(f:FS->Out Rv):FS->Out Bool:=λfs=>(f fs).bind λr fs=>match r with|.t (.v b)=>.ok b fs|_=>.bad
section
variable{X:Cx}{K:Fg}{Z:Xp}{a b c:Expr}{fa fb fc f:FS->Out Rv}{r r':R2}{g g':Rv->Rv->FS->Out Rv}{pos:Pos}{U:St}{H:Hp}
theorem EX(hg:OpF K Z r g)(h:tF K Z (Af g fa fb) U H Q):tOp r (tF K Z fa) (tF K Z fb) U H Q:=by obtain⟨F,B,fs,ok,s⟩:=h;exact⟨F,B,fs,ok,Ay s λx ag F1 H1 u l ax rx s1=>⟨F1,B,ag,ax,Ay s1 λy av F2 H2 w l2 aO ry s2=>hg F2 B H2 U av x y u w Q aO (rx.le l2) ry s2⟩⟩
theorem RK(h:tT K Z (asB f) U H Q):tF K Z f U H λx H'=>∃k,x=.v k/\Q k H':=by
 obtain⟨F,B,fs,ok,s⟩:=h;refine⟨F,B,fs,ok,Ax s λr ag F1 H1 u l q s1=>?_⟩;split at s1
 next b=>obtain⟨L,L',o1,⟨_,q⟩,_⟩:=q;exact⟨b,q,s1 F1 H1 b Le.refl ⟨⟨L,o1⟩,rfl⟩⟩
 .exact s1.elim
theorem J4(hg:OpF X.K Z r g)(ho:OpR X (binaryOp op) r)(ha:FE X Z a fa)(hb:FE X Z b fb):FE X Z (.BinOp a op b pos) (Af g fa fb) :=
 AJ (Z5 ho ha hb) λ_ _ _ h=>EX hg h
theorem KU(hg:OpF X.K Z r g)(ho:OpR X (compareOp op) r)(ha:FE X Z a fa)(hb:FE X Z b fb)(hm:behindInMarks op b=false):FE X Z (.Compare a [op] [b] pos) (Af g fa fb) :=
 AJ (SK ho ha hb hm) λ_ _ _ h=>EX hg h
theorem Dn(hg:OpF X.K Z r g)(ho:OpR X (compareOp op) r)(ha:FE X Z a fa)(hb:FE X Z b fb)(hm:behindInMarks op b=false):FT X Z (.Compare a [op] [b] pos) (asB (Af g fa fb)) :=
 Kt (Sn ho ha hb hm) λ_ _ _ h=>EX hg (RK h)
theorem JaT(hg:OpF X.K Z r g)(hr:IxR X r)(ha:FE X Z a fa)(hb:FE X Z b fb)(hs:Kk b):FE X Z (.Subscript a b pos) (Af g fa fb) :=
 AJ (Z7 hr ha hb hs) λ_ _ _ h=>EX hg h
noncomputable def chain(g g':Rv->Rv->FS->Out Rv)(fa fb fc:FS->Out Rv):FS->Out Rv:=λfs=>(fa fs).bnd λx fs=>(fb fs).bnd λy fs=>(g x y fs).bnd λz fs=>match z with
 |.t (.v true)=>(fc fs).bnd λw fs=>g' y w fs
 |.t (.v false)=>.ok (.t (.v false)) fs
 |_=>.bad
theorem UB(hg:OpF K Z r g)(iu:OpF K Z r' g')(h:tF K Z (chain g g' fa fb fc) U H Q):MA r r' (tF K Z fa) (tF K Z fb) (tF K Z fc) U H Q:=by
 obtain⟨F,B,fs,ok,s⟩:=h;refine⟨F,B,fs,ok,Ay s λx ag F1 H1 u l ax rx s1=>⟨F1,B,ag,ax,Ay s1 λy av F2 H2 w l2 aO ry s2=>hg F2 B H2 U av x y u w _ aO (rx.le l2) ry ?_⟩⟩;refine Ay s2 λz cw F3 H3 v l3 dM rz s3=>?_
 split at s3
 .refine⟨true,rz,?_⟩;rw[if_pos rfl];exact⟨F3,B,cw,dM,Ay s3 λw' gT F4 H4 v' l4 iD dP s4=>iu F4 B H4 U gT y w' w v' Q iD ((ry.le l3).le l4) dP s4⟩
 .refine⟨false,rz,?_⟩;rw[if_neg (by decide)];exact s3 F3 H3 (.v false) Le.refl (RR.of dM rfl)
 .exact s3.elim
end
theorem Po(ha:Builtin.Int.intBits a<=2^26)(hb:Builtin.Int.intBits b<=2^26):IntMulOk a b:=by intro h;rw[uq]at h;have h2:=um (show decide _=true from h.2);have e:bitsLine=134217728:=rfl;rw[e]at h2;omega
noncomputable def gI(g:Int->Int->FS->Out Rv):Rv->Rv->FS->Out Rv
 |.t (.int i),.t (.int j),fs=>g i j fs
 |_,_,_=>.bad
noncomputable def okT(t:T)(fs:FS):Out Rv:=.ok (.t t) fs
noncomputable def JaH:=gI λi j=>okT (.int (i+j))
noncomputable def JV:=gI λi j=>okT (.int (i-j))
noncomputable def Xo:=gI λi j fs=>if(decide (-(2^64)<i/\i<2^64)||decide (-(2^64)<j/\j<2^64)||(decide (Builtin.Int.intBits i<=2^26)&&decide (Builtin.Int.intBits j<=2^26)))=true then okT (.int (i*j)) fs else .bad
noncomputable def Cd:=gI λi j fs=>if 0<j then okT (.int (i%j)) fs else .bad
noncomputable def DD:=gI λi j fs=>if 0<j/\j<1073741824 then okT (.int (i/j)) fs else .bad
noncomputable def gLt:=gI λi j=>okT (.v (decide (i<j)))
noncomputable def gLe:=gI λi j=>okT (.v (decide (i<=j)))
noncomputable def gGt:=gI λi j=>okT (.v (decide (j<i)))
section
variable{K:Fg}{Z:Xp}
theorem MY{t:Int->Int->T}(hv:∀K F H i j,Ar K F H (t i j) (v i j))(hg:∀i j fs,g i j fs=.bad\/(C i j/\g i j fs=okT (t i j) fs)):OpF K Z (rI C v) (gI g):=by
 intro F B H U fs x y u w Q ok rx ry s;unfold gI at s;split at s
 .rename_i i j;simp only[Bz,Ar]at rx ry;rcases hg i j fs with e|⟨c,e⟩
  .rw[e]at s;exact s.elim
  .rw[e]at s;exact⟨i,j,rx,ry,c,s F H _ Le.refl (RR.of ok (hv _ _ _ _ _))⟩
 .exact s.elim
theorem Im{t:Int->Int->T}(hv:∀K F H i j,Ar K F H (t i j) (v i j)):OpF K Z (rI0 v) (gI λi j=>okT (t i j)):=by
 intro F B H U fs x y u w Q ok rx ry s;unfold gI at s;split at s
 next i j=>simp only[Bz,Ar]at rx ry;exact⟨i,j,rx,ry,s F H _ Le.refl (RR.of ok (hv _ _ _ _ _))⟩
 .exact s.elim
theorem WO:OpF K Z (rI0 λi j=>.int (i+j)) JaH:=Im λ_ _ _ _ _=>rfl
theorem WE:OpF K Z (rI0 λi j=>.int (i-j)) JV:=Im λ_ _ _ _ _=>rfl
theorem of_lt:OpF K Z (rI0 λi j=>.v (decide (i<j))) gLt:=Im λ_ _ _ _ _=>rfl
theorem of_le:OpF K Z (rI0 λi j=>.v (decide (i<=j))) gLe:=Im λ_ _ _ _ _=>rfl
theorem WK:OpF K Z (rI0 λi j=>.v (decide (j<i))) gGt:=Im λ_ _ _ _ _=>rfl
theorem WJ:OpF K Z (rI (λ_ j=>0<j) λi j=>.int (i%j)) Cd:=MY (t:=λi j=>.int (i%j)) (λ_ _ _ _ _=>rfl) λi j fs=>by
 by_cases h:0<j
 .exact .inr ⟨h,if_pos h⟩
 .exact .inl (if_neg h)
theorem WN:OpF K Z (rI JbB λi j=>.int (i/j)) DD:=MY (t:=λi j=>.int (i/j)) (λ_ _ _ _ _=>rfl) λi j fs=>by
 by_cases h:0<j/\j<1073741824
 .exact .inr ⟨h,if_pos h⟩
 .exact .inl (if_neg h)
theorem WI:OpF K Z (rI IntMulOk λi j=>.int (i*j)) Xo:=MY (t:=λi j=>.int (i*j)) (λ_ _ _ _ _=>rfl) λi j fs=>by
 by_cases h:(decide (-(2^64)<i/\i<2^64)||decide (-(2^64)<j/\j<2^64)||(decide (Builtin.Int.intBits i<=2^26)&&decide (Builtin.Int.intBits j<=2^26)))=true
 .refine .inr ⟨?_,if_pos h⟩;rw[vq,vq,uq]at h;rcases h with(h|h)|⟨h1,h2⟩
  .exact YO.ok (.inl (um h))
  .exact YO.ok (.inr (um h))
  .exact Po (um h1) (um h2)
 .exact .inl (if_neg h)
end
noncomputable def plV:T->Option V
 |.o=>some .o
 |.v b=>some (.v b)
 |.int i=>some (.int i)
 |.str x=>some (.str x)
 |_=>none
theorem BC(e:plV t=some v)(r:Ar K F H t u):u=v:=by cases t with|o=>cases e;exact r|v b=>cases e;exact r|int i=>cases e;exact r|str x=>cases e;exact r|tup ts=>cases e|lst ts=>cases e|zY ts=>cases e|l ks ts=>cases e|dT ks ts=>cases e|ins C fs ts=>cases e|x ks ts=>cases e|zD c=>cases e
noncomputable def gEq(neg:Bool):Rv->Rv->FS->Out Rv
 |.t x,.t y,fs=>match plV x,plV y with|some u,some w=>if QW u w=true then okT (.v (if neg then !decide (u=w)else decide (u=w))) fs else .bad|_,_=>.bad
 |_,_,_=>.bad
noncomputable def Sx:List T->Option (List V)
 | []=>some []
 |t::r=>(plV t).bind λv=>(Sx r).map (v::·)
theorem Hd:∀{ts:List T}{us vs:List V},Sx ts=some vs->Ad K F H ts us->us=vs/\vs.all Ei=true
 | [],_,_,e,r=>by cases e;simp only[Ad]at r;exact⟨r,rfl⟩
 |t::ts,_,_,e,r=>by simp only[Ad]at r;obtain⟨v,w,rfl,r1,r2⟩:=r;simp only[Sx,uB,uc]at e;obtain⟨v',e1,ws,e2,rfl⟩:=e;obtain⟨rfl,h⟩:=Hd e2 r2;have:=BC e1 r1;subst this;refine⟨rfl,?_⟩;rw[v7,h,Bool.and_true];cases t<;>first|(cases e1;rfl)|cases e1
theorem Cc(e:plV t=some v):Ei v=true:=by cases t<;>first|(cases e;rfl)|cases e
noncomputable def gIn(neg:Bool):Rv->Rv->FS->Out Rv
 |.t x,y,fs=>match plV x with
  |some v=>match(match Df fs y with|some ts=>Sx ts|none=>(ME y).bind Sx)with|some vs=>okT (.v (if neg then !inV v vs else inV v vs)) fs|none=>.bad
  |none=>.bad
 |_,_,_=>.bad
noncomputable def II(neg:Bool):Rv->Rv->FS->Out Rv
 |.t (.str i),.t (.str j),fs=>okT (.v (if neg then !(!(Builtin.Str.occurrences j i 0 j.length 1).isEmpty)else !(Builtin.Str.occurrences j i 0 j.length 1).isEmpty)) fs
 |_,_,_=>.bad
section
variable{K:Fg}{Z:Xp}
theorem of_eq:OpF K Z rEq (gEq false):=by
 intro F B H U fs x y u w Q ok rx ry s;unfold gEq at s;split at s
 .split at s
  .rename_i e1 e2;split at s
   next hs=>have h1:=BC e1 rx;have h2:=BC e2 ry;subst h1 h2;exact⟨hs,s F H _ Le.refl (RR.of ok rfl)⟩
   .exact s.elim
  .exact s.elim
 .exact s.elim
theorem WH:OpF K Z rNe (gEq true):=by
 intro F B H U fs x y u w Q ok rx ry s;unfold gEq at s;split at s
 .split at s
  .rename_i e1 e2;split at s
   next hs=>have h1:=BC e1 rx;have h2:=BC e2 ry;subst h1 h2;exact⟨hs,s F H _ Le.refl (RR.of ok rfl)⟩
   .exact s.elim
  .exact s.elim
 .exact s.elim
theorem S3(neg:Bool):OpF K Z (rIn K neg) (gIn neg):=by
 intro F B H U fs x y u w Q ok rx ry s;unfold gIn at s;split at s
 .split at s
  .rename_i v e1;split at s
   .rename_i vs e2;have h1:=BC e1 rx;subst h1;split at e2
    next ts e3=>obtain⟨a,us,rfl,hs,q⟩:=Bg ok ry e3;obtain⟨rfl,hf⟩:=Hd e2 q;exact⟨a,us,rfl,.inl hs,Cc e1,hf,s F H _ Le.refl (RR.of ok rfl)⟩
    .rw[uB]at e2;obtain⟨ts,e3,e2⟩:=e2;obtain⟨a,us,rfl,hs,q⟩:=Br ry e3;obtain⟨rfl,hf⟩:=Hd e2 q;exact⟨a,us,rfl,.inr hs,Cc e1,hf,s F H _ Le.refl (RR.of ok rfl)⟩
   .exact s.elim
  .exact s.elim
 .exact s.elim
theorem KA:OpF K Z (λx y H Q=>∃i j,x=.str i/\y=.str j/\Q (.v (!(Builtin.Str.occurrences j i 0 j.length 1).isEmpty)) H) (II false):=by
 intro F B H U fs x y u w Q ok rx ry s;unfold II at s;split at s
 next i j=>exact⟨i,j,rx,ry,s F H _ Le.refl (RR.of ok rfl)⟩
 .exact s.elim
theorem JF:OpF K Z (λx y H Q=>∃i j,x=.str i/\y=.str j/\Q (.v (!(!(Builtin.Str.occurrences j i 0 j.length 1).isEmpty))) H) (II true):=by
 intro F B H U fs x y u w Q ok rx ry s;unfold II at s;split at s
 next i j=>exact⟨i,j,rx,ry,s F H _ Le.refl (RR.of ok rfl)⟩
 .exact s.elim
end
noncomputable def gIx:Rv->Rv->FS->Out Rv
 |x,.t (.int i),fs=>match Df fs x with
  |some ts=>match atI ts i with|some t=>okT t fs|none=>.bad
  |none=>match x with
   |.t (.tup ts)=>match atI ts i with|some t=>okT t fs|none=>.bad
   |.t (.str z)=>if z.length<=big then match atI z.cps.toList i with|some c=>okT (.str ⟨#[c]⟩) fs|none=>.bad
    else .bad
   |_=>.bad
 |_,_,_=>.bad
section
variable{K:Fg}{Z:Xp}
theorem Jaf:OpF K Z (rIx K) gIx:=by
 intro F B H U fs x y u w Q ok rx ry s;unfold gIx at s;split at s
 .rename_i i;split at s
  .rename_i ts e;split at s
   next t et=>obtain⟨a,vs,rfl,hs,q⟩:=Bg ok rx e;obtain⟨v,ev,rv⟩:=Ov q et;exact .inl ⟨a,vs,i,v,rfl,ry,hs,ev,s F H v Le.refl (RR.of ok rv)⟩
   .exact s.elim
  .split at s
   .rename_i ts _;split at s
    next t et=>obtain⟨a,vs,rfl,hs,q⟩:=Br rx rfl;obtain⟨v,ev,rv⟩:=Ov q et;exact .inr (.inl ⟨a,vs,i,v,rfl,ry,hs,ev,s F H v Le.refl (RR.of ok rv)⟩)
    .exact s.elim
   .rename_i z _;split at s
    .rename_i hz;split at s
     next c ec=>exact .inr (.inr ⟨z,i,c,rx,ry,uz hz D4,ec,s F H _ Le.refl (RR.of ok rfl)⟩)
     .exact s.elim
    .exact s.elim
   .exact s.elim
 .exact s.elim
end
noncomputable def P9:Rv->Rv->FS->Out Rv
 |.t (.str i),.t (.str j),fs=>if i.length+j.length<=big then okT (.str (i++j)) fs else .bad
 |_,_,_=>.bad
noncomputable def TR:Rv->Rv->FS->Out Rv
 |.t (.str z),.t (.int n),fs=>if z.length=1/\1<=n/\n<=1000 then okT (.str (Txt.mul z n)) fs else .bad
 |_,_,_=>.bad
theorem Tc(hz:z.length=1)(h0:1<=n)(h1:n<=1000):MulOk z n:=by
 refine⟨?_,λ_ _=>?_,λ_ _=>?_⟩
 .rw[Bool.or_eq_false_iff];exact⟨uA (by omega),uA (by omega)⟩
 .have h:=by omega
  have h2:1<=((2:Int)^63-1)/n:=(Int.le_ediv_iff_mul_le (by omega)).mpr (by omega);rw[hz];omega
 .unfold Builtin.Str.tooLong;have:=by omega
  refine uA ?_;rw[hz];have h3:(1000:Nat)<=sizeLine:=by rw[sizeLine_eq];decide
  omega
section
variable{K:Fg}{Z:Xp}
theorem S9:OpF K Z (λx y H Q=>∃i j,x=.str i/\y=.str j/\i.length+j.length<=sizeLine/\Q (.str (i++j)) H) P9:=by
 intro F B H U fs x y u w Q ok rx ry s;unfold P9 at s;split at s
 .rename_i i j;split at s
  next h=>exact⟨i,j,rx,ry,uz h D4,s F H _ Le.refl (RR.of ok rfl)⟩
  .exact s.elim
 .exact s.elim
theorem S0:OpF K Z (λx y H Q=>∃z n,x=.str z/\y=.int n/\MulOk z n/\Q (.str (Txt.mul z n)) H) TR:=by
 intro F B H U fs x y u w Q ok rx ry s;unfold TR at s;split at s
 .rename_i i j;split at s
  next h=>exact⟨i,j,rx,ry,Tc h.1 h.2.1 h.2.2,s F H _ Le.refl (RR.of ok rfl)⟩
  .exact s.elim
 .exact s.elim
end
noncomputable def ZG(fs:FS):Rv->Option Bool
 |.t .o=>some false
 |.t (.v b)=>some b
 |.t (.int i)=>some (i !=0)
 |.t (.str x)=>if x.length<=big then some ((x.length:Int)!=0)else none
 |.t (.lst ts)=>some !ts.isEmpty
 |.t (.tup ts)=>some !ts.isEmpty
 |.n i=>match AD fs i with|some (.lst ts)=>some !ts.isEmpty|some (.l ks _)=>some !ks.isEmpty|_=>none
 |_=>none
noncomputable def Mx(f:FS->Out Rv):FS->Out Bool:=λfs=>(f fs).bnd λr fs=>match ZG fs r with|some b=>.ok b fs|none=>.bad
noncomputable def GF(f:FS->Out Bool):FS->Out Bool:=λfs=>(f fs).bind λb fs=>.ok (!b) fs
noncomputable def Ki(f g:FS->Out Bool):FS->Out Bool:=λfs=>(f fs).bind λb fs=>if b=true then g fs else .ok false fs
noncomputable def orT(f g:FS->Out Bool):FS->Out Bool:=λfs=>(f fs).bind λb fs=>if b=true then .ok true fs else g fs
noncomputable def YB(f g:FS->Out Rv):FS->Out Rv:=λfs=>(f fs).bnd λr fs=>match r with|.t (.v true)=>g fs|.t (.v false)=>okT (.v false) fs|_=>.bad
noncomputable def orV(f g:FS->Out Rv):FS->Out Rv:=λfs=>(f fs).bnd λr fs=>match r with|.t (.v false)=>g fs|.t (.v true)=>okT (.v true) fs|_=>.bad
theorem CH{xs:List α}{ys:List β}(h:ys.length=xs.length):(!ys.isEmpty)=!xs.isEmpty:=by cases xs<;>cases ys<;>simp_all
section
variable{K:Fg}{B:Nat->Option V}{F:Wd}{H:Hp}{U:St}{fs:FS}{x:Rv}{u:V}
theorem R6(h:Okk K F B H fs U)(r:Bz K F H U x u)(e:ZG fs x=some b):Jbe K u H b:=by
 unfold ZG at e;split at e
 .cases e;cases r;rfl
 .cases e;cases r;rfl
 .cases e;cases r;rfl
 .split at e
  next hz=>cases e;cases r;exact⟨uz hz D4,rfl⟩
  .cases e
 .cases e;obtain⟨a,vs,rfl,hs,q⟩:=Bg h r rfl;exact .inl ⟨vs,hs,(CH q.len).symm⟩
 .cases e;obtain⟨a,vs,rfl,hs,q⟩:=Br r rfl;exact .inr (.inl ⟨vs,hs,(CH q.len).symm⟩)
 .rename_i i;split at e
  next ts eo=>cases e;obtain⟨a,vs,rfl,hs,q⟩:=Bg (ts:=ts) h r (by simp[Df,eo]);exact .inl ⟨vs,hs,(CH q.len).symm⟩
  .rename_i ks ts eo;cases e;obtain⟨v,L2,e1,q,_⟩:=h.own eo;have e2:U[i]?=some (some u):=r;rw[e1]at e2;have e3:v=u:=by simpa using e2
   subst e3;simp only[Ao]at q;obtain⟨a,ah,rfl,hd,rfl,_⟩:=q;exact .inr (.inr ⟨ah,hd,(CH (by simp))⟩)
  .cases e
 .cases e
end
section
variable{X:Cx}{Z:Xp}{a b c:Expr}{fa fb:FS->Out Rv}{ga gb:FS->Out Bool}{pos:Pos}{rest:List Expr}
theorem Qa(ha:FE X Z a fa)(he:∀bE,isTrue a X.env bE=(do let v <- bE;standAt a.pos;holding [v] (truthy v))):FT X Z a (Mx fa):=by
 refine Kt (OZ ha he) λU H Q ao => ?_
 obtain⟨F,B,fs,ok,s⟩:= ao;refine⟨F,B,fs,ok,Ay s λr ag F1 H1 u l ax rx s1=>?_⟩;split at s1
 next b e=>exact⟨b,R6 ax rx e,s1 F1 H1 b Le.refl ⟨ax,rfl⟩⟩
 .exact s1.elim
theorem Xw(ha:FT X Z a ga):FT X Z (.UnaryOp .Not a pos) (GF ga):=by
 refine Kt (V1 ha) λU H Q ao => ?_
 obtain⟨F,B,fs,ok,s⟩:= ao;refine⟨F,B,fs,ok,Ax s λb ag F1 H1 b' l q s1=>?_⟩;obtain⟨ax,rfl⟩:=q;exact s1 F1 H1 _ Le.refl ⟨ax,rfl⟩
def FW(X:Cx)(Z:Xp)(e:Expr)(f:FS->Out Bool):Prop:=PW X e (tT X.K Z f)
theorem FW.ft(h:FW X Z a ga):FT X Z a ga:=PW.pt h
theorem Q4(h:PW X e t)(i:∀U H Q,t' U H Q->t U H Q):PW X e t':=λbE aa s U H Q I q=>h bE aa s U H Q I (i _ _ _ q)
theorem TZ(ha:FT X Z a ga):FW X Z (.BoolOp .And [a] pos) ga:=Sm ha
theorem Xu(ha:FT X Z a ga):FW X Z (.BoolOp .Or [a] pos) ga:=VX ha
theorem Xv(ha:FT X Z a ga)(hb:FW X Z (.BoolOp .And (b::rest) pos) gb):FW X Z (.BoolOp .And (a::b::rest) pos) (Ki ga gb):=by
 refine Q4 (VY ha hb) λU H Q ao => ?_
 obtain⟨F,B,fs,ok,s⟩:= ao;refine⟨F,B,fs,ok,Ax s λb ag F1 H1 b' l q s1=>?_⟩;obtain⟨ax,rfl⟩:=q;cases b' with|true =>rw[if_pos rfl]at s1 ⊢;exact⟨F1,B,ag,ax,s1⟩|false =>rw[if_neg (by decide)]at s1 ⊢;exact s1 F1 H1 _ Le.refl ⟨ax,rfl⟩
theorem JaI(ha:FT X Z a ga)(hb:FW X Z (.BoolOp .Or (b::rest) pos) gb):FW X Z (.BoolOp .Or (a::b::rest) pos) (orT ga gb):=by
 refine Q4 (Z2 ha hb) λU H Q ao => ?_
 obtain⟨F,B,fs,ok,s⟩:= ao;refine⟨F,B,fs,ok,Ax s λb ag F1 H1 b' l q s1=>?_⟩;obtain⟨ax,rfl⟩:=q;cases b' with|true =>rw[if_pos rfl]at s1 ⊢;exact s1 F1 H1 _ Le.refl ⟨ax,rfl⟩|false =>rw[if_neg (by decide)]at s1 ⊢;exact⟨F1,B,ag,ax,s1⟩
theorem XO(h:FE X Z a fa):FE X Z (.BoolOp op [a] pos) fa:=We h
theorem Ya(ha:FE X Z a fa)(hb:FE X Z (.BoolOp .And (b::rest) pos) fb):FE X Z (.BoolOp .And (a::b::rest) pos) (YB fa fb):=by
 refine AJ (Wn ha hb) λU H Q ao => ?_
 obtain⟨F,B,fs,ok,s⟩:= ao;refine⟨F,B,fs,ok,Ay s λr ag F1 H1 u l ax rx s1=>?_⟩;split at s1
 .exact⟨true,rx,by rw[if_pos rfl];exact⟨F1,B,ag,ax,s1⟩⟩
 .exact⟨false,rx,by rw[if_neg (by decide)];exact s1 F1 H1 _ Le.refl (RR.of ax rfl)⟩
 .exact s1.elim
theorem JaS(ha:FE X Z a fa)(hb:FE X Z (.BoolOp .Or (b::rest) pos) fb):FE X Z (.BoolOp .Or (a::b::rest) pos) (orV fa fb):=by
 refine AJ (Z4 ha hb) λU H Q ao => ?_
 obtain⟨F,B,fs,ok,s⟩:= ao;refine⟨F,B,fs,ok,Ay s λr ag F1 H1 u l ax rx s1=>?_⟩;split at s1
 .exact⟨false,rx,by rw[if_neg (by decide)];exact⟨F1,B,ag,ax,s1⟩⟩
 .exact⟨true,rx,by rw[if_pos rfl];exact s1 F1 H1 _ Le.refl (RR.of ax rfl)⟩
 .exact s1.elim
end
section
variable{X:Cx}{Z:Xp}{a b c:Expr}{fa fb fc:FS->Out Rv}{r r':R2}{g g':Rv->Rv->FS->Out Rv}{pos:Pos}
theorem Qc(hg:OpF X.K Z r g)(iu:OpF X.K Z r' g')(ha:FE X Z a fa)(hb:FE X Z b fb)(hc:FE X Z c fc)
  (h:∀{ta tb tc:TE},PE X a ta->PE X b tb->PE X c tc->PT X (.Compare a [op,op'] [b,c] pos) (R9 (MA r r' ta tb tc))):FT X Z (.Compare a [op,op'] [b,c] pos) (asB (chain g g' fa fb fc)) :=
 Kt (h ha hb hc) λ_ _ _ q=>UB hg iu (RK q)
end
noncomputable def Ai:FS->Out (List Rv):=λfs=>.ok [] fs
noncomputable def Ab(f:FS->Out Rv)(g:FS->Out (List Rv)):FS->Out (List Rv):=λfs=>(f fs).bnd λr fs=>(g fs).bind λrs fs=>.ok (r::rs) fs
noncomputable def Mc:List Rv->Option (List T)
 | []=>some []
 |.t t::r=>(Mc r).map (t::·)
 |_=>none
theorem E2:∀{rs:List Rv}{vs:List V}{ts:List T},HJ K F H U rs vs->Mc rs=some ts->Ad K F H ts vs
 | [],_,_,h,e=>by cases e;exact h
 |.t t::r,_,_,h,e=>by simp only[Mc,uc]at e;obtain⟨ts,e,rfl⟩:=e;obtain⟨v,w,rfl,h1,h2⟩:=h;simp only[Ad];exact⟨v,w,rfl,h1,E2 h2 e⟩
 |.nw _::r,_,_,h,e=>by simp[Mc]at e
 |.n _::r,_,_,h,e=>by simp[Mc]at e
noncomputable def Ap(g:List T->FS->Out Rv)(f:FS->Out (List Rv)):FS->Out Rv:=λfs=>(f fs).bind λrs fs=>match Mc rs with|some ts=>if ts.length<=big then g ts fs else .bad|none=>.bad
noncomputable def AQ(ts:List T)(fs:FS):Out Rv:=.ok (.t (.tup ts)) fs
noncomputable def BV(ts:List T)(fs:FS):Out Rv:=.ok (.t (.lst ts)) fs
noncomputable def DV(ts:List T)(fs:FS):Out Rv:=.ok (.nw (.lst ts)) fs
section
variable{X:Cx}{Z:Xp}{e:Expr}{es:List Expr}{f:FS->Out Rv}{g:FS->Out (List Rv)}{pos:Pos}
theorem Yd:FA X Z [] Ai:=Ky Dj λU H Q ⟨F,B,fs,ok,s⟩=>s F H [] Le.refl ⟨ok,rfl⟩
theorem Uk(ha:FE X Z e f)(hr:FA X Z es g)(hs:starEach (e::es) X.env=(false,eval e X.env)::starEach es X.env:=by rfl):FA X Z (e::es) (Ab f g):=by
 refine Ky (Bs ha hr hs) λU H Q ao => ?_
 obtain⟨F,B,fs,ok,s⟩:= ao;refine⟨F,B,fs,ok,Ay s λr ag F1 H1 u l ax rx s1=>⟨F1,B,ag,ax,Ax s1 λrs av F2 H2 us l2 q s2=>?_⟩⟩;exact s2 F2 H2 (u::us) Le.refl ⟨q.1,u,us,rfl,rx.le l2,q.2⟩
theorem XF(h:FA X Z es g):FE X Z (.Tuple es x1 pos) (Ap AQ g):=by
 refine AJ (Wc h) λU H Q ao => ?_
 obtain⟨F,B,fs,ok,s⟩:= ao;refine⟨F,B,fs,ok,Ax s λrs ag F1 H1 us l q s1=>?_⟩;obtain⟨ax,q⟩:=q;split at s1
 .rename_i ts e;have r:=E2 q e;split at s1
  next hl=>refine⟨by rw[r.len];exact uz hl D4,λp hp=>s1 (Ow F1 p) (upd H1 p (.tup us)) (.ref p) (AN ax hp) (RR.of (ax.alloc hp) ?_)⟩;simp only[Bz,Ar];exact⟨p,us,rfl,⟨rfl,.inr rfl,Ak⟩,r.le (AN ax hp)⟩
  .exact s1.elim
 .exact s1.elim
theorem XX(h:FA X Z es g):FE X Z (.List es pos) (Ap BV g):=by
 refine AJ (Q9 h) λU H Q ao => ?_
 obtain⟨F,B,fs,ok,s⟩:= ao;refine⟨F,B,fs,ok,Ax s λrs ag F1 H1 us l q s1=>?_⟩;obtain⟨ax,q⟩:=q;split at s1
 .rename_i ts e;have r:=E2 q e;split at s1
  next hl=>refine⟨by rw[r.len];exact uz hl D4,λp hp=>s1 (Ow F1 p) (upd H1 p (.lst us)) (.ref p) (AN ax hp) (RR.of (ax.alloc hp) ?_)⟩;simp only[Bz,Ar];exact⟨p,us,rfl,.inr rfl,Ak,r.le (AN ax hp)⟩
  .exact s1.elim
 .exact s1.elim
theorem Cb(h:H p=some (.lst us))(r:Ad K F H ts us):Ao K F H (.lst ts) (.ref p) [p]:=by simp only[Ao];exact⟨p,us,rfl,h,r,rfl⟩
theorem Ue(h:FA X Z es g):FE X Z (.List es pos) (Ap DV g):=by
 refine AJ (Q9 h) λU H Q ao => ?_
 obtain⟨F,B,fs,ok,s⟩:= ao;refine⟨F,B,fs,ok,Ax s λrs ag F1 H1 us l q s1=>?_⟩;obtain⟨ax,q⟩:=q;split at s1
 .rename_i ts e;have r:=E2 q e;split at s1
  next hl=>exact⟨by rw[r.len];exact uz hl D4,λp hp=>s1 F1 (upd H1 p (.lst us)) (.ref p) (AE ax hp) (RR.alloc ax hp (Cb Ak (r.le (AE ax hp))))⟩
  .exact s1.elim
 .exact s1.elim
noncomputable def EE:FS->Out Rv:=λfs=>.ok (.nw (.l [] [])) fs
theorem Qi:FE X Z (.Dict [] [] pos) EE:=by
 refine AJ Kx λU H Q ⟨F,B,fs,ok,s⟩ p hp=>s F (upd H p (.l [])) (.ref p) (AE ok hp) (RR.alloc ok hp ?_)
 simp only[Ao,Ad];exact⟨p,[],rfl,Ak,rfl,rfl,rfl⟩
end
def Ct(K:Fg)(Z:Xp)(r:List V->Hp->VK->Prop)(g:List Rv->FS->Out Rv):Prop:=∀(F:Wd)(B:Nat->Option V)(H:Hp)(U:St)(fs:FS)(rs:List Rv)(vs:List V)(Q:VK),Okk K F B H fs U->HJ K F H U rs vs ->
 sat Z B (RR K B U) F H (g rs fs) Q->r vs H Q
noncomputable def Ac(g:List Rv->FS->Out Rv)(f:FS->Out (List Rv)):FS->Out Rv:=λfs=>(f fs).bind λrs fs=>g rs fs
section
variable{X:Cx}{Z:Xp}{e:Expr}{es:List Expr}{fa:FS->Out (List Rv)}{g:List Rv->FS->Out Rv}{r:List V->Hp->VK->Prop}{pos p:Pos}{x:Str}{id Ty:String}
theorem ET(iu:Ct X.K Z r g)(hc:BZ X (.builtin id) r)(hm:X.mg x=none)(hv:bootBuiltins x=some (.builtin id))(ha:FA X Z (e::es) fa)(hg:Gl X x:=by rfl)(hn:x≠"__name__":=by decide)(aQ:(x==("__debug__":Str))=false:=by decide)
  (he:starEach (e::es) X.env=(false,eval e X.env)::starEach es X.env:=by rfl) (aI:(backTo pos (starEach es X.env)).any (·.1)=false:=by rfl):FE X Z (.Call (.Name x p) (e::es) [] pos) (Ac g fa) :=
 AJ (EO hc hg hm hv ha hn aQ he aI) λU H Q ⟨F,B,fs,ok,s⟩=>⟨F,B,fs,ok,Ax s λrs ag F1 H1 us l q s1=>iu F1 B H1 U ag rs us Q q.1 q.2 s1⟩
theorem C0(iu:Ct X.K Z r g)(hc:BZ X (.type Ty) r)(hm:X.mg x=none)(hv:bootBuiltins x=some (.type Ty))(ha:FA X Z (e::es) fa)(hg:Gl X x:=by rfl)(hn:x≠"__name__":=by decide)(aQ:(x==("__debug__":Str))=false:=by decide)
  (he:starEach (e::es) X.env=(false,eval e X.env)::starEach es X.env:=by rfl) (aI:(backTo pos (starEach es X.env)).any (·.1)=false:=by rfl):FE X Z (.Call (.Name x p) (e::es) [] pos) (Ac g fa) :=
 AJ (MW hc hg hm hv ha hn aQ he aI) λU H Q ⟨F,B,fs,ok,s⟩=>⟨F,B,fs,ok,Ax s λrs ag F1 H1 us l q s1=>iu F1 B H1 U ag rs us Q q.1 q.2 s1⟩
end
noncomputable def JaC:List Rv->FS->Out Rv
 | [x],fs=>match Df fs x with|some ts=>okT (.int ts.length) fs|none=>match ME x with|some ts=>okT (.int ts.length) fs|none=>.bad
 |_,_=>.bad
noncomputable def NL:List Rv->FS->Out Rv
 | [.t (.str z)],fs=>if z.length<=big then okT (.int z.length) fs else .bad
 |_,_=>.bad
noncomputable def Gm:List Rv->FS->Out Rv
 | [.t (.int i)],fs=>okT (.int i) fs
 | [.t (.v k)],fs=>okT (.int (if k then 1 else 0)) fs
 |_,_=>.bad
noncomputable def YG:List Rv->FS->Out Rv
 | [x],fs=>match(Df fs x).bind Cn with|some ns=>okT (.int ns.sum) fs|none=>.bad
 |_,_=>.bad
noncomputable def Xt:List Rv->FS->Out Rv
 | [x],fs=>match(Df fs x).bind CQ with|some ns=>okT (.v (ns.all id)) fs|none=>.bad
 |_,_=>.bad
noncomputable def TU:List Rv->FS->Out Rv
 | [x],fs=>match Df fs x with|some ts=>.ok (.nw (.lst ts)) fs|none=>match ME x with|some ts=>.ok (.nw (.lst ts)) fs|none=>.bad
 |_,_=>.bad
noncomputable def Bf:List Rv->FS->Out Rv
 | [x],fs=>match Df fs x with|some ts=>okT (.tup ts) fs|none=>match ME x with|some ts=>okT (.tup ts) fs|none=>.bad
 |_,_=>.bad
noncomputable def KH:Key->T
 |.inl i=>.int i
 |.inr x=>.str x
noncomputable def NK:List Rv->FS->Out Rv
 | [.t (.l ks _)],fs=>.ok (.nw (.lst (ks.map KH))) fs
 |_,_=>.bad
section
variable{K:Fg}{Z:Xp}
theorem A7(h:HJ K F H U [x] vs):∃v,vs=[v]/\Bz K F H U x v:=by obtain⟨v,w,rfl,h1,h2⟩:=h;have:=h2;subst this;exact⟨v,rfl,h1⟩
theorem Yr:Ct K Z (λxs H Q=>∃p ys,xs=[.ref p]/\(SqL K H p ys\/SqT K H p ys)/\Q (.int ys.length) H) JaC:=by
 intro F B H U fs rs vs Q ok q s;unfold JaC at s;split at s
 .obtain⟨v,rfl,qq⟩:=A7 q;have q:=qq;split at s
  next ts e=>obtain⟨a,us,rfl,hs,r⟩:=Bg ok q e;exact⟨a,us,rfl,.inl hs,by rw[r.len];exact s F H _ Le.refl (RR.of ok rfl)⟩
  .split at s
   next ts e=>obtain⟨a,us,rfl,hs,r⟩:=Br q e;exact⟨a,us,rfl,.inr hs,by rw[r.len];exact s F H _ Le.refl (RR.of ok rfl)⟩
   .exact s.elim
 .exact s.elim
theorem UD:Ct K Z (λxs H Q=>∃z,xs=[.str z]/\z.length<=sizeLine/\Q (.int z.length) H) NL:=by
 intro F B H U fs rs vs Q ok q s;unfold NL at s;split at s
 .rename_i z;obtain⟨v,rfl,qq⟩:=A7 q;have q:=qq;cases q;split at s
  next hz=>exact⟨z,rfl,uz hz D4,s F H _ Le.refl (RR.of ok rfl)⟩
  .exact s.elim
 .exact s.elim
theorem UG:Ct K Z (λxs H Q=>(∃i,xs=[.int i]/\Q (.int i) H)\/∃k,xs=[.v k]/\Q (.int (if k then 1 else 0)) H) Gm:=by
 intro F B H U fs rs vs Q ok q s;unfold Gm at s;split at s
 .obtain⟨v,rfl,qq⟩:=A7 q;have q:=qq;cases q;exact .inl ⟨_,rfl,s F H _ Le.refl (RR.of ok rfl)⟩
 .obtain⟨v,rfl,qq⟩:=A7 q;have q:=qq;cases q;exact .inr ⟨_,rfl,s F H _ Le.refl (RR.of ok rfl)⟩
 .exact s.elim
theorem Yq:Ct K Z (λxs H Q=>∃(l:Addr)(ns:List Int),xs=[.ref l]/\SqL K H l (ns.map V.int)/\Q (.int ns.sum) H) YG:=by
 intro F B H U fs rs vs Q ok q s;unfold YG at s;split at s
 .obtain⟨v,rfl,qq⟩:=A7 q;have q:=qq;split at s
  next ns e=>rw[uB]at e;obtain⟨ts,e1,e2⟩:=e;obtain⟨a,us,rfl,hs,r⟩:=Bg ok q e1;rw[Jg e2]at r;rw[Ad.ints r]at hs;exact⟨a,ns,rfl,hs,s F H _ Le.refl (RR.of ok rfl)⟩
  .exact s.elim
 .exact s.elim
theorem Yt:Ct K Z (λxs H Q=>∃(l:Addr)(bs:List Bool),xs=[.ref l]/\SqL K H l (bs.map V.v)/\Q (.v (bs.all id)) H) Xt:=by
 intro F B H U fs rs vs Q ok q s;unfold Xt at s;split at s
 .obtain⟨v,rfl,qq⟩:=A7 q;have q:=qq;split at s
  next ns e=>rw[uB]at e;obtain⟨ts,e1,e2⟩:=e;obtain⟨a,us,rfl,hs,r⟩:=Bg ok q e1;rw[E1 e2]at r;rw[Ad.bls r]at hs;exact⟨a,ns,rfl,hs,s F H _ Le.refl (RR.of ok rfl)⟩
  .exact s.elim
 .exact s.elim
theorem UC:Ct K Z (λxs H Q=>∃p ys,xs=[.ref p]/\(SqL K H p ys\/SqT K H p ys)/\∀l,H l=none->Q (.ref l) (upd H l (.lst ys))) TU:=by
 intro F B H U fs rs vs Q ok q s;unfold TU at s;split at s
 .obtain⟨v,rfl,qq⟩:=A7 q;have q:=qq;split at s
  next ts e=>obtain⟨a,us,rfl,hs,r⟩:=Bg ok q e;exact⟨a,us,rfl,.inl hs,λp hp=>s F (upd H p (.lst us)) (.ref p) (AE ok hp) (RR.alloc ok hp (Cb Ak (r.le (AE ok hp))))⟩
  .split at s
   next ts e=>obtain⟨a,us,rfl,hs,r⟩:=Br q e;exact⟨a,us,rfl,.inr hs,λp hp=>s F (upd H p (.lst us)) (.ref p) (AE ok hp) (RR.alloc ok hp (Cb Ak (r.le (AE ok hp))))⟩
   .exact s.elim
 .exact s.elim
theorem C8(ok:Okk K F B H fs U)(hp:H p=none)(r:Ad K F H ts us):RR K B U (Ow F p) (upd H p (.tup us)) fs (.t (.tup ts)) (.ref p):=by refine RR.of (ok.alloc hp) ?_;simp only[Bz,Ar];exact⟨p,us,rfl,⟨rfl,.inr rfl,Ak⟩,r.le (AN ok hp)⟩
theorem LA(ok:Okk K F B H fs U)(hp:H p=none)(r:Ad K F H ts us):RR K B U (Ow F p) (upd H p (.lst us)) fs (.t (.lst ts)) (.ref p):=by refine RR.of (ok.alloc hp) ?_;simp only[Bz,Ar];exact⟨p,us,rfl,.inr rfl,Ak,r.le (AN ok hp)⟩
theorem Qw:Ct K Z (λxs H Q=>∃p ys,xs=[.ref p]/\((SqL K H p ys/\∀l,H l=none->Q (.ref l) (upd H l (.tup ys)))\/(SqT K H p ys/\Q (.ref p) H))) Bf:=by
 intro F B H U fs rs vs Q ok q s;unfold Bf at s;split at s
 .rename_i x;obtain⟨v,rfl,qq⟩:=A7 q;have q:=qq;split at s
  next ts e=>obtain⟨a,us,rfl,hs,r⟩:=Bg ok q e;exact⟨a,us,rfl,.inl ⟨hs,λp hp=>s _ _ (.ref p) (AN ok hp) (C8 ok hp r)⟩⟩
  .split at s
   .rename_i ts e;obtain⟨a,us,rfl,hs,r⟩:=Br q e;have ex:x=.t (.tup ts):=by
     unfold ME at e;split at e
     .cases e;rfl
     .cases e
    rw[ex]at q;exact⟨a,us,rfl,.inr ⟨hs,s F H _ Le.refl (RR.of ok q)⟩⟩
   .exact s.elim
 .exact s.elim
theorem ER:∀ks:List Key,Ad K F H (ks.map KH) (ks.map kV)
 | []=>by simp[Ad]
 |.inl i::r=>by simp only[tR,Ad];exact⟨_,_,rfl,rfl,ER r⟩
 |.inr i::r=>by simp only[tR,Ad];exact⟨_,_,rfl,rfl,ER r⟩
theorem Qy:Ct K Z (λxs H Q=>∃p ah,xs=[.ref p]/\Rd H p (.l ah)/\∀l,H l=none->Q (.ref l) (upd H l (.lst (ah.map λkv=>kV kv.1)))) NK:=by
 intro F B H U fs rs vs Q ok q s;unfold NK at s;split at s
 .rename_i ks ts;obtain⟨v,rfl,qq⟩:=A7 q;have q:=qq;simp only[Bz,Ar]at q;obtain⟨a,ah,rfl,f,hd,rfl,r⟩:=q;refine⟨a,ah,rfl,hd,λp hp=>s F _ (.ref p) (AE ok hp) (RR.alloc ok hp (Cb Ak ?_))⟩;have e:(ah.map λkv=>kV kv.1)=(ah.map (·.1)).map kV:=by rw[uD];rfl
  rw[e];exact ER _
 .exact s.elim
end
def MtF(K:Fg)(Z:Xp)(r:V->List V->Hp->VK->Prop)(g:Rv->List Rv->FS->Out Rv):Prop:=∀(F:Wd)(B:Nat->Option V)(H:Hp)(U:St)(fs:FS)(x:Rv)(rs:List Rv)(u:V)(vs:List V)(Q:VK),Okk K F B H fs U->Bz K F H U x u->HJ K F H U rs vs ->
 sat Z B (RR K B U) F H (g x rs fs) Q->r u vs H Q
noncomputable def CF(g:Rv->List Rv->FS->Out Rv)(fo:FS->Out Rv)(fa:FS->Out (List Rv)):FS->Out Rv:=λfs=>(fo fs).bnd λx fs=>if(Df fs x).isSome=true then(fa fs).bind λrs fs=>g x rs fs else .bad
section
variable{X:Cx}{Z:Xp}{o e:Expr}{es:List Expr}{fo:FS->Out Rv}{fa:FS->Out (List Rv)}{g:Rv->List Rv->FS->Out Rv}{r:V->List V->Hp->VK->Prop}{aB aA:Pos}{name:Str}{id:String}
theorem X8(hg:MtF X.K Z r g)(slot:Slot "list" name id)(gG:typeOf (.builtin id)=pure (.type "method_descriptor"))(hm:MtR X id r)(ho:FE X Z o fo)(ha:FA X Z (e::es) fa)
  (fB:attributeBase o name X.env (eval o X.env)=eval o X.env:=by rfl)
  (ip:((backTo aA (starEach (e::es) X.env)).all (λx=>!x.1)&&(backToKw aA (keywordEach [] X.env)).all (λx=>x.1.isSome)
  &&decide ((e::es).length+([]:List Keyword).length+(if([]:List Keyword).isEmpty then 0 else 1)<30))=true:=by rfl)
  (fJ:(aB.endLine==aA.line)=true:=by rfl) (hs:starEach (e::es) X.env=(false,eval e X.env)::starEach es X.env:=by rfl) (dD:(backTo aA (starEach es X.env)).any (·.1)=false:=by rfl) :
  FE X Z (.Call (.Attribute o name aB) (e::es) [] aA) (CF g fo fa):=by
 refine AJ (Jab PySem.F.plainAttrs_list slot gG hm ho ha fB ip fJ hs dD) λU H Q ao => ?_
 obtain⟨F,B,fs,ok,s⟩:= ao;refine⟨F,B,fs,ok,Ay s λx ag F1 H1 u l ax rx s1=>?_⟩;split at s1
 next he=>obtain⟨ts,p7⟩:=vF.mp he;obtain⟨a,vs,rfl,hs,q⟩:=Bg ax rx p7;exact⟨.inl ⟨rfl,vs,hs⟩,F1,B,ag,ax,Ax s1 λrs av F2 H2 us l2 q2 s2=>hg F2 B H2 U av x rs _ us Q q2.1 (rx.le l2) q2.2 s2⟩
 .exact s1.elim
end
noncomputable def Hv:Rv->List Rv->FS->Out Rv
 |.n i,[.t t],fs=>match AD fs i with|some (.lst ts)=>if ts.length<big then .ok (.t .o) (putAt fs i (.lst (ts++[t])))else .bad|_=>.bad
 |_,_,_=>.bad
section
variable{K:Fg}{Z:Xp}{B:Nat->Option V}{F:Wd}{H:Hp}{U:St}{fs:FS}{i:Nat}{u:V}{ts:List T}
theorem Okk.list(h:Okk K F B H fs U)(r:U[i]?=some (some u))(e:AD fs i=some (.lst ts)):∃a vs,u=.ref a/\H a=some (.lst vs)/\Ad K F H ts vs /\
  ∀dk dU,Ad K F H dk dU->Okk K F B (upd H a (.lst dU)) (putAt fs i (.lst dk)) U/\Le F H F (upd H a (.lst dU)):=by
 obtain⟨v,L2,e1,q,nf,_,k⟩:=h.own e;rw[e1]at r;have e3:v=u:=by simpa using r
 subst e3;simp only[Ao]at q;obtain⟨a,vs,rfl,hs,q,rfl⟩:=q;refine⟨a,vs,rfl,hs,q,λdk dU q'=>?_⟩;have l:Le F H F (upd H a (.lst dU)):=⟨λb f=>⟨f,Aj λz=>(nf a (by simp)).1 (z▸f)⟩,λb f=>⟨f,Aj λz=>(nf a (by simp)).2 (z▸f)⟩⟩
 exact k _ _ (λb hb _=>Aj (by simpa using hb)) (Cb Ak (q'.le l))
theorem WT:MtF K Z MJ Hv:=by
 intro F B H U fs x rs u vs Q ok rx q s;unfold Hv at s;split at s
 .rename_i i t;obtain⟨v,rfl,qq⟩:=A7 q;have q:=qq;split at s
  .rename_i ts e;split at s
   next hl=>obtain⟨a,us,rfl,hs,r,k⟩:=ok.list rx e;obtain⟨dJ,l⟩:=k (ts++[t]) (us++[v]) (r.app (Ad.one q));exact⟨a,us,v,rfl,rfl,hs,by rw[r.len];exact vo hl FQ,s F _ _ l (RR.of dJ rfl)⟩
   .exact s.elim
  .exact s.elim
 .exact s.elim
end
noncomputable def F9:T->Option Key
 |.int i=>some (.inl i)
 |.str x=>some (.inr x)
 |_=>none
noncomputable def Gb:List T->Option (List Key)
 | []=>some []
 |t::r=>(F9 t).bind λk=>(Gb r).map (k::·)
theorem CB(e:F9 t=some k)(r:Ar K F H t u):u=kV k:=by
 unfold F9 at e;split at e
 .cases e;exact r
 .cases e;exact r
 .cases e
theorem DH:∀{ts:List T}{us:List V}{ks:List Key},Gb ts=some ks->Ad K F H ts us->us=ks.map kV
 | [],_,_,e,r=>by cases e;exact r
 |t::ts,_,_,e,r=>by simp only[Gb,uB,uc]at e;obtain⟨k,e1,ks,e2,rfl⟩:=e;simp only[Ad]at r;obtain⟨v,w,rfl,r1,r2⟩:=r;rw[tR,DH e2 r2,CB e1 r1]
noncomputable def BR{κ:Type}[DecidableEq κ]:List κ->List T->κ->Option T
 |k::ks,t::ts,j=>if k=j then some t else BR ks ts j
 |_,_,_=>none
noncomputable def Ea{κ:Type}[DecidableEq κ](ks:List κ)(ts:List T)(j:κ)(v:T):List κ×List T :=
 if(ks.any λk=>decide (k=j))=true then(ks,List.zipWith (λk t=>if k=j then v else t) ks ts)else(ks++[j],ts++[v])
section
variable{K:Fg}{F:Wd}{H:Hp}{κ:Type}[DecidableEq κ]
theorem EH:∀{ah:List (κ×V)}{ts:List T}{j:κ},Ad K F H ts (ah.map (·.2))->(BR (ah.map (·.1)) ts j=none/\Jp ah j=none)\/∃t v,BR (ah.map (·.1)) ts j=some t/\Jp ah j=some v/\Ar K F H t v
 | [],ts,j,r=>by have h:=r.len;cases ts with|nil=>exact .inl ⟨rfl,rfl⟩|cons t ts=>simp at h
 |(k,v)::ah,ts,j,r=>by
  cases ts with
  |nil =>have h:=r.len;simp at h
  |cons t ts =>
   simp only[tR,Ad]at r;obtain⟨v',w,e,r1,r2⟩:=r;cases e;by_cases hk:k=j
   .refine .inr ⟨t,v,?_,DE hk,r1⟩;simp only[tR,BR];rw[if_pos hk]
   .have e1:BR (((k,v)::ah).map (·.1)) (t::ts) j=BR (ah.map (·.1)) ts j:=by simp only[tR,BR];rw[if_neg hk]
    rw[e1,DG hk];exact EH r2
theorem Mh(q:Ar K F H t w):∀{ah:List (κ×V)}{ts:List T},Ad K F H ts (ah.map (·.2)) ->
  Ad K F H (List.zipWith (λk t'=>if k=j then t else t') (ah.map (·.1)) ts) ((ah.map λkv=>if kv.1=j then(kv.1,w)else kv).map (·.2))
 | [],ts,r=>by have h:=r.len;cases ts with|cons t ts=>simp at h|nil=>exact rfl
 |(k,v)::ah,ts,r=>by
  cases ts with
  |nil =>have h:=r.len;simp at h
  |cons t' ts =>
   simp only[tR,Ad]at r;obtain⟨v',w',e,r1,r2⟩:=r;cases e;have ih:=Mh q (j:=j) r2;simp only[tR,List.zipWith_cons_cons,Ad];by_cases hk:k=j
   .rw[if_pos hk,if_pos hk];exact⟨w,_,rfl,q,ih⟩
   .rw[if_neg hk,if_neg hk];exact⟨v,_,rfl,r1,ih⟩
theorem EM(q:Ar K F H t w){ah:List (κ×V)}(r:Ad K F H ts (ah.map (·.2))) :
  (putK ah j w).map (·.1)=(Ea (ah.map (·.1)) ts j t).1/\Ad K F H (Ea (ah.map (·.1)) ts j t).2 ((putK ah j w).map (·.2)):=by
 have e:((ah.map (·.1)).any λk=>decide (k=j))=(ah.any λkv=>decide (kv.1=j)):=by rw[List.any_map];rfl
 unfold putK Ea;rw[e];by_cases h:(ah.any λkv=>decide (kv.1=j))=true
 .rw[if_pos h,if_pos h];refine⟨?_,Mh q r⟩;rw[uD];refine List.map_congr_left λp hp=>?_
  show(if p.1=j then(p.1,w)else p).1=p.1;split<;>rfl
 .rw[if_neg h,if_neg h];refine⟨by rw[tU];rfl,?_⟩;rw[tU];exact r.app (Ad.one q)
end
noncomputable def RD(fs:FS):Rv->T->Option (Option T)
 |.t (.l ks ts),y=>(F9 y).map λk=>BR ks ts k
 |.t (.x ks ts),y=>(F9 y).map λk=>BR ks ts k
 |.t (.dT ks ts),.tup y=>(Gb y).map λk=>BR ks ts k
 |.n i,y=>match AD fs i with
  |some (.l ks ts)=>(F9 y).map λk=>BR ks ts k
  |some (.dT ks ts)=>match y with
   |.tup y=>(Gb y).map λk=>BR ks ts k
   |_=>none
  |_=>none
 |_,_=>none
section
variable{K:Fg}{B:Nat->Option V}{F:Wd}{H:Hp}{U:St}{fs:FS}{x:Rv}{y:T}{u w:V}
theorem N9(h:Okk K F B H fs U)(rx:Bz K F H U x u)(ry:Ar K F H y w)(e:RD fs x y=some o) :
  ∃a o',u=.ref a/\Jn H a w o'/\((o=none/\o'=none)\/∃t v,o=some t/\o'=some v/\Ar K F H t v):=by
 have key:∀{a:Addr}{ah:List (Key×V)}{ts:List T},Rd H a (.l ah)->Ad K F H ts (ah.map (·.2))->(F9 y).map (λk=>BR (ah.map (·.1)) ts k)=some o ->
   ∃o',Jn H a w o'/\((o=none/\o'=none)\/∃t v,o=some t/\o'=some v/\Ar K F H t v):=by
  intro a ah ts hd r e;rw[uc]at e;obtain⟨k,ek,eo⟩:=e;have:=CB ek ry;subst this;refine⟨_,.inl ⟨ah,k,hd,rfl,rfl⟩,?_⟩;rcases EH r with⟨h1,h2⟩|⟨t,v,h1,h2,h3⟩
  .exact .inl ⟨eo.symm.trans h1,h2⟩
  .exact .inr ⟨t,v,eo.symm.trans h1,h2,h3⟩
 have KH:∀{a:Addr}{ah:List (List Key×V)}{ts ys:List T},H a=some (.dT ah)->Ad K F H ts (ah.map (·.2))->y=.tup ys->(Gb ys).map (λk=>BR (ah.map (·.1)) ts k)=some o ->
   ∃o',Jn H a w o'/\((o=none/\o'=none)\/∃t v,o=some t/\o'=some v/\Ar K F H t v):=by
  intro a ah ts ys hd r ey e;rw[uc]at e;obtain⟨k,ek,eo⟩:=e;subst ey;simp only[Ar]at ry;obtain⟨b,vs,rfl,hb,rb⟩:=ry;have:=DH ek rb;subst this;refine⟨_,Jn.t hd hb.2.2,?_⟩;rcases EH r with⟨h1,h2⟩|⟨t,v,h1,h2,h3⟩
  .exact .inl ⟨eo.symm.trans h1,h2⟩
  .exact .inr ⟨t,v,eo.symm.trans h1,h2,h3⟩
 unfold RD at e;split at e
 .simp only[Bz,Ar]at rx;obtain⟨a,ah,rfl,f,hd,rfl,r⟩:=rx;obtain⟨o',h1,h2⟩:=key hd r e;exact⟨a,o',rfl,h1,h2⟩
 .simp only[Bz,Ar]at rx;obtain⟨a,ah,rfl,f,⟨ob,hd⟩,rfl,r⟩:=rx;obtain⟨o',h1,h2⟩:=key (.inr ⟨ob,hd⟩) r e;exact⟨a,o',rfl,h1,h2⟩
 .simp only[Bz,Ar]at rx;obtain⟨a,ah,rfl,f,hd,rfl,r⟩:=rx;obtain⟨o',h1,h2⟩:=KH hd r rfl e;exact⟨a,o',rfl,h1,h2⟩
 .rename_i y' i;have e2:U[i]?=some (some u):=rx;split at e
  .rename_i eo;obtain⟨v,L2,e1,q,_⟩:=h.own eo;rw[e1]at e2;have e3:v=u:=by simpa using e2
   subst e3;simp only[Ao]at q;obtain⟨a,ah,rfl,hd,rfl,r,_⟩:=q;obtain⟨o',h1,h2⟩:=key (.inl hd) r e;exact⟨a,o',rfl,h1,h2⟩
  .rename_i eo;split at e
   .obtain⟨v,L2,e1,q,_⟩:=h.own eo;rw[e1]at e2;have e3:v=u:=by simpa using e2
    subst e3;simp only[Ao]at q;obtain⟨a,ah,rfl,hd,rfl,r,_⟩:=q;obtain⟨o',h1,h2⟩:=KH hd r rfl e;exact⟨a,o',rfl,h1,h2⟩
   .cases e
  .cases e
 .cases e
end
noncomputable def J0:Rv->Rv->FS->Out Rv
 |x,.t y,fs=>match RD fs x y with|some (some t)=>okT t fs|_=>.bad
 |_,_,_=>.bad
noncomputable def TY(neg:Bool):Rv->Rv->FS->Out Rv
 |.t y,x,fs=>match RD fs x y with|some o=>okT (.v (if neg then !o.isSome else o.isSome)) fs|_=>.bad
 |_,_,_=>.bad
section
variable{X:Cx}{Z:Xp}{o i:Expr}{fo fi:FS->Out Rv}{pos:Pos}
end
noncomputable def EI:List Str->List T->Str->Option T
 |f::fs,t::ts,g=>if g==f then some t else EI fs ts g
 |_,_,_=>none
noncomputable def Bh:List Str->List FO->Str->Option FO
 |f::fs,t::ts,g=>if g==f then some t else Bh fs ts g
 |_,_,_=>none
noncomputable def JaF(C:Addr)(f:Str):Rv->FS->Out Rv
 |.t (.ins C' fs ts),st=>if C'=C then match EI fs ts f with|some t=>okT t st|none=>.bad
  else .bad
 |.n i,st=>match AD st i with
  |some (.ins C' fs os)=>if C'=C then match Bh fs os f with|some (.val t)=>okT t st|_=>.bad
   else .bad
  |_=>.bad
 |_,_=>.bad
theorem Kn:∀{ah:List (Str×V)}{ts:List T}{t:T},Ad K F H ts (ah.map (·.2))->EI (ah.map (·.1)) ts g=some t->∃v,ah.lookup g=some v/\Ar K F H t v
 | [],ts,t,r,e=>by cases ts<;>simp[EI]at e
 |(k,v)::ah,ts,t,r,e=>by cases ts with|nil=>simp[EI]at e|cons t' ts =>simp only[tR,Ad]at r;obtain⟨v',w',ee,r1,r2⟩:=r;cases ee;simp only[tR,EI]at e;rw[uM];cases hb:g==k with|true =>rw[hb]at e;cases e;exact⟨v,rfl,r1⟩|false =>rw[hb]at e;exact Kn r2 (by simpa using e)
theorem HQ:∀{ah:List (Str×V)}{ts:List FO}{L:List Addr}{t:FO},Aq K F H ts (ah.map (·.2)) L->Bh (ah.map (·.1)) ts g=some t->∃v L',ah.lookup g=some v/\Ao K F H t v L'/\∀a∈L',a∈L
 | [],ts,L,t,r,e=>by cases ts<;>simp[Bh]at e
 |(k,v)::ah,ts,L,t,r,e=>by cases ts with|nil=>simp[Bh]at e|cons t' ts =>simp only[tR,Aq]at r;obtain⟨v',w',L1,L2,ee,r1,r2,rfl⟩:=r;cases ee;simp only[tR,Bh]at e;rw[uM];cases hb:g==k with|true =>rw[hb]at e;cases e;exact⟨v,L1,rfl,r1,λa m=>ud _ m⟩|false =>rw[hb]at e;obtain⟨v2,L',h1,h2,h3⟩:=HQ r2 (by simpa using e);exact⟨v2,L',h1,h2,λa m=>ue _ (h3 a m)⟩
noncomputable def EF(C:Addr)(f:Str)(fo:FS->Out Rv):FS->Out Rv:=λfs=>(fo fs).bnd λx fs=>JaF C f x fs
section
variable{X:Cx}{Z:Xp}{o:Expr}{fo:FS->Out Rv}{pos:Pos}{C:Addr}{f:Str}
theorem X6(c:Cls X.K C)(n:Ba X.K C f)(ho:FE X Z o fo)(hb:attributeBase o f X.env (eval o X.env)=eval o X.env:=by rfl):FE X Z (.Attribute o f pos) (EF C f fo):=by
 refine AJ (Kw ho hb) λU H Q ao => ?_
 obtain⟨F,B,fs,ok,s⟩:= ao;refine⟨F,B,fs,ok,Ay s λx ag F1 H1 u l ax rx s1=>?_⟩;unfold JaF at s1;split at s1
 .rename_i C' gs ts;split at s1
  .rename_i hC;subst hC;split at s1
   next t e=>simp only[Bz,Ar]at rx;obtain⟨a,dx,ah,rfl,ff,hd,rfl,r⟩:=rx;obtain⟨v,e1,rv⟩:=Kn r e;exact⟨a,C',dx,ah,v,rfl,hd,c,n,e1,s1 F1 H1 v Le.refl (RR.of ax rv)⟩
   .exact s1.elim
  .exact s1.elim
 .rename_i i;split at s1
  .rename_i C' gs os eo;split at s1
   .rename_i hC;subst hC;split at s1
    .rename_i t e;obtain⟨v,L2,e1,q,_⟩:=ax.own eo;have e2:U[i]?=some (some u):=rx;rw[e1]at e2;have e3:v=u:=by simpa using e2
     subst e3;simp only[Ao]at q;obtain⟨a,dx,ah,L',rfl,hd,rfl,r,_⟩:=q;obtain⟨v2,L3,e4,r4,_⟩:=HQ r e;simp only[Ao]at r4;exact⟨a,C',dx,ah,v2,rfl,hd,c,n,e4,s1 F1 H1 v2 Le.refl (RR.of ax r4.2)⟩
    .exact s1.elim
   .exact s1.elim
  .exact s1.elim
 .exact s1.elim
end
def Gy(K:Fg)(Z:Xp)(B:Nat->Option V)(F:Wd)(H:Hp)(o:SO)(D:Ends):Prop:=match o with|.nx fs=>∀F' H' U,Le F H F' H'->Okk K F' B H' fs U->D.nx U H'|.ret r fs=>∀F' H' U u,Le F H F' H'->RR K B U F' H' fs r u->D.rt u H'|.brk fs=>∀F' H' U,Le F H F' H'->Okk K F' B H' fs U->D.bk U H'|.cnt fs=>∀F' H' U,Le F H F' H'->Okk K F' B H' fs U->D.ct U H'|.exc c fs=>Z.p F B H c fs|.bad=>False
inductive tSt(K:Fg)(Z:Xp)(g:FS->SO)(D:Ends)(U:St)(H:Hp):Prop
 |mk (F:Wd) (B:Nat->Option V) (fs:FS) (h0:Okk K F B H fs U) (h1:Gy K Z B F H (g fs) D)
def GS(X:Cx)(Z:Xp)(st:Stmt)(g:FS->SO):Prop:=PS X st (tSt X.K Z g)
def GSs(X:Cx)(Z:Xp)(l7:List Stmt)(g:FS->SO):Prop:=PSs X l7 (tSt X.K Z g)
theorem Gy.le(h:Gy K Z B F H o D)(l:Le F H F' H'):Gy K Z B F' H' o D:=by
 cases o with
 |nx fs=>exact λF2 H2 U l2 k=>h F2 H2 U (l.trans l2) k
 |ret r fs=>exact λF2 H2 U u l2 k=>h F2 H2 U u (l.trans l2) k
 |brk fs=>exact λF2 H2 U l2 k=>h F2 H2 U (l.trans l2) k
 |cnt fs=>exact λF2 H2 U l2 k=>h F2 H2 U (l.trans l2) k
 |exc c fs=>exact Z.mono h l
 |bad=>exact h
noncomputable def nxS:FS->SO:=λfs=>.nx fs
noncomputable def Al(g h:FS->SO):FS->SO:=λfs=>match g fs with|.nx fs=>h fs|o=>o
noncomputable def SO.of{α:Type}(o:Out α)(k:α->FS->SO):SO:=match o with|.ok a fs=>k a fs|.exc c fs=>.exc c fs|.bad=>.bad
theorem Bn(h:Gy K Z B F H (SO.of o k) D)
  (hk:∀a fs F' H' b,Le F H F' H'->R F' H' fs a b->Gy K Z B F' H' (k a fs) D->Q b H'):sat Z B R F H o Q:=by
 cases o with
 |ok a fs=>exact λF2 H2 b l r=>hk a fs F2 H2 b l r (Gy.le h l)
 |exc c fs=>exact h
 |bad=>exact h
noncomputable def V0(i:Nat)(r:Rv)(fs:FS):Option FS:=match r with|.t t=>some (fs.set i (some (.val t)))|.nw o=>some (fs.set i (some (.own o)))|.n _=>none
noncomputable def Ju(i:Nat)(r:Rv)(fs:FS):Option FS:=match fs[i]? with|none=>none|some (some (.bor _))=>none|some _=>V0 i r fs
theorem Jt(h:RR K B U F H fs r u)(e:Ju i r fs=some ar):Okk K F B H ar (U.set i (some u)):=by
 obtain⟨L,L',ok,q,nd,nf⟩:=h;have key:∀s:Option Sl,fs[i]?=some s->(∀o,s≠some (.bor o))->V0 i r fs=some ar->Okk K F B H ar (U.set i (some u)):=by
  intro s es hb e;obtain⟨v,L1,L2,L3,e1,rfl,h1,h2⟩:=ok.sl.pick es;have eF:∀a∈L',a∉L1++L3:=λa m m2=>(tQ.mp nd).2.2 a (by
   rcases tW.mp m2 with m2|m2
   .simp[m2]
   .simp[m2]) a m rfl
  have ka:∀a∈L1++(L'++L3),¬F a/\¬F.p a:=λa m=>by
   rcases tW.mp m with m|m
   .exact⟨ok.nf a (by simp[m]),ok.pl a (by simp[m])⟩
   .rcases tW.mp m with m|m
    .exact nf a m
    .exact⟨ok.nf a (by simp[m]),ok.pl a (by simp[m])⟩
  cases r with|t t =>cases e;obtain⟨rfl,q⟩:=q;refine⟨L1++([]++L3),h2 F H (some (.val t)) (some u) [] Le.refl (λ_ _=>rfl) ⟨u,rfl,q,rfl⟩,BD ok.nd uF (λ_ m=>nomatch m),λa m=>(ka a m).1,ok.fd,?_,ok.pd,ok.pf,λa m=>(ka a m).2⟩;exact En.put ok.bo (λo eo=>by cases eo) ok.sl.len|nw o =>cases e;refine⟨L1++(L'++L3),h2 F H (some (.own o)) (some u) L' Le.refl (λ_ _=>rfl) ⟨u,rfl,q⟩,BD ok.nd (tQ.mp nd).2.1 eF,λa m=>(ka a m).1,ok.fd,?_,ok.pd,ok.pf,λa m=>(ka a m).2⟩;exact En.put ok.bo (λo eo=>by cases eo) ok.sl.len|n j=>cases e
 unfold Ju at e;split at e
 .cases e
 .cases e
 next s hb es=>exact key s es (λo z=>hb o z) e
noncomputable def AB(i:Nat)(f:FS->Out Rv):FS->SO:=λfs=>SO.of (f fs) λr fs=>match Ju i r fs with|some fs=>.nx fs|none=>.bad
noncomputable def By(f:FS->Out Rv):FS->SO:=λfs=>SO.of (f fs) λ_ fs=>.nx fs
noncomputable def retS(f:FS->Out Rv):FS->SO:=λfs=>SO.of (f fs) λr fs=>.ret r fs
noncomputable def ifS(c:FS->Out Bool)(g h:FS->SO):FS->SO:=λfs=>SO.of (c fs) λb fs=>if b=true then g fs else h fs
section
variable{X:Cx}{Z:Xp}{st:Stmt}{rest a b:List Stmt}{e c:Expr}{f:FS->Out Rv}{fc:FS->Out Bool}{g h:FS->SO}{pos:Pos}
theorem TL:GSs X Z [] nxS:=ML Sq λD U H ⟨F,B,fs,ok,s⟩=>s F H U Le.refl ok
theorem PN(h1:GS X Z st g)(h2:GSs X Z rest h):GSs X Z (st::rest) (Al g h):=by
 refine ML (O1 h1 h2) λD U H ao => ?_
 obtain⟨F,B,fs,ok,s⟩:= ao;refine⟨F,B,fs,ok,?_⟩;unfold Al at s;cases e:g fs with
 |nx ag =>rw[e]at s;exact λF1 H1 iK l k=>⟨F1,B,ag,k,Gy.le s l⟩
 |ret r ag=>rw[e]at s;exact s
 |brk ag=>rw[e]at s;exact s
 |cnt ag=>rw[e]at s;exact s
 |exc c ag=>rw[e]at s;exact s
 |bad=>rw[e]at s;exact s
theorem TK(h1:GS X Z st g):GSs X Z [st] g:=So h1
theorem TM(he:FE X Z e f)(hs:swapsWith e none pos.line X.env=pure false:=by rfl):GS X Z (.Expr e pos) (By f) :=
 BM (Sr he hs) λD U H ⟨F,B,fs,ok,s⟩=>⟨F,B,fs,ok,Bn s λr ag F1 H1 u l q s1=>s1 F1 H1 U Le.refl q.ok⟩
theorem Xg(he:FE X Z e f):GS X Z (.Return (some e) pos) (retS f) :=
 BM (V3 he) λD U H ⟨F,B,fs,ok,s⟩=>⟨F,B,fs,ok,Bn s λr ag F1 H1 u l q s1=>s1 F1 H1 U u Le.refl q⟩
theorem Jaw(hc:FT X Z c fc)(ha:GSs X Z a g)(hb:GSs X Z b h):GS X Z (.If c a b pos) (ifS fc g h):=by
 refine BM (Z3 hc ha hb) λD U H ao => ?_
 obtain⟨F,B,fs,ok,s⟩:= ao;refine⟨F,B,fs,ok,Bn s λr ag F1 H1 u l q s1=>?_⟩;obtain⟨ax,rfl⟩:=q;cases u with|true =>rw[if_pos rfl]at s1 ⊢;exact⟨F1,B,ag,ax,s1⟩|false =>rw[if_neg (by decide)]at s1 ⊢;exact⟨F1,B,ag,ax,s1⟩
theorem VC(s:tSt K Z (AB i f) D U H):Vv (tF K Z f) (P6 i) D U H:=by
 obtain⟨F,B,fs,ok,s⟩:=s;refine⟨F,B,fs,ok,Bn s λr ag F1 H1 u l q s1=>?_⟩;split at s1
 next av e2=>exact s1 F1 H1 _ Le.refl (Jt q e2)
 .exact s1.elim
theorem Xf(i:Nat)(hN:X.N.Nodup)(hx:Loc X.env.scope x)(he:FE X Z e f)(hi:X.N[i]?=some x:=by rfl)(hs:swapsWith e (some (.Name x aR)) pos.line X.env=pure false:=by rfl)(hf:X.fn x=true\/X.env.scope.names.lookup x=some .local:=by first|exact .inl rfl|exact .inr rfl|assumption) :
  GS X Z (.Assign [.Name x aR] e pos) (AB i f) :=
 BM (V2 hN hi hx he hs hf) λ_ _ _ s=>VC s
end
def tG(K:Fg)(gt:T->FS->Option FS):TG:=λv U H Q=>∃F B fs t,Okk K F B H fs U/\Ar K F H t v/\match gt t fs with|some ar=>∀F' H' au,Le F H F' H'->Okk K F' B H' ar au->Q au H'|none=>False
noncomputable def tGs(K:Fg)(gt:List T->FS->Option FS):TGs:=λvs U H Q=>∃F B fs ts,Okk K F B H fs U/\Ad K F H ts vs/\match gt ts fs with|some ar=>∀F' H' au,Le F H F' H'->Okk K F' B H' ar au->Q au H'|none=>False
def GT(X:Cx)(tg:Expr)(gt:T->FS->Option FS):Prop:=PG X tg (tG X.K gt)
def GTs(X:Cx)(sk:List Expr)(gt:List T->FS->Option FS):Prop:=PGs X sk (tGs X.K gt)
theorem MS(h:PG X e t)(i:∀v U H Q,t' v U H Q->t v U H Q):PG X e t':=λaa s U H v u Q I r q=>h aa s U H v u Q I r (i _ _ _ _ q)
theorem MR(h:PGs X e t)(i:∀v U H Q,t' v U H Q->t v U H Q):PGs X e t':=λaa s U H v u Q I r q=>h aa s U H v u Q I r (i _ _ _ _ q)
noncomputable def tgN(i:Nat):T->FS->Option FS:=λt fs=>Ju i (.t t) fs
noncomputable def AG:List T->FS->Option FS
 | [],fs=>some fs
 |_,_=>none
noncomputable def Ag(g:T->FS->Option FS)(h:List T->FS->Option FS):List T->FS->Option FS
 |t::ts,fs=>(g t fs).bind λfs=>h ts fs
 |_,_=>none
noncomputable def AL(n:Nat)(h:List T->FS->Option FS):T->FS->Option FS
 |.tup ts,fs=>if ts.length=n then h ts fs else none
 |_,_=>none
section
variable{X:Cx}{e:Expr}{es:List Expr}{g:T->FS->Option FS}{h:List T->FS->Option FS}{pos:Pos}
theorem Bu(i:Nat)(hN:X.N.Nodup)(hx:Loc X.env.scope x)(hi:X.N[i]?=some x:=by rfl)(hf:X.fn x=true\/X.env.scope.names.lookup x=some .local:=by first|exact .inl rfl|exact .inr rfl|assumption):GT X (.Name x pos) (tgN i):=by
 refine MS (SD hN hi hx hf) λv U H Q ao=>?_
 obtain⟨F,B,fs,t,ok,r,s⟩:= ao;split at s
 next ar e=>exact s F H _ Le.refl (Jt (RR.of (r:=.t t) ok r) e)
 .exact s.elim
theorem TJ:GTs X [] AG:=by
 refine MR SA λv U H Q ao=>?_
 obtain⟨F,B,fs,ts,ok,r,s⟩:= ao;cases ts with|nil=>exact⟨r,s F H U Le.refl ok⟩|cons t ts=>exact s.elim
theorem DU(h1:GT X e g)(h2:GTs X es h)
  (hc:∀{t:TG}{u:TGs},PG X e t->PGs X es u->PGs X (e::es) (Xs t u)):GTs X (e::es) (Ag g h):=by
 refine MR (hc h1 h2) λv U H Q ao=>?_
 obtain⟨F,B,fs,ts,ok,r,s⟩:= ao;cases ts with
 |nil=>exact s.elim
 |cons t ts =>
  simp only[Ad]at r;obtain⟨v',w,rfl,r1,r2⟩:=r;refine⟨v',w,rfl,F,B,fs,t,ok,r1,?_⟩;simp only[Ag]at s;cases e1:g t fs with
  |none=>rw[e1]at s;exact s.elim
  |some ag =>
   rw[e1]at s;exact λF1 H1 iK l k=>⟨F1,B,ag,ts,k,r2.le l,by
    simp only[uZ]at s;split at s
    .exact λF2 H2 fU l2 k2=>s F2 H2 fU (l.trans l2) k2
    .exact s.elim⟩
theorem IH(hc:X.calm=true)(h1:GTs X es h)(hn:(assignEach es X.env).length=n:=by rfl)(dH:(assignEach es X.env).findIdx? (·.1)=none:=by rfl):GT X (.Tuple es k pos) (AL n h):=by
 refine MS (V8 hc h1 hn dH) λv U H Q ao=>?_
 obtain⟨F,B,fs,t,ok,r,s⟩:= ao;unfold AL at s;split at s
 .rename_i ar e;split at e
  .rename_i ts;split at e
   next hl=>simp only[Ar]at r;obtain⟨a,vs,rfl,hs,r⟩:=r;refine⟨a,vs,rfl,hs.sq,by rw[r.len];exact hl,F,B,fs,ts,ok,r,?_⟩;rw[e];exact s
   .cases e
  .cases e
 .exact s.elim
end
noncomputable def EY(f:FS->Out Rv)(g:T->FS->Option FS):FS->SO:=λfs=>SO.of (f fs) λr fs=>match r with
 |.t t=>match g t fs with|some fs=>.nx fs|none=>.bad
 |_=>.bad
section
variable{X:Cx}{Z:Xp}{e tg:Expr}{f:FS->Out Rv}{g:T->FS->Option FS}{pos:Pos}
theorem Xj(he:FE X Z e f)(hg:GT X tg g)(hs:swapsWithSole [tg] e pos.line X.env=pure false:=by rfl)(hw:swappedStores [tg] e X.env=pure none:=by rfl)
  (h1:(assignEach [tg] X.env).map (·.2)=[assign tg X.env]:=by rfl):GS X Z (.Assign [tg] e pos) (EY f g):=by
 refine BM (Q5 he hg hs hw h1) λD U H ao => ?_
 obtain⟨F,B,fs,ok,s⟩:= ao;refine⟨F,B,fs,ok,Bn s λr ag F1 H1 u l q s1=>?_⟩;split at s1
 .rename_i t;obtain⟨L,L',o1,⟨_,q⟩,_⟩:=q;refine⟨F1,B,ag,t,⟨L,o1⟩,q,?_⟩;split at s1
  next av e2=>exact λF2 H2 fU l2 k2=>s1 F2 H2 fU l2 k2
  .exact s1.elim
 .exact s1.elim
end
def Nw(K:Fg)(F:Wd)(H:Hp)(F':Wd)(H':Hp):Prop:=Le F H F' H'/\∀B fs U,Okk K F B H fs U->Okk K F' B H' fs U
theorem Nw.refl:Nw K F H F H:=⟨Le.refl,λ_ _ _ h=>h⟩
def JOk(K:Fg)(F:Wd)(H:Hp)(J:It)(ts:List T):Prop:=∀(F':Wd)(H':Hp),(∀a,F a->F' a/\H' a=H a)->(∃B fs U,Okk K F' B H' fs U)->∀i,(∀t,ts[i]?=some t->J.go i H'/\∀x fW,J.yV i H' x fW->∃F'',Nw K F' H' F'' fW/\Ar K F'' fW t x)/\(ts.length<=i->J.stop i H')
theorem JOk.within(h:JOk K F H J ts):JOk K ⟨F.f,p⟩ H J ts:=λF2 H2 l2=>h F2 H2 l2
theorem Ad.lf(l:∀a,F a->F' a/\H' a=H a)(r:Ad K F H ts vs):Ad K F' H' ts vs :=
 Ad.le (F:=⟨F.f,λ_=>False⟩) ⟨l,λ_ z=>z.elim⟩ (Ad.wp r)
theorem StL.lf(l:∀a,F a->F' a/\H' a=H a)(r:StL K F H a vs):StL K F' H' a vs:=by
 rcases r with⟨f,h⟩|h
 .exact .inl ⟨(l a f).1,FL.Rd.same h (l a f).2⟩
 .exact .inr h
theorem stays(e:H'=H)(r:Ar K F H t x):∃F',Nw K F H F' H'/\Ar K F' H' t x:=by subst e;exact⟨F,Nw.refl,r⟩
def RJ(K:Fg)(B:Nat->Option V)(U:St):Wd->Hp->FS->List T->It->Prop:=λF H fs ts J=>Okk K F B H fs U/\JOk K F H J ts
inductive tI(K:Fg)(Z:Xp)(f:FS->Out (List T))(U:St)(H:Hp)(R:It->Hp->Prop):Prop
 |mk (F:Wd) (B:Nat->Option V) (fs:FS) (h0:Okk K F B H fs U) (h1:sat Z B (RJ K B U) F H (f fs) R)
def FI(X:Cx)(Z:Xp)(tg aC:Expr)(f:FS->Out (List T)):Prop:=PI X tg aC (tI X.K Z f)
theorem Ij(h:PI X tg e t)(i:∀U H Q,t' U H Q->t U H Q):PI X tg e t':=λaa s U H Q I q=>h aa s U H Q I (i _ _ _ q)
noncomputable def signs(z:Str):List T:=z.cps.toList.map λc=>T.str ⟨#[c]⟩
noncomputable def upTo(lo:Int)(n:Nat):List T:=(List.range n).map λi=>T.int (lo+(i:Nat))
noncomputable def LR(f:FS->Out (List Rv)):FS->Out (List T):=λfs=>(f fs).bind λrs fs=>match rs with| [.t (.int j)]=>if -(2^62)<=j/\j<2^62 then .ok (upTo 0 j.toNat) fs else .bad|_=>.bad
section
variable{X:Cx}{Z:Xp}{tg l a b c:Expr}{f:FS->Out Rv}{fa:FS->Out (List Rv)}{p pos:Pos}{K:Fg}{F:Wd}{H:Hp}
theorem KJ{a:Addr}(hs:∀(F':Wd) H',(∀a,F a->F' a/\H' a=H a)->SqL K H' a vs)(r:Ad K F H ts vs):JOk K F H (Itl K a) ts:=by intro F' H' l _ i;have r':=Ad.lf l r;refine⟨λt et=>?_,λhl=>⟨vs,hs F' H' l,by rw[r.len];exact hl⟩⟩;obtain⟨v,ev,rv⟩:=r'.at et;refine⟨⟨vs,v,hs F' H' l,ev⟩,λx fW hy=>stays hy.1 ?_⟩;have:=hy.2 vs (hs F' H' l);rw[ev]at this;cases this;exact rv
theorem Ts{a:Addr}(hs:∀(F':Wd) H',(∀a,F a->F' a/\H' a=H a)->SqT K H' a vs)(r:Ad K F H ts vs):JOk K F H (Itt K a) ts:=by intro F' H' l _ i;have r':=Ad.lf l r;refine⟨λt et=>?_,λhl=>⟨vs,hs F' H' l,by rw[r.len];exact hl⟩⟩;obtain⟨v,ev,rv⟩:=r'.at et;refine⟨⟨vs,v,hs F' H' l,ev⟩,λx fW hy=>stays hy.1 ?_⟩;have:=hy.2 vs (hs F' H' l);rw[ev]at this;cases this;exact rv
theorem Nu:JOk K F H (Itr lo n) (upTo lo n):=by
 intro F' H' l _ i;refine⟨λt et=>?_,λhl=>by unfold upTo at hl;simpa[Itr]using hl⟩;unfold upTo at et;rw[ux]at et;have hi:i<n:=by
  by_cases h:i<n
  .exact h
  .rw[u7 (by simpa using h)]at et;cases et
 rw[List.getElem?_range hi]at et;cases et;exact⟨hi,λx fW hy=>stays hy.1 hy.2⟩
theorem Tt:JOk K F H (Its z) (signs z):=by
 intro F' H' l _ i;refine⟨λt et=>?_,λhl=>by unfold signs at hl;simpa[Its]using hl⟩;unfold signs at et;rw[ux,uc]at et;obtain⟨c,ec,rfl⟩:=et;have hi:=by have:=(tX.mp ec).1;simpa using this
 refine⟨hi,λx fW hy=>stays hy.1 ?_⟩;obtain⟨c',e1,e2⟩:=hy.2;rw[Array.getElem?_toList]at ec;rw[ec]at e1;cases e1;exact e2
theorem NS(hm:X.mg "range"=none)(ha:FA X Z [a] fa)(hg:Gl X "range":=by rfl)(hs:starEach [a] X.env=[(false,eval a X.env)]:=by rfl):FI X Z tg (.Call (.Name "range" p) [a] [] pos) (LR fa):=by
 refine Ij (MQ hg hm ha hs) λU H Q ao => ?_
 obtain⟨F,B,fs,ok,s⟩:= ao;refine⟨F,B,fs,ok,Ax s λrs ag F1 H1 us l q s1=>?_⟩;obtain⟨ax,q⟩:=q;split at s1
 .rename_i j;split at s1
  next hj=>obtain⟨v,rfl,qq⟩:=A7 q;have q:=qq;cases q;exact⟨j,rfl,hj.1,hj.2,s1 F1 H1 _ Le.refl ⟨ax,Nu⟩⟩
  .exact s1.elim
 .exact s1.elim
end
noncomputable def ES(gt:T->FS->Option FS)(body:FS->SO):List T->FS->SO
 | [],fs=>.nx fs
 |t::ts,fs=>match gt t fs with|none=>.bad|some fs=>match body fs with|.nx fs=>ES gt body ts fs|.cnt fs=>ES gt body ts fs|.brk fs=>.nx fs|o=>o
noncomputable def B4(src:FS->Out (List T))(gt:T->FS->Option FS)(body:FS->SO):FS->SO:=λfs=>SO.of (src fs) λts fs=>ES gt body ts fs
section
variable{X:Cx}{Z:Xp}{tg aC c:Expr}{src:FS->Out (List T)}{gt:T->FS->Option FS}{g:FS->SO}{body:List Stmt}{pos:Pos}{fc:FS->Out Bool}
theorem Xh(hp:PassesOwn (model X.prog X.w) X.A X.env X.xe)(hc:X.calm=true)(hi:FI X Z tg aC src)(hg:GT X tg gt)(hb:GSs X Z body g)
  (hs:∀x,foldedSetIterable aC X.env x=pure x:=by intro _;rfl):GS X Z (.For tg aC body [] pos) (B4 src gt g):=by
 refine BM (V4 hp hc hi hg hb hs) λD U H ao => ?_
 obtain⟨F,B,fs,ok,s⟩:= ao;refine⟨F,B,fs,ok,Bn s λts ag F1 H1 J l q s1=>?_⟩;obtain⟨ax,jk⟩:=q;refine⟨λi m U H=>m=ts.length-i/\∃F' ar,Le F1 H1 F' H/\Okk X.K F' B H ar U/\Gy X.K Z B F' H (ES gt g (ts.drop i) ar) D,⟨ts.length,rfl,F1,ag,Le.refl,ax,s1⟩,?_⟩
 rintro i m U H ⟨rfl,F2,av,l2,aO,s2⟩
 by_cases hi:i<ts.length
 .refine .inr ?_;have ei:=tO hi;have ed:=vW hi;rw[ed]at s2;obtain⟨j1,j2⟩:=(jk F2 H l2.f ⟨_,_,_,aO⟩ i).1 _ ei;refine⟨j1,λau H'=>∃F' ar,Le F1 H1 F' H'/\Okk X.K F' B H' ar au/\Gy X.K Z B F' H' (ES gt g (ts.drop (i+1)) ar) D,λau H' h=>⟨ts.length-(i+1),by lia,rfl,h⟩,λx H' hy=>?_⟩;obtain⟨om,⟨nB,nw⟩,rx⟩:=j2 x H' hy;replace l2:=l2.trans nB;replace s2:=Gy.le s2 nB;replace aO:=nw _ _ _ aO;refine⟨om,B,av,ts[i],aO,rx,?_⟩;simp only[ES]at s2;cases eg:gt ts[i] av with
  |none=>rw[eg]at s2;exact s2.elim
  |some cw =>
   rw[eg]at s2;intro F3 H3 iL l3 dM;refine⟨F3,B,cw,dM,?_⟩;have s3:=Gy.le s2 l3;simp only at s3;cases eb:g cw with
   |nx gT =>rw[eb]at s3;exact λF4 H4 sC l4 iD=>⟨F4,gT,(l2.trans l3).trans l4,iD,Gy.le s3 l4⟩
   |cnt gT =>rw[eb]at s3;exact λF4 H4 sC l4 iD=>⟨F4,gT,(l2.trans l3).trans l4,iD,Gy.le s3 l4⟩
   |brk gT=>rw[eb]at s3;exact s3
   |ret r gT=>rw[eb]at s3;exact s3
   |exc c gT=>rw[eb]at s3;exact s3
   |bad=>rw[eb]at s3;exact s3
 .refine .inl ⟨(jk F2 H l2.f ⟨_,_,_,aO⟩ i).2 (by lia),?_⟩;rw[vn (by lia)]at s2;exact s2 F2 H U Le.refl aO
end
section
variable{K:Fg}{F F':Wd}{H H':Hp}{B:Nat->Option V}{fs:FS}{U:St}{L:List Addr}
theorem An.toP:∀{fs:FS}{U:St}{L:List Addr},An K F H fs U L->∃bF:Nat->List Addr,(∀i s,fs[i]?=some s->∃v,U[i]?=some v/\Kj K F H s v (bF i))/\(∀i a,a∈bF i->a∈L) /\
  (L.Nodup->(∀i,(bF i).Nodup)/\∀i j a,i≠j->a∈bF i->a∉bF j)/\∀i,fs.length<=i->bF i=[]
 | [],U,L,h=>⟨λ_=>[],(λi s e=>by simp at e),(λi a m=>nomatch m),(λ_=>⟨λ_=>uF,(λ_ _ _ _ m=>nomatch m)⟩),λ_ _=>rfl⟩
 |s::r,U,L,h=>by
  obtain⟨v,au,L1,L2,rfl,h1,h2,rfl⟩:=h.Gu;obtain⟨bF,q1,q2,q3,q4⟩:=An.toP h2;refine⟨λi=>match i with|0=>L1|i+1=>bF i,λi s' e=>?_,λi a m=>?_,λnd=>?_,λi hi=>?_⟩
  .cases i with|zero =>simp at e;subst e;exact⟨v,rfl,h1⟩|succ i =>obtain⟨w,e1,e2⟩:=q1 i s' (by simpa using e);exact⟨w,by simpa using e1,e2⟩
  .cases i with|zero=>exact ud _ m|succ i=>exact ue _ (q2 i a m)
  .rw[tQ]at nd;obtain⟨n1,n2,n3⟩:=nd;obtain⟨m1,m2⟩:=q3 n2;refine⟨λi=>?_,λi j a dz hi hj=>?_⟩
   .cases i with|zero=>exact n1|succ i=>exact m1 i
   .cases i with
    |zero =>cases j with|zero=>exact dz rfl|succ j=>exact n3 a hi a (q2 j a hj) rfl
    |succ i =>cases j with|zero=>exact n3 a hj a (q2 i a hi) rfl|succ j=>exact m2 i j a (λe=>dz (by rw[e])) hi hj
  .cases i with|zero=>simp at hi|succ i=>exact q4 i (by simpa using hi)
theorem An.ofP:∀{fs:FS}{U:St}(bF:Nat->List Addr),U.length=fs.length->(∀i s,fs[i]?=some s->∃v,U[i]?=some v/\Kj K F H s v (bF i))->(∀i,(bF i).Nodup)->(∀i j a,i≠j->a∈bF i->a∉bF j) ->
  ∃L,An K F H fs U L/\L.Nodup/\∀a∈L,∃i,i<fs.length/\a∈bF i
 | [],U,bF,hl,h,nd,dj=>by have:=vi (by simpa using hl);subst this;exact⟨[],⟨rfl,rfl⟩,uF,λ_ m=>nomatch m⟩
 |s::r,[],bF,hl,h,nd,dj=>by simp at hl
 |s::r,v::U,bF,hl,h,nd,dj=>by
  obtain⟨L,h1,h2,h3⟩:=An.ofP (U:=U) (λi=>bF (i+1)) (by simpa using hl) (λi s' e=>by obtain⟨w,e1,e2⟩:=h (i+1) s' (by simpa using e);exact⟨w,by simpa using e1,e2⟩) (λi=>nd (i+1)) (λi j a dz=>dj (i+1) (j+1) a (by lia));obtain⟨w,e1,e2⟩:=h 0 s rfl;simp at e1;subst e1;refine⟨bF 0++L,An.cons e2 h1,?_,λa m=>?_⟩
  .rw[tQ];refine⟨nd 0,h2,λa ha b hb e=>?_⟩;obtain⟨i,_,hi⟩:=h3 b hb;exact dj 0 (i+1) a (by lia) ha (by rw[e];exact hi)
  .rcases tW.mp m with m|m
   .exact⟨0,by simp,m⟩
   .obtain⟨i,hi,q⟩:=h3 a m;exact⟨i+1,by simp;exact hi,q⟩
theorem Ok.take(h:Ok K F B H fs U L)(n:Nat):∃L',Ok K F B H (fs.take n) (U.take n) L'/\∀a∈L',a∈L:=by
 obtain⟨bF,q1,q2,q3,q4⟩:=h.sl.toP;obtain⟨n1,n2⟩:=q3 h.nd;have hl:(U.take n).length=(fs.take n).length:=by rw[uN,uN,h.sl.len]
 obtain⟨L',p1,p2,p3⟩:=An.ofP (U:=U.take n) bF hl (λi s e=>by
  have hi:i<n:=by
   have:=(tX.mp e).1;rw[uN]at this
   lia
  rw[vY hi]at e ⊢;exact q1 i s e) n1 n2
 have sub:=λa m=>let⟨i,_,q⟩:=p3 a m;q2 i a q
 refine⟨L',⟨p1,p2,λa m=>h.nf a (sub a m),h.fd,λi o e=>?_,h.pd,h.pf,λa m=>h.pl a (sub a m)⟩,sub⟩;have hi:i<n:=by
  have:=(tX.mp e).1;rw[uN]at this
  lia
 rw[vY hi]at e ⊢;exact h.bo i o e
theorem RR.take(h:RR K B U F H fs r u)(n:Nat)(hr:∀i,r≠.n i):RR K B (U.take n) F H (fs.take n) r u:=by
 obtain⟨L,L',ok,q,nd,nf⟩:=h;obtain⟨L2,aO,sub⟩:=ok.take n;refine⟨L2,L',aO,?_,?_,nf⟩
 .cases r with|t t=>exact q|nw o=>exact q|n i=>exact(hr i rfl).elim
 .rw[tQ]at nd ⊢;exact⟨aO.nd,nd.2.1,λa ha b hb=>nd.2.2 a (sub a ha) b hb⟩
theorem Ok.more(h:Ok K F B H fs U L)(n:Nat):Ok K F B H (fs++List.replicate n none) (U++List.replicate n none) L:=by
 have key:∀n:Nat,An K F H (List.replicate n none) (List.replicate n none) []:=by
  intro n
  induction n with|zero=>exact⟨rfl,rfl⟩|succ n ih =>rw[List.replicate_succ,List.replicate_succ];simp only[An];exact⟨none,_,rfl,ih⟩
 have app:∀{fs gs:FS}{U τ:St}{L M:List Addr},An K F H fs U L->An K F H gs τ M->An K F H (fs++gs) (U++τ) (L++M):=by
  intro fs
  induction fs with|nil =>intro gs U τ L M h1 h2;simp only[An]at h1;obtain⟨rfl,rfl⟩:=h1;exact h2|cons s r ih =>intro gs U τ L M h1 h2;obtain⟨v,au,L1,L2,rfl,q1,q2,rfl⟩:=h1.Gu;have:=An.cons q1 (ih q2 h2);simpa using this
 refine⟨by simpa using app h.sl (key n),h.nd,h.nf,h.fd,λi o e=>?_,h.pd,h.pf,h.pl⟩;by_cases hi:i<fs.length
 .rw[vz hi]at e;obtain⟨v,e1,e2⟩:=h.bo i o e;exact⟨v,by rw[vz (by rw[h.sl.len];exact hi)];exact e1,e2⟩
 .rw[u5 (by lia)]at e;have:=uP e;simp at this
theorem RR.mv(q:RR K B U F H fs (.n i) u)(es:fs[i]?=some (some (.own o))):RR K B U F H (fs.set i none) (.nw o) u:=by
 obtain⟨L,L',o1,⟨_,q⟩,nd,nf⟩:=q;obtain⟨v,L1,L2,L3,e1,rfl,h1,h2⟩:=o1.sl.pick es;obtain⟨w,rfl,q2⟩:=h1;rw[e1]at q;have eu:w=u:=by simpa using q
 subst eu;have h3:=h2 F H none (some w) [] Le.refl (λ_ _=>rfl) rfl;rw[A5 e1]at h3;have bP:=o1.nd;refine⟨L1++([]++L3),L2,⟨h3,BD bP uF (λ_ m=>nomatch m),λa m=>o1.nf a ?_,o1.fd,?_,o1.pd,o1.pf,λa m=>o1.pl a ?_⟩,q2,?_,λa m=>⟨o1.nf a (by simp[m]),o1.pl a (by simp[m])⟩⟩
 .have m':=by simpa using m
  rcases m' with m|m<;>simp[m]
 .have:=En.put (i:=i) (s:=none) (v:=some w) o1.bo (λo eo=>by cases eo) o1.sl.len;rwa[A5 e1]at this
 .have m':=by simpa using m
  rcases m' with m|m<;>simp[m]
 .have p:(L1++(L2++L3)).Perm ((L1++([]++L3))++L2):=by rw[vH,uL];exact List.Perm.append_left _ List.perm_append_comm
  exact p.nodup_iff.mp bP
end
inductive Ini where
 |no|val (t:T)|slot (j:Nat)|new (o:FO)
noncomputable def PD(fs:FS):Ini->Option Sl
 |.no=>none
 |.val t=>some (.val t)
 |.new o=>some (.bor o)
 |.slot j=>match fs[j]? with|some (some (.val t))=>some (.val t)|some (some (.own o))=>some (.bor o)|some (some (.bor o))=>some (.bor o)|_=>none
noncomputable def BU(fs:FS)(is:List Ini):FS:=is.map (PD fs)
noncomputable def A8(fs:FS):Ini->Option Nat
 |.slot j=>if(AD fs j).isSome=true then some j else none
 |_=>none
noncomputable def DC(fs:FS)(is:List Ini):List Nat:=is.filterMap (A8 fs)
noncomputable def placeOf(fs:FS)(j:Nat):List Ini->Nat->Option Nat
 | [],_=>none
 |i::r,k=>if A8 fs i=some j then some k else placeOf fs j r (k+1)
noncomputable def Kc(fs:FS)(is:List Ini)(τ:FS)(j:Nat)(s:Option Sl):Option (Option Sl):=match placeOf fs j is 0 with|none=>some s|some k=>match τ[k]?,s with|some (some (.bor o)),some s=>some (some (s.put o))|_,_=>none
noncomputable def Gp(fs:FS)(is:List Ini)(τ:FS):Nat->FS->Option FS
 |_,[]=>some []
 |j,s::r=>match Kc fs is τ j s,Gp fs is τ (j+1) r with|some s',some r'=>some (s'::r')|_,_=>none
noncomputable def Dz(is:List Ini)(τ fs:FS):Option FS:=Gp fs is τ 0 fs
theorem placeOf_some:∀{is:List Ini}{k k':Nat},placeOf fs j is k=some k'->k<=k'/\∃i,is[k'-k]?=some i/\A8 fs i=some j
 | [],_,_,e=>by simp[placeOf]at e
 |i::r,k,k',e=>by
  simp only[placeOf]at e;split at e
  next h=>cases e;exact⟨uh _,i,by simp,h⟩
  .obtain⟨h1,i',h2,h3⟩:=placeOf_some e;refine⟨by lia,i',?_,h3⟩;rw[show k'-k=(k'-(k+1))+1 by lia];simpa using h2
theorem placeOf_none:∀{is:List Ini}{k:Nat},placeOf fs j is k=none->j∉DC fs is
 | [],_,_,h=>by simp[DC]at h
 |i::r,k,e,h=>by
  simp only[placeOf]at e;split at e
  .cases e
  .rename_i hn;unfold DC at h;rw[vE]at h;cases q:A8 fs i with
   |none =>rw[q]at h;exact placeOf_none e h
   |some j' =>
    rw[q]at h;rcases uk.mp h with h|h
    .exact hn (by rw[q,h])
    .exact placeOf_none e h
theorem IC:∀{is:List Ini}{k k':Nat}{i i':Ini}{j:Nat},(DC fs is).Nodup->is[k]?=some i->is[k']?=some i'->A8 fs i=some j->A8 fs i'=some j->k=k'
 | [],_,_,_,_,_,_,e,_,_,_=>by simp at e
 |i0::r,k,k',i,i',j,nd,e,e',h,h'=>by
  have mem:∀{m:Nat}{x:Ini},r[m]?=some x->A8 fs x=some j->j∈DC fs r:=λhm hx=>vU.mpr ⟨_,uP hm,hx⟩
  unfold DC at nd;rw[vE]at nd;cases k with
  |zero =>simp at e;subst e;rw[h]at nd;have gL:=nd;cases k' with|zero=>rfl|succ k'=>exact((uG.mp gL).1 (mem (by simpa using e') h')).elim
  |succ k =>
   cases k' with
   |zero =>simp at e';subst e';rw[h']at nd;have gL:=nd;exact((uG.mp gL).1 (mem (by simpa using e) h)).elim
   |succ k' =>
    have gL:=by cases q:A8 fs i0 with|none=>rw[q]at nd;exact nd|some j'=>rw[q]at nd;exact(uG.mp nd).2
    exact congrArg (·+1) (IC gL (by simpa using e) (by simpa using e') h h')
theorem Lf:∀{r r':FS}{j:Nat},Gp fs is τ j r=some r'->r'.length=r.length/\∀i s,r[i]?=some s->∃s',r'[i]?=some s'/\Kc fs is τ (j+i) s=some s'
 | [],_,_,e=>by simp only[Gp]at e;cases e;exact⟨rfl,λi s q=>by simp at q⟩
 |s::r,_,j,e=>by
  simp only[Gp]at e;split at e
  next s' r' h1 h2=>cases e;obtain⟨q1,q2⟩:=Lf h2;refine⟨by simp[q1],λi s0 q=>?_⟩;cases i with|zero =>simp at q;subst q;exact⟨s',rfl,h1⟩|succ i =>obtain⟨s1,e1,e2⟩:=q2 i s0 (by simpa using q);exact⟨s1,by simpa using e1,by rw[show j+(i+1)=j+1+i by lia];exact e2⟩
  .cases e
def UO(K:Fg)(F:Wd)(H:Hp)(U:St)(i:Ini)(v:Option V)(M:List Addr):Prop:=match i with|.no=>True|.val t=>∃u,v=some u/\Ar K F H t u|.slot j=>U[j]?=some v|.new o=>∃u,v=some u/\Ao K F H o u M
structure Mu(F:Wd)(H:Hp)(L:List Addr)(μ:Nat->List Addr):Prop where
 out:∀k a,a∈μ k->¬F a/\¬F.p a/\a∉L/\H a≠none
 nd:∀k,(μ k).Nodup
 dj:∀k k' a,k≠k'->a∈μ k->a∉μ k'
theorem Mu.no:Mu F H L (λ_=>[]):=⟨(λ_ _ m=>nomatch m),λ_=>uF,(λ_ _ _ _ m=>nomatch m)⟩
theorem lend(ok:Ok K F B H fs U L)(hl:σi.length=is.length)(hi:∀(k:Nat)(i:Ini)(v:Option V),is[k]?=some i->σi[k]?=some v->UO K F H U i v (μ k))(nd:(DC fs is).Nodup)(eQ:Mu F H L μ) :
  ∃P:Addr->Prop,(∀a,F.p a->P a)/\Okk K ⟨F.f,P⟩ (λk=>(σi[k]?).join) H (BU fs is) σi/\(∀a,P a->H a≠none) /\
   ∀(F2:Wd)(H2:Hp)(τ:FS)(fU:St)(Li:List Addr)(ar:FS),Le ⟨F.f,P⟩ H F2 H2->Ok K F2 (λk=>(σi[k]?).join) H2 τ fU Li->Dz is τ fs=some ar ->
    Le F H ⟨F2.f,F.p⟩ H2/\∃L,Ok K ⟨F2.f,F.p⟩ B H2 ar U L/\∀a∈L,a∈Li\/P a:=by
 obtain⟨bF,q1,q2,q3,q4⟩:=ok.sl.toP;obtain⟨n1,n2⟩:=q3 ok.nd;have jA:∀j,(AD fs j).isSome=true->∃o s,AD fs j=some o/\fs[j]?=some (some s)/\(s=.own o\/s=.bor o):=by
  intro j hj;unfold AD at hj ⊢;split at hj
  next o es=>exact⟨o,_,rfl,es,.inl rfl⟩
  next o es=>exact⟨o,_,rfl,es,.inr rfl⟩
  .cases hj
 refine⟨λa=>F.p a\/∃j,a∈bF j/\j∉DC fs is,λa p=>.inl p,?_,λa p=>?_,?_⟩
 .
  obtain⟨L',p1,p2,p3⟩:=An.ofP (fs:=BU fs is) (U:=σi) (λk=>match is[k]? with|some i=>(match A8 fs i with|some j=>bF j|none=>(match i with|.new _=>μ k|_=>[]))|none=>[]) (by unfold BU;rw[tZ];exact hl)
   (λk s e=>by
    unfold BU at e;rw[ux,uc]at e;obtain⟨i,ei,rfl⟩:=e;have hk:k<σi.length:=by rw[hl];exact(tX.mp ei).1
    refine⟨σi[k],tO hk,?_⟩;have io:=hi k i _ ei (tO hk);simp only[ei];have lw:∀(t:T)(u:V),Ar K F H t u->Ar K ⟨F.f,λa=>F.p a\/∃j,a∈bF j/\j∉DC fs is⟩ H t u:=λt u r=>Ar.wp r
    cases i with
    |no=>rfl
    |val t =>obtain⟨u,eu,r⟩:=io;exact⟨u,eu,lw t u r,rfl⟩
    |new o =>obtain⟨u,eu,r⟩:=io;exact⟨u,eu,Ao.wp r⟩
    |slot j =>
     have ej:U[j]?=some σi[k]:=io;simp only[PD,A8];cases es:fs[j]? with
     |none =>
      have:AD fs j=none:=by unfold AD;rw[es]
      rw[this];rfl
     |some s =>
      obtain⟨v,e1,e2⟩:=q1 j s es;rw[ej]at e1;cases e1;cases s with
      |none =>
       have:AD fs j=none:=by unfold AD;rw[es]
       rw[this];rfl
      |some s =>
       cases s with
       |val t =>
        have:AD fs j=none:=by unfold AD;rw[es]
        rw[this];obtain⟨u,eu,r,_⟩:=e2;exact⟨u,eu,lw t u r,rfl⟩
       |own o =>
        have:AD fs j=some o:=by unfold AD;rw[es]
        rw[this];obtain⟨u,eu,r⟩:=e2;exact⟨u,eu,Ao.wp r⟩
       |bor o =>
        have:AD fs j=some o:=by unfold AD;rw[es]
        rw[this];obtain⟨u,eu,r⟩:=e2;exact⟨u,eu,Ao.wp r⟩)
   (λk=>by
    try dsimp only
    split
    .split
     .exact n1 _
     .split
      .exact eQ.nd _
      .exact uF
    .exact uF)
   (λk k' a hk ha hb=>by
    try dsimp only at ha hb
    split at ha
    .rename_i i ei;split at ha
     .rename_i j ej;split at hb
      .rename_i i' ib;split at hb
       .rename_i j' mF;by_cases e:j=j'
        .subst e;exact hk (IC nd ei ib ej mF)
        .exact n2 j j' a e ha hb
       .split at hb
        .exact(eQ.out _ a hb).2.2.1 (q2 j a ha)
        .cases hb
      .cases hb
     .split at ha
      .split at hb
       .split at hb
        next j' mF=>exact(eQ.out _ a ha).2.2.1 (q2 j' a hb)
        .split at hb
         .exact eQ.dj k k' a hk ha hb
         .cases hb
       .cases hb
      .cases ha
    .cases ha)
  have mem:∀a∈L',(∃j,j∈DC fs is/\a∈bF j)\/∃k,a∈μ k:=λa m=>by
   obtain⟨k,_,q⟩:=p3 a m
   try dsimp only at q
   split at q
   .rename_i i ei;split at q
    next j ej=>exact .inl ⟨j,vU.mpr ⟨i,uP ei,ej⟩,q⟩
    .split at q
     .exact .inr ⟨k,q⟩
     .cases q
   .cases q
  refine⟨L',p1,p2,λa m=>?_,ok.fd,λk o e=>?_,λa p=>?_,λa f p=>?_,λa m p=>?_⟩
  .rcases mem a m with⟨j,_,q⟩|⟨k,q⟩
   .exact ok.nf a (q2 j a q)
   .exact(eQ.out k a q).1
  .unfold BU at e;rw[ux,uc]at e;obtain⟨i,ei,e⟩:=e;have hk:k<σi.length:=by rw[hl];exact(tX.mp ei).1
   cases i with
   |no=>cases e
   |val t=>cases e
   |new o' =>obtain⟨u,eu,_⟩:=hi k _ _ ei (tO hk);exact⟨u,by rw[tO hk,eu],by show(σi[k]?).join=some u;rw[tO hk,eu];rfl⟩
   |slot j =>
    have ej:U[j]?=some σi[k]:=hi k _ _ ei (tO hk);simp only[PD]at e;have:∃o s,fs[j]?=some (some s)/\(s=.own o\/s=.bor o):=by
     split at e
     .cases e
     next o' es=>exact⟨o',_,es,.inl rfl⟩
     next o' es=>exact⟨o',_,es,.inr rfl⟩
     .cases e
    obtain⟨o',s,es,hs⟩:=this;obtain⟨v,e1,e2⟩:=q1 j _ es;rw[ej]at e1;cases e1;obtain⟨u,eu⟩:∃u,σi[k]=some u:=by
     rcases hs with rfl|rfl
     .exact⟨_,e2.choose_spec.1⟩
     .exact⟨_,e2.choose_spec.1⟩
    exact⟨u,by rw[tO hk,eu],by show(σi[k]?).join=some u;rw[tO hk,eu];rfl⟩
  .rcases p with p|⟨j,p,_⟩
   .exact ok.pd a p
   .exact ok.sl.def a (q2 j a p)
  .rcases p with p|⟨j,p,_⟩
   .exact ok.pf a f p
   .exact ok.nf a (q2 j a p) f
  .rcases mem a m with⟨j,hj,q⟩|⟨k,q⟩
   .rcases p with p|⟨j',p,hj'⟩
    .exact ok.pl a (q2 j a q) p
    .by_cases e:j=j'
     .subst e;exact hj' hj
     .exact n2 j j' a e q p
   .rcases p with p|⟨j',p,hj'⟩
    .exact(eQ.out k a q).2.1 p
    .exact(eQ.out k a q).2.2.1 (q2 j' a p)
 .rcases p with p|⟨j,p,_⟩
  .exact ok.pd a p
  .exact ok.sl.def a (q2 j a p)
 .
  intro F2 H2 τ fU Li ar l aO eb;have le:Le F H ⟨F2.f,F.p⟩ H2:=⟨λa f=>l.f a f,λa f=>⟨f,(l.p a (.inl f)).2⟩⟩
  obtain⟨jJ,r1,r2,r3,r4⟩:=aO.sl.toP;obtain⟨m1,m2⟩:=r3 aO.nd;obtain⟨b1,b2⟩:=Lf eb;have eA:∀j a,a∈bF j->j∉DC fs is->F2.p a/\H2 a=H a:=λj a q hj=>l.p a (.inr ⟨j,q,hj⟩)
  refine⟨le,?_⟩;obtain⟨L',p1,p2,p3⟩:=An.ofP (U:=U) (λj=>match placeOf fs j is 0 with|some k=>jJ k|none=>bF j) (by rw[b1];exact ok.sl.len)
   (λj s' e=>by
    have hj:j<fs.length:=by rw[<- b1];exact(tX.mp e).1
    obtain⟨s1,e1,e2⟩:=b2 j fs[j] (tO hj);rw[e]at e1;cases e1;rw[vR]at e2;obtain⟨v,e3,e4⟩:=q1 j fs[j] (tO hj);refine⟨v,e3,?_⟩;unfold Kc at e2;cases ep:placeOf fs j is 0 with
    |none =>rw[ep]at e2;cases e2;have hn:=placeOf_none ep;exact Kj.le le (λa m=>(eA j a m hn).2) e4
    |some k =>
     rw[ep]at e2;obtain⟨_,i,ei,bZ⟩:=placeOf_some ep;rw[Nat.sub_zero]at ei;dsimp only at e2 ⊢;split at e2
     .rename_i o s et es;cases e2;obtain⟨w,e5,e6⟩:=r1 k _ et;obtain⟨u,e7,e8⟩:=aO.bo k o et;rw[e5]at e7;cases e7;have ij:i=.slot j:=by
       cases i with
       |no=>cases bZ
       |val t=>cases bZ
       |new o=>cases bZ
       |slot j' =>
        simp only[A8]at bZ;split at bZ
        .cases bZ;rfl
        .cases bZ
      subst ij;have hk:k<σi.length:=by rw[hl];exact(tX.mp ei).1
      have io:U[j]?=some σi[k]:=hi k _ _ ei (tO hk);rw[e3]at io;cases io;have e9:(σi[k]?).join=some u:=e8;rw[tO hk]at e9;have pY:σi[k]=some u:=by simpa using e9
      rw[pY];obtain⟨u',eu,ro⟩:=e6;cases eu;have ob:∃o0,s=.own o0\/s=.bor o0:=by
       simp only[A8]at bZ;split at bZ
       next qQ=>obtain⟨o0,s0,_,mH,qV⟩:=jA j qQ;rw[tO hj,es]at mH;cases mH;exact⟨o0,qV⟩
       .cases bZ
      obtain⟨o0,ob⟩:=ob;have kg:Ao K ⟨F2.f,F.p⟩ H2 o u (jJ k):=Ao.wp ro;rcases ob with rfl|rfl
      .exact⟨u,rfl,kg⟩
      .exact⟨u,rfl,kg⟩
     .cases e2)
   (λj=>by
    try dsimp only
    split
    .exact m1 _
    .exact n1 _)
   (λj j' a hj ha hb=>by
    try dsimp only at ha hb
    split at ha
    .rename_i k ek;split at hb
     .rename_i k' jM;by_cases e:k=k'
      .subst e;obtain⟨_,i,ei,h1⟩:=placeOf_some ek;obtain⟨_,i',ib,h2⟩:=placeOf_some jM;rw[ei]at ib;cases ib;rw[h1]at h2;cases h2;exact hj rfl
      .exact m2 k k' a e ha hb
     next jM=>exact aO.pl a (r2 k a ha) (eA j' a hb (placeOf_none jM)).1
    .rename_i ek;split at hb
     next k' jM=>exact aO.pl a (r2 k' a hb) (eA j a ha (placeOf_none ek)).1
     .exact n2 j j' a hj ha hb)
  have src:∀a∈L',(a∈Li/\¬F2.p a)\/∃j,a∈bF j/\j∉DC fs is:=λa m=>by
   obtain⟨j,_,q⟩:=p3 a m
   try dsimp only at q
   split at q
   next k ek=>exact .inl ⟨r2 k a q,aO.pl a (r2 k a q)⟩
   next ek=>exact .inr ⟨j,q,placeOf_none ek⟩
  refine⟨L',⟨p1,p2,λa m f=>?_,λa f=>aO.fd a f,λj o e=>?_,λa p=>?_,λa f p=>?_,λa m p=>?_⟩,λa m=>?_⟩
  .rcases src a m with⟨q,_⟩|⟨j,q,hj⟩
   .exact aO.nf a q f
   .exact aO.pf a f (eA j a q hj).1
  .have hj:j<fs.length:=by rw[<- b1];exact(tX.mp e).1
   obtain⟨s1,e1,e2⟩:=b2 j fs[j] (tO hj);rw[e]at e1;cases e1;rw[vR]at e2;have:∃o',fs[j]?=some (some (.bor o')):=by
    unfold Kc at e2;split at e2
    .exact⟨o,by rw[tO hj];exact e2⟩
    .split at e2
     next o1 s et es=>cases s with|val t=>cases e2|own o2=>cases e2|bor o2=>exact⟨o2,by rw[tO hj,es]⟩
     .cases e2
   obtain⟨o',eo⟩:=this;exact ok.bo j o' eo
  .rw[(l.p a (.inl p)).2];exact ok.pd a p
  .exact aO.pf a f (l.p a (.inl p)).1
  .rcases src a m with⟨_,q⟩|⟨j,q,hj⟩
   .exact q (l.p a (.inl p)).1
   .exact ok.pl a (q2 j a q) p
  .rcases src a m with⟨q,_⟩|⟨j,q,hj⟩
   .exact .inl q
   .exact .inr (.inr ⟨j,q,hj⟩)
noncomputable def Bof(U:St):Nat->Option V:=λk=>(U[k]?).join
def spF(K:Fg)(p:Nat)(Fn:FS->Out Rv):Sp:=λvs H Q _=>vs.length=p/\∃F bW,Okk K F (Bof (vs.map some)) H bW (vs.map some)/\match Fn bW with|.ok r τ=>∀F' H' u au,Le F H F' H'->RR K (Bof (vs.map some)) au F' H' τ r u->Q u H'|_=>False
noncomputable def Bq(n:Nat)(g:FS->SO):FS->Out Rv:=λargs=>match g (args++List.replicate n none)with
 |.nx τ=>.ok (.t .o) (τ.take args.length)
 |.ret (.t t) τ=>.ok (.t t) (τ.take args.length)
 |.ret (.nw o) τ=>.ok (.nw o) (τ.take args.length)
 |.ret (.n i) τ=>match τ[i]? with|some (some (.own o))=>.ok (.nw o) ((τ.set i none).take args.length)|_=>.bad
 |.exc c τ=>.exc c (τ.take args.length)
 |_=>.bad
section
variable{P:Program}{w:World}{K:Fg}{mg:Str->Option Value}{base:Heap}
end
noncomputable def AW:Rv->Ini
 |.t t=>.val t
 |.n i=>.slot i
 |.nw o=>.new o
noncomputable def QF(Fn:FS->Out Rv)(rs:List Rv)(fs:FS):Out Rv :=
 if(DC fs (rs.map AW)).Nodup then(match Fn (BU fs (rs.map AW))with|.ok (.t t) τ=>(match Dz (rs.map AW) τ fs with|some ar=>.ok (.t t) ar|none=>.bad)|.ok (.nw o) τ=>(match Dz (rs.map AW) τ fs with|some ar=>.ok (.nw o) ar|none=>.bad)|_=>.bad)else .bad
theorem HJ.len:∀{rs:List Rv}{vs:List V},HJ K F H U rs vs->vs.length=rs.length
 | [],_,h=>by cases h;rfl
 |r::rs,_,h=>by obtain⟨v,w,rfl,h1,h2⟩:=h;simp[HJ.len h2]
def Em(K:Fg)(F:Wd)(H:Hp)(U:St):List Rv->List V->List Addr->Prop
 | [],vs,L=>vs=[]/\L=[]
 |r::rs,vs,L=>∃v w L1 L2,vs=v::w/\Ox K F H U r v L1/\Em K F H U rs w L2/\L=L1++L2
inductive RAn(K:Fg)(B:Nat->Option V)(U:St)(F:Wd)(H:Hp)(fs:FS)(rs:List Rv)(vs:List V):Prop
 |mk (L M:List Addr) (h0:Ok K F B H fs U L) (h1:Em K F H U rs vs M) (h2:(L++M).Nodup) (h3:∀a∈M,¬F a/\¬F.p a)
inductive tAn(K:Fg)(Z:Xp)(f:FS->Out (List Rv))(U:St)(H:Hp)(Q:List V->Hp->Prop):Prop
 |mk (F:Wd) (B:Nat->Option V) (fs:FS) (h0:Okk K F B H fs U) (h1:sat Z B (RAn K B U) F H (f fs) Q)
def FAn(X:Cx)(Z:Xp)(es:List Expr)(f:FS->Out (List Rv)):Prop:=PA X es (tAn X.K Z f)
noncomputable def Ae(f:FS->Out Rv)(g:FS->Out (List Rv)):FS->Out (List Rv):=λfs=>(f fs).bind λr fs=>(g fs).bind λrs fs=>.ok (r::rs) fs
section
variable{K:Fg}{F F':Wd}{H H':Hp}{B:Nat->Option V}{fs:FS}{U:St}{rs:List Rv}{vs:List V}{Z:Xp}{Q:VK}{Fn:FS->Out Rv}{E:XK}
theorem Em.len:∀{rs:List Rv}{vs:List V}{M:List Addr},Em K F H U rs vs M->vs.length=rs.length
 | [],_,_,h=>by obtain⟨rfl,_⟩:=h;rfl
 |r::rs,_,_,h=>by obtain⟨v,w,L1,L2,rfl,_,h,_⟩:=h;simp[Em.len h]
theorem Ox.def(h:Ox K F H U r v L):∀a∈L,H a≠none:=by
 cases r with
 |t t=>obtain⟨rfl,_⟩:=h;exact λa m=>nomatch m
 |nw o=>exact Ao.def h
 |n i=>obtain⟨rfl,_⟩:=h;exact λa m=>nomatch m
theorem Ox.lf(l:∀a,F a->F' a/\H' a=H a)(k:∀a∈L,H' a=H a)(h:Ox K F H U r v L):Ox K F' H' U r v L:=by cases r with|t t=>exact⟨h.1,Ar.le (F:=⟨F.f,λ_=>False⟩) ⟨l,λ_ z=>z.elim⟩ (Ar.wp h.2)⟩|nw o=>exact Ao.le (F:=⟨F.f,λ_=>False⟩) ⟨l,λ_ z=>z.elim⟩ k (Ao.wp h)|n i=>exact h
theorem Em.lf(l:∀a,F a->F' a/\H' a=H a):∀{rs:List Rv}{vs:List V}{M:List Addr},(∀a∈M,H' a=H a)->Em K F H U rs vs M->Em K F' H' U rs vs M
 | [],_,_,_,h=>h
 |r::rs,_,_,k,h=>by obtain⟨v,w,L1,L2,e,h1,h2,rfl⟩:=h;exact⟨v,w,L1,L2,e,h1.lf l λa m=>k a (ud _ m),Em.lf l (λa m=>k a (ue _ m)) h2,rfl⟩
theorem Em.toP:∀{rs:List Rv}{vs:List V}{M:List Addr},Em K F H U rs vs M->∃μ:Nat->List Addr,(∀k r,rs[k]?=some r->∃v,vs[k]?=some v/\Ox K F H U r v (μ k))/\(∀k a,a∈μ k->a∈M/\H a≠none) /\
  (M.Nodup->(∀k,(μ k).Nodup)/\∀i j a,i≠j->a∈μ i->a∉μ j)
 | [],_,_,h=>⟨λ_=>[],(λk r e=>by simp at e),(λ_ _ m=>nomatch m),λ_=>⟨λ_=>uF,(λ_ _ _ _ m=>nomatch m)⟩⟩
 |r::rs,_,_,h=>by
  obtain⟨v,w,L1,L2,rfl,h1,h2,rfl⟩:=h;obtain⟨μ,q1,q2,q3⟩:=Em.toP h2;refine⟨λi=>match i with|0=>L1|i+1=>μ i,λk r' e=>?_,λk a m=>?_,λnd=>?_⟩
  .cases k with|zero =>simp at e;subst e;exact⟨v,rfl,h1⟩|succ k =>obtain⟨u,e1,e2⟩:=q1 k r' (by simpa using e);exact⟨u,by simpa using e1,e2⟩
  .cases k with|zero=>exact⟨ud _ m,h1.def a m⟩|succ k=>exact⟨ue _ (q2 k a m).1,(q2 k a m).2⟩
  .rw[tQ]at nd;obtain⟨n1,n2,n3⟩:=nd;obtain⟨m1,m2⟩:=q3 n2;refine⟨λi=>?_,λi j a dz hi hj=>?_⟩
   .cases i with|zero=>exact n1|succ i=>exact m1 i
   .cases i with
    |zero =>cases j with|zero=>exact dz rfl|succ j=>exact n3 a hi a (q2 j a hj).1 rfl
    |succ i =>cases j with|zero=>exact n3 a hj a (q2 i a hi).1 rfl|succ j=>exact m2 i j a (λe=>dz (by rw[e])) hi hj
theorem NB(q:RAn K B U F H fs rs vs):∃L μ,Ok K F B H fs U L/\Mu F H L μ/\(vs.map some).length=(rs.map AW).length/\∀(k:Nat)(i:Ini)(v:Option V),(rs.map AW)[k]?=some i->(vs.map some)[k]?=some v->UO K F H U i v (μ k):=by obtain⟨L,M,ok,q,nd,nf⟩:=q;obtain⟨μ,q1,q2,q3⟩:=q.toP;rw[tQ]at nd;obtain⟨m1,m2⟩:=q3 nd.2.1;refine⟨L,μ,ok,⟨λk a m=>⟨(nf a (q2 k a m).1).1,(nf a (q2 k a m).1).2,λz=>nd.2.2 a z a (q2 k a m).1 rfl,(q2 k a m).2⟩,m1,m2⟩,by simp[q.len],λk i v e1 e2=>?_⟩;rw[ux,uc]at e1 e2;obtain⟨r,er,rfl⟩:=e1;obtain⟨u,eu,rfl⟩:=e2;obtain⟨u',e3,rr⟩:=q1 k r er;rw[eu]at e3;cases e3;cases r with|t t=>exact⟨u,rfl,rr.2⟩|nw o=>exact⟨u,rfl,rr⟩|n i=>exact rr.2
theorem RAn.len(q:RAn K B U F H fs rs vs):vs.length=rs.length:=by obtain⟨L,M,ok,q,_⟩:=q;exact q.len
theorem QE(q:RAn K B U F H fs rs vs)(s:sat Z B (RR K B U) F H (QF Fn rs fs) Q):spF K rs.length Fn vs H Q E:=by
 unfold QF at s;split at s
 .rename_i nd;obtain⟨L9,μ,ok,eQ,hl,hi⟩:=NB q;obtain⟨Pp,p1,p2,p3,p4⟩:=lend ok hl hi nd eQ;refine⟨q.len,⟨F.f,Pp⟩,BU fs (rs.map AW),p2,?_⟩;split at s
  .rename_i t τ e;rw[e];split at s
   next ar eb=>intro F' H' u au l k;obtain⟨Li,L',o1,⟨_,r⟩,_⟩:=k;obtain⟨le,L,o2,_⟩:=p4 F' H' τ au Li ar l o1 eb;exact s ⟨F'.f,F.p⟩ H' u le (RR.of ⟨L,o2⟩ (Ar.wp r))
   .exact s.elim
  .rename_i o τ e;rw[e];split at s
   .rename_i ar eb;intro F' H' u au l k;obtain⟨Li,L',o1,r,nd,nf⟩:=k;obtain⟨le,L,o2,sub⟩:=p4 F' H' τ au Li ar l o1 eb;refine s ⟨F'.f,F.p⟩ H' u le ⟨L,L',o2,Ao.wp r,?_,λa m=>⟨(nf a m).1,λp=>(nf a m).2 (l.p a (p1 a p)).1⟩⟩;rw[tQ]at nd ⊢;refine⟨o2.nd,nd.2.1,λa ha b hb e=>?_⟩;rcases sub a ha with z|z
    .exact nd.2.2 a z b hb e
    .exact(nf b hb).2 (l.p b (e▸z)).1
   .exact s.elim
  .exact s.elim
 .exact s.elim
end
section
variable{X:Cx}{Z:Xp}{e:Expr}{es:List Expr}{f:FS->Out Rv}{g:FS->Out (List Rv)}
theorem Uj:FAn X Z [] Ai:=Ky Dj λU H Q ⟨F,B,fs,⟨L,ok⟩,s⟩=>s F H [] Le.refl ⟨L,[],ok,⟨rfl,rfl⟩,by simpa using ok.nd,(λ_ m=>nomatch m)⟩
theorem PJ{R2:Wd->Hp->FS->γ->δ->Prop}(q:RR K B U F1 H1 ag r u)(s1:sat Z B R2 F1 H1 ((g ag).bind k) Q)
  (hk:∀rs av F2 H2 us,Le F1 H1 F2 H2->RAn K B U F2 H2 av (r::rs) (u::us)->sat Z B R2 F2 H2 (k rs av) Q->Q' us H2):tAn K Z g U H1 Q':=by
 obtain⟨L,L1,o1,r1,nd,nf⟩:=q;have jv:=tQ.mp nd;have nE:Le F1 H1 ⟨F1.f,λa=>F1.p a\/a∈L1⟩ H1:=⟨λa f=>⟨f,rfl⟩,λa f=>⟨.inl f,rfl⟩⟩
 refine⟨⟨F1.f,λa=>F1.p a\/a∈L1⟩,B,ag,⟨L,o1.sl.le nE λ_ _=>rfl,o1.nd,o1.nf,o1.fd,o1.bo,λa p=>?_,λa f p=>?_,λa m p=>?_⟩,?_⟩
 .rcases p with p|p
  .exact o1.pd a p
  .exact r1.def a p
 .rcases p with p|p
  .exact o1.pf a f p
  .exact(nf a p).1 f
 .rcases p with p|p
  .exact o1.pl a m p
  .exact jv.2.2 a m a p rfl
 .cases eg:g ag with
  |bad=>rw[eg]at s1;exact s1.elim
  |exc c t=>rw[eg]at s1;exact Z.mono s1 nE
  |ok rs av =>
   rw[eg]at s1;intro F2 H2 us l2 q2;obtain⟨L2,M2,o2,r2,gM,lJ⟩:=q2;have eW:Le F1 H1 ⟨F2.f,F1.p⟩ H2:=⟨λa f=>l2.f a f,λa f=>⟨f,(l2.p a (.inl f)).2⟩⟩
   have hp:∀a∈L1,F2.p a/\H2 a=H1 a:=λa m=>l2.p a (.inr m)
   have jt:=tQ.mp gM;refine hk rs av ⟨F2.f,F1.p⟩ H2 us eW ⟨L2,L1++M2,⟨An.wp o2.sl,o2.nd,o2.nf,o2.fd,o2.bo,λa f=>by rw[(eW.p a f).2];exact o1.pd a f,λa f p=>o2.pf a f (l2.p a (.inl p)).1,λa m p=>o2.pl a m (l2.p a (.inl p)).1⟩,⟨u,us,L1,M2,rfl,Ox.lf (F:=F1) (F':=⟨F2.f,F1.p⟩) (H:=H1) (H':=H2) (λa f=>l2.f a f) (λa m=>(hp a m).2) r1,Em.lf (F:=F2) (F':=⟨F2.f,F1.p⟩) (λa f=>⟨f,rfl⟩) (λ_ _=>rfl) r2,rfl⟩,?_,λa m=>?_⟩ (sat.le s1 eW)
   .rw[tQ];refine⟨o2.nd,?_,λa ha b hb e=>?_⟩
    .rw[tQ];exact⟨jv.2.1,jt.2.1,λa ha b hb e=>(lJ b hb).2 (e▸(hp a ha).1)⟩
    .rcases tW.mp hb with hb|hb
     .exact o2.pl a ha (e▸(hp b hb).1)
     .exact jt.2.2 a ha b hb e
   .rcases tW.mp m with m|m
    .exact⟨λf=>o2.pf a f (hp a m).1,(nf a m).2⟩
    .exact⟨(lJ a m).1,λp=>(lJ a m).2 (l2.p a (.inl p)).1⟩
theorem Ql(ha:FE X Z e f)(hr:FAn X Z es g)(hs:starEach (e::es) X.env=(false,eval e X.env)::starEach es X.env:=by rfl):FAn X Z (e::es) (Ae f g) :=
 Ky (Bs ha hr hs) λU H Q ⟨F,B,fs,ok,s⟩=>⟨F,B,fs,ok,Ax s λr ag F1 H1 u l q s1=>PJ q s1 λrs av F2 H2 us _ ra s2=>s2 F2 H2 (u::us) Le.refl ra⟩
end
section
variable{X:Cx}{Z:Xp}{x:Str}{k p:Nat}{ps:List Str}{Fn:FS->Out Rv}{e o:Expr}{es:List Expr}{fa:FS->Out (List Rv)}{fo:FS->Out Rv}{pp pos aB:Pos}{C:Addr}{m:Str}
noncomputable def Om(p:Nat)(Fn:FS->Out Rv):List Rv->FS->Out Rv:=λrs fs=>if rs.length=p then QF Fn rs fs else .bad
noncomputable def Hs(C:Addr)(m:Str)(fs:FS):Rv->Bool
 |.t (.ins C' gs _)=>decide (C'=C)&&!gs.any (·==m)
 |.n i=>match AD fs i with|some (.ins C' gs _)=>decide (C'=C)&&!gs.any (·==m)|_=>false
 |_=>false
theorem IB{ah:List (Str×V)}(h:((ah.map (·.1)).any (·==m))=false):ah.lookup m=none:=by
 induction ah with
 |nil=>rfl
 |cons p r ih =>
  rw[tR,vL,Bool.or_eq_false_iff]at h;obtain⟨k,v⟩:=p;rw[uM];have:(m==k)=false:=by have h1:=h.1;rw[beq_eq_false_iff_ne]at h1 ⊢;exact λe=>h1 e.symm
  rw[this];exact ih h.2
theorem KP(ok:Okk K F B H fs U)(q:Bz K F H U r u)(h:Hs C m fs r=true):∃a dx ah,u=.ref a/\H a=some (.ins C dx ah)/\ah.lookup m=none:=by
 unfold Hs at h;split at h
 next C' gs ts=>rw[uq]at h;have hC:=um h.1;subst hC;simp only[Bz,Ar]at q;obtain⟨a,dx,ah,rfl,f,hd,rfl,r⟩:=q;exact⟨a,dx,ah,rfl,hd,IB (by simpa using h.2)⟩
 .rename_i i;split at h
  .rename_i C' gs os eo;rw[uq]at h;have hC:=um h.1;subst hC;obtain⟨v,L2,e1,q2,_⟩:=ok.own eo;have e2:U[i]?=some (some u):=q;rw[e1]at e2;have e3:v=u:=by simpa using e2
   subst e3;simp only[Ao]at q2;obtain⟨a,dx,ah,L',rfl,hd,rfl,_⟩:=q2;exact⟨a,dx,ah,rfl,hd,IB (by simpa using h.2)⟩
  .cases h
 .cases h
noncomputable def LN(C:Addr)(m:Str)(p:Nat)(Fn:FS->Out Rv)(fo:FS->Out Rv)(fa:FS->Out (List Rv)):FS->Out Rv:=λfs=>(fo fs).bnd λx fs=>if Hs C m fs x=true then(fa fs).bind λrs fs=>Om p Fn (x::rs) fs else .bad
noncomputable def DR(C:Addr)(p:Nat)(Fn:FS->Out Rv)(rs:List Rv)(fs:FS):Out Rv :=
 if(DC fs (rs.map AW)).Nodup/\rs.length+1=p then(match Fn (some (.bor (.ins C [] []))::BU fs (rs.map AW))with|.ok (.t .o) (some (.bor o)::τ)=>(match Dz (rs.map AW) τ fs with|some ar=>.ok (.nw o) ar|none=>.bad)|_=>.bad)else .bad
theorem Pu(q:RAn K B U F H fs rs vs)(s:sat Z B (RR K B U) F H (DR C p Fn rs fs) Q)
  {x dx:Addr} (hx:H x=none) (qB:H dx=none) (aP:dx≠x):spF K p Fn (.ref x::vs) (upd (upd H dx (.own x)) x (.ins C dx [])) (λv H2=>v=.o/\Q (.ref x) H2) E:=by
 unfold DR at s;split at s
 .rename_i hh;obtain⟨nd,hp⟩:=hh;obtain⟨L9,μ,ok,eQ,hl,hi⟩:=NB q;obtain⟨Pp,p1,⟨L0,p2⟩,p3,p4⟩:=lend ok hl hi nd eQ;have l0:∀a,H a≠none->(upd (upd H dx (.own x)) x (.ins C dx [])) a=H a:=λa h=>by rw[Aj (λe=>h (by rw[e];exact hx)),Aj (λe=>h (by rw[e];exact qB))]
  have nC:Le ⟨F.f,Pp⟩ H ⟨F.f,Pp⟩ (upd (upd H dx (.own x)) x (.ins C dx [])):=⟨λa f=>⟨f,l0 a (p2.fd a f)⟩,λa f=>⟨f,l0 a (p3 a f)⟩⟩
  refine⟨by rw[uC,q.len];exact hp,⟨F.f,Pp⟩,some (.bor (.ins C [] []))::BU fs (rs.map AW),?_,?_⟩
  .refine⟨[x]++L0,An.cons ⟨.ref x,rfl,?_⟩ (p2.sl.le nC λa m=>l0 a (p2.sl.def a m)),?_,λa m=>?_,λa f=>?_,λi o e=>?_,λa f=>?_,p2.pf,λa m=>?_⟩
   .simp only[Ao];exact⟨x,dx,[],[],rfl,Ak,rfl,⟨rfl,rfl⟩,rfl⟩
   .rw[tQ];exact⟨by simp,p2.nd,λa ha b hb e=>p2.sl.def b hb (by rw[<- e,ub.mp ha];exact hx)⟩
   .rcases tW.mp m with m|m
    .rw[ub.mp m];exact λf=>p2.fd x f hx
    .exact p2.nf a m
   .rw[l0 a (p2.fd a f)];exact p2.fd a f
   .cases i with|zero=>exact⟨.ref x,rfl,rfl⟩|succ i=>exact p2.bo i o (by simpa using e)
   .rw[l0 a (p3 a f)];exact p3 a f
   .rcases tW.mp m with m|m
    .rw[ub.mp m];exact λf=>p3 x f hx
    .exact p2.pl a m
  .split at s
   .rename_i o τ e;rw[e];split at s
    .rename_i ar eb;intro F' H' u au l k;obtain⟨oY,L',o1,⟨_,r⟩,_⟩:=k;refine⟨r,?_⟩;obtain⟨v,fU,L1,L2,rfl,h1,h2,rfl⟩:=o1.sl.Gu;obtain⟨w,rfl,ro⟩:=h1;obtain⟨w',e3,e4⟩:=o1.bo 0 o rfl;have ew:w=.ref x:=by have z1:some (some w)=some (some w'):=e3;have z2:some (V.ref x)=some w':=e4;cases z1;cases z2;rfl
     subst ew;have bP:=tQ.mp o1.nd;have o2:Ok K F' (Bof (vs.map some)) H' τ fU L2:=⟨h2,bP.2.1,λa m=>o1.nf a (ue _ m),o1.fd,λi ob eo=>by obtain⟨v,z1,z2⟩:=o1.bo (i+1) ob (by simpa using eo);exact⟨v,by simpa using z1,by have z3:(((V.ref x::vs).map some)[i+1]?).join=some v:=z2;simpa[Bof]using z3⟩,o1.pd,o1.pf,λa m=>o1.pl a (ue _ m)⟩
     have l':Le ⟨F.f,Pp⟩ H F' H':=nC.trans l;obtain⟨le,L,o3,sub⟩:=p4 F' H' τ fU L2 ar l' o2 eb;refine s ⟨F'.f,F.p⟩ H' (.ref x) le ⟨L,L1,o3,Ao.wp ro,?_,λa m=>⟨o1.nf a (ud _ m),λp=>o1.pl a (ud _ m) (l'.p a (p1 a p)).1⟩⟩;rw[tQ];refine⟨o3.nd,bP.1,λa ha b hb e=>?_⟩;rcases sub a ha with z|z
     .exact bP.2.2 b hb a z e.symm
     .exact o1.pl b (ud _ hb) (l'.p b (e▸z)).1
    .exact s.elim
   .exact s.elim
 .exact s.elim
end
noncomputable def Bl(gt:T->FS->Option FS)(ft:FS->Out Bool)(fe:FS->Out Rv):List T->FS->List T->Option (List T×FS)
 | [],τ,ay=>some (ay,τ)
 |t::ts,τ,ay=>match gt t τ with|none=>none|some τ=>match ft τ with|.ok true τ=>(match fe τ with|.ok (.t v) τ=>if ay.length<big then Bl gt ft fe ts τ (ay++[v])else none|_=>none)|.ok false τ=>Bl gt ft fe ts τ ay|_=>none
noncomputable def F8:FS->Out Bool:=λfs=>.ok true fs
noncomputable def Cr(new:Bool)(src:List (Option Nat))(fi:FS->Out (List T))(gt:T->FS->Option FS)(ft:FS->Out Bool)(fe:FS->Out Rv):FS->Out Rv:=λfs=>(fi fs).bind λts fs =>if(DC fs (src.map λo=>o.elim Ini.no Ini.slot)).Nodup/\(src.all λo=>o.elim true λj=>decide (j<fs.length))=true then(match Bl gt ft fe ts (BU fs (src.map λo=>o.elim Ini.no Ini.slot)) []with|some (vs,τ)=>(match Dz (src.map λo=>o.elim Ini.no Ini.slot) τ fs with|some ar=>if new=true then .ok (.nw (.lst vs)) ar else .ok (.t (.lst vs)) ar|none=>.bad)|none=>.bad)else .bad
def FIf(X:Cx)(cj:List Expr)(ft:FS->Out Bool):Prop:=RL X cj (tT X.K Xp.no ft)
theorem O8(h:RL X e t)(i:∀U H Q,t' U H Q->t U H Q):RL X e t':=λaa s U H Q I q=>h aa s U H Q I (i _ _ _ q)
theorem T9:FIf X [] F8:=O8 O7 λU H Q ⟨F,B,fs,ok,s⟩=>s F H true Le.refl ⟨ok,rfl⟩
theorem T8(h:FT X Xp.no c ft):FIf X [c] ft:=O6 h
section
variable{K:Fg}{F:Wd}{H:Hp}{B:Nat->Option V}{fs:FS}{U:St}
theorem Okk.hide(h:Okk K F B H fs U)(hp:H p=none):Okk K ⟨F.f,λa=>F.p a\/a=p⟩ B (upd H p o) fs U:=by
 obtain⟨L,h⟩:=h;have l:Le F H ⟨F.f,λa=>F.p a\/a=p⟩ (upd H p o):=⟨λa f=>⟨f,Aj λe=>h.fd a f (e▸hp)⟩,λa f=>⟨.inl f,Aj λe=>h.pd a f (e▸hp)⟩⟩
 refine⟨L,h.sl.le l (h.Tq hp),h.nd,h.nf,λa q=>CT (h.fd a q),h.bo,λa q=>?_,λa f q=>?_,λa m q=>?_⟩
 .rcases q with q|q
  .exact CT (h.pd a q)
  .rw[q,Ak];simp
 .rcases q with q|q
  .exact h.pf a f q
  .exact h.fd a f (q▸hp)
 .rcases q with q|q
  .exact h.pl a m q
  .exact h.sl.def a m (q▸hp)
theorem Okk.upP(h:Okk K F B H fs U)(hp:F.p p):Okk K F B (upd H p o) fs U:=by
 obtain⟨L,h⟩:=h;have hf:∀a,F a->(upd H p o) a=H a:=λa f=>Aj λe=>h.pf a f (e▸hp)
 have l:Le ⟨F.f,λ_=>False⟩ H ⟨F.f,F.p⟩ (upd H p o):=⟨λa f=>⟨f,hf a f⟩,λa f=>f.elim⟩
 have sl:An K ⟨F.f,λ_=>False⟩ H fs U L:=An.wp h.sl;refine⟨L,sl.le l λa m=>Aj λe=>h.pl a m (e▸hp),h.nd,h.nf,λa q=>CT (h.fd a q),h.bo,λa q=>CT (h.pd a q),h.pf,h.pl⟩
theorem Ad.upP(h:Okk K F B H fs U)(hp:F.p p)(r:Ad K F H ts vs):Ad K F (upd H p o) ts vs:=by
 obtain⟨L,h⟩:=h;have l:Le ⟨F.f,λ_=>False⟩ H ⟨F.f,F.p⟩ (upd H p o):=⟨λa f=>⟨f,Aj λe=>h.pf a f (e▸hp)⟩,λa f=>f.elim⟩
 exact Ad.le l (Ad.wp r)
end
section
variable{X:Cx}{Z:Xp}{N:List Str}{sc:Scope}{tg aC c8:Expr}{cj:List Expr}{fi:FS->Out (List T)}{gt:T->FS->Option FS}{ft:FS->Out Bool}{fe:FS->Out Rv}{pos:Pos}{K:Fg}
inductive CI(K:Fg)(W:Wd)(H1:Hp)(D:Addr)(Bc:Nat->Option V)(gt:T->FS->Option FS)(ft:FS->Out Bool)(fe:FS->Out Rv)(r:List T×FS)(l:List T)(bK:St)(H2:Hp):Prop
 |mk (F2:Wd) (τ:FS) (ay:List T) (ys:List V) (l2:Le W H1 F2 H2) (pD:F2.p D) (aO:Okk K F2 Bc H2 τ bK) (fm:H2 D=some (.lst ys)) (cq:Ad K F2 H2 ay ys) (ec:Bl gt ft fe l τ ay=some r):CI K W H1 D Bc gt ft fe r l bK H2
theorem CI.put(nP:¬W.p D)(jr:Le W H1 F6 H6)(p6:F6.p D)(o6:Ok K F6 Bc H6 iM bK L6)(jB:Ad K F6 H6 ay ys)(rv:Ar K F6 H6 v y)
  (aW:Bl gt ft fe l iM (ay++[v])=some r):CI K W H1 D Bc gt ft fe r l bK (upd H6 D (.lst (ys++[y]))) :=
 .mk F6 iM (ay++[v]) (ys++[y]) ⟨λa f=>⟨(jr.f a f).1,by rw[Aj λe=>o6.pf a (jr.f a f).1 (by rw[e];exact p6)];exact(jr.f a f).2⟩,λa f=>⟨(jr.p a f).1,by rw[Aj λe=>nP (by rw[<- e];exact f)];exact(jr.p a f).2⟩⟩
  p6 (Okk.upP ⟨L6,o6⟩ p6) Ak (Ad.upP ⟨L6,o6⟩ p6 (jB.app (Ad.one rv))) aW
theorem CI.one(nP:¬W.p D)(j7:Le W H1 F5 H5)(p5:F5.p D)(ke:Okk K F5 Bc H5 cS bK)(ql:H5 D=some (.lst ys))(hW:Ad K F5 H5 ay ys)
  (aW:(match fe cS with|.ok (.t v) τ=>if ay.length<big then Bl gt ft fe l τ (ay++[v])else none|_=>none)=some r) :
  tF K Xp.no fe bK H5 λy H6=>∃ys,H6 D=some (.lst ys)/\ys.length<sizeLine/\CI K W H1 D Bc gt ft fe r l bK (upd H6 D (.lst (ys++[y]))):=by
 refine⟨F5,Bc,cS,ke,?_⟩;cases ee:fe cS with
 |exc c iM=>rw[ee]at aW;cases aW
 |bad=>rw[ee]at aW;cases aW
 |ok w iM =>
  rw[ee]at aW;cases w with
  |nw o=>cases aW
  |n o=>cases aW
  |t v =>
   dsimp only at aW;by_cases hlen:ay.length<big
   .rw[if_pos hlen]at aW;intro F6 H6 y l6 q6;obtain⟨L6,sG,o6,⟨_,rv⟩,_⟩:=q6;have p6:=l6.p D p5;exact⟨ys,p6.2.trans ql,by rw[hW.len];exact vo hlen FQ,CI.put nP (j7.trans l6) p6.1 o6 (hW.le l6) rv aW⟩
   .rw[if_neg hlen]at aW;cases aW
theorem CI.turn(nP:¬W.p D)(l2:Le W H1 F3 H3)(pD:F3.p D)(aO:Okk K F3 Bc H3 τ bK)(fm:H3 D=some (.lst ys))(cq:Ad K F3 H3 ay ys)
  (aW:Bl gt ft fe (t::l) τ ay=some r) (rx:Ar K F3 H3 t x) :
  tG K gt x bK H3 λcS H4=>tT K Xp.no ft cS H4 λb H5=>if b=true then tF K Xp.no fe cS H5 λy H6=>∃ys,H6 D=some (.lst ys)/\ys.length<sizeLine/\CI K W H1 D Bc gt ft fe r l cS (upd H6 D (.lst (ys++[y])))else CI K W H1 D Bc gt ft fe r l cS H5:=by
 simp only[Bl]at aW;refine⟨F3,Bc,τ,t,aO,rx,?_⟩;cases eg:gt t τ with|none=>rw[eg]at aW;cases aW|some jH =>rw[eg]at aW;intro F4 H4 oj l4 iD;refine⟨F4,Bc,jH,iD,?_⟩;dsimp only at aW;cases et:ft jH with|exc c cS=>rw[et]at aW;cases aW|bad=>rw[et]at aW;cases aW|ok b cS =>rw[et]at aW;intro F5 H5 b' l5 q5;obtain⟨ke,rfl⟩:=q5;have p4:=l4.p D pD;have p5:=l5.p D p4.1;have h5:=(p5.2.trans p4.2).trans fm;have j7:=(l2.trans l4).trans l5;have r5:=(cq.le l4).le l5;cases b' with|false =>rw[if_neg (by decide)];exact .mk F5 cS ay ys j7 p5.1 ke h5 r5 aW|true =>rw[if_pos rfl];exact CI.one nP j7 p5.1 ke h5 r5 aW
theorem UJ(ok:Okk K F B H fs U)(dw:(src.all λo=>o.elim true λj=>decide (j<fs.length))=true)(k:Nat)(i:Ini)(v:Option V)(e1:(src.map λo=>o.elim Ini.no Ini.slot)[k]?=some i)(e2:(EG U src)[k]?=some v):UO K F H U i v []:=by
 unfold EG at e2;rw[ux,uc]at e1 e2;obtain⟨o,eo,rfl⟩:=e1;obtain⟨o',mG,rfl⟩:=e2;rw[eo]at mG;cases mG;cases o with
 |none=>exact trivial
 |some j =>
  have hj:j<U.length:=by obtain⟨L1,o1⟩:=ok;rw[o1.sl.len];exact um (uS.mp dw _ (uP eo))
  show U[j]?=some ((U[j]?).join);rw[tO hj];rfl
theorem Qu{F1 F2:Wd}(o3:Ok K ⟨F2.f,F1.p⟩ B H2 ar U L)(fm:H2 D=some (.lst ys))(cq:Ad K F2 H2 ay ys)(nL:D∉L)(nF:¬F2 D)(np:¬F1.p D):RR K B U ⟨F2.f,F1.p⟩ H2 ar (.nw (.lst ay)) (.ref D):=by
 refine⟨L,[D],o3,Cb fm (Ad.wp cq),?_,λa m=>?_⟩
 .rw[tQ];exact⟨o3.nd,by simp,λa ha b hb e=>nL (by rw[<- ub.mp hb,<- e];exact ha)⟩
 .rw[ub.mp m];exact⟨nF,np⟩
theorem Qt{F1 F2:Wd}(o3:Ok K ⟨F2.f,F1.p⟩ B H2 ar U L)(fm:H2 D=some (.lst ys))(cq:Ad K F2 H2 ay ys)(nL:D∉L)(np:¬F1.p D):RR K B U (HI ⟨F2.f,F1.p⟩ [D]) H2 ar (.t (.lst ay)) (.ref D):=by
 have l3:Le ⟨F2.f,F1.p⟩ H2 (HI ⟨F2.f,F1.p⟩ [D]) H2:=orF;refine RR.of ⟨L,?_⟩ ?_
 .refine⟨o3.sl.le l3 λ_ _=>rfl,o3.nd,λa m z=>?_,λa z=>?_,o3.bo,o3.pd,λa z=>?_,o3.pl⟩
  .rcases z with z|z
   .exact o3.nf a m z
   .exact nL (by rw[<- ub.mp z];exact m)
  .rcases z with z|z
   .exact o3.fd a z
   .rw[ub.mp z,fm];simp
  .rcases z with z|z
   .exact o3.pf a z
   .rw[ub.mp z];exact np
 .simp only[Bz,Ar];exact⟨D,ys,rfl,.inr (by simp),fm,Ad.le l3 (Ad.wp cq)⟩
theorem RF(h:tF K Z (Cr new src fi gt ft fe) U H Q):Sd src (tI K Z fi) (tG K gt) (tT K Xp.no ft) (tF K Xp.no fe) U H Q:=by
 obtain⟨F,B,fs,ok,s⟩:=h;refine⟨F,B,fs,ok,Ax s λts ag F1 H1 J l q s1=>?_⟩;obtain⟨ax,jk⟩:=q;split at s1
 .rename_i m7;obtain⟨L9,rP⟩:=id ax;obtain⟨Pp,p1,p2,p3,p4⟩:=lend (μ:=λ_=>[]) rP (by unfold EG;simp) (UJ ax m7.2) m7.1 Mu.no;have jI:JOk K ⟨F1.f,Pp⟩ H1 J ts:=jk.within;split at s1
  .rename_i vs md ec;split at s1
   .rename_i ar eb;intro D hD;have nP:=λz=>p3 D z hD
    refine⟨λi m bK H2=>m=ts.length-i/\CI K ⟨F1.f,Pp⟩ H1 D (Bof (EG U src)) gt ft fe (vs,md) (ts.drop i) bK H2,
     ⟨ts.length,rfl,.mk ⟨F1.f,λa=>Pp a\/a=D⟩ _ [] [] ⟨λa f=>⟨f,Aj λe=>p2.fd a f (e▸hD)⟩,λa f=>⟨.inl f,Aj λe=>nP (e▸f)⟩⟩ (.inr rfl) (p2.hide hD) Ak rfl ec⟩,λi m bK H2 hc=>?_⟩
    obtain⟨rfl,F2,τ,ay,ys,l2,pD,aO,fm,cq,aW⟩:=hc;by_cases hit:i<ts.length
    .have ei:=tO hit;rw[vW hit]at aW;obtain⟨j1,j2⟩:=(jI F2 H2 l2.f ⟨_,_,_,aO⟩ i).1 _ ei;refine .inr ⟨j1,CI K ⟨F1.f,Pp⟩ H1 D (Bof (EG U src)) gt ft fe (vs,md) (ts.drop (i+1)),λoh H' h=>⟨ts.length-(i+1),by lia,rfl,h⟩,λx H3 hy=>?_⟩;obtain⟨F3,⟨j8,nw⟩,rx⟩:=j2 x H3 hy;exact CI.turn nP (l2.trans j8) (j8.p D pD).1 (nw _ _ _ aO) ((j8.p D pD).2.trans fm) (cq.le j8) aW rx
    .refine .inl ⟨(jI F2 H2 l2.f ⟨_,_,_,aO⟩ i).2 (by lia),?_⟩;rw[vn (by lia)]at aW;simp only[Bl]at aW;cases aW;obtain⟨Li,o2⟩:=aO;obtain⟨le,L,o3,sub⟩:=p4 F2 H2 md bK Li ar l2 o2 eb;have nL:D∉L:=λm=>(sub D m).elim (λz=>o2.pl D z pD) nP
     have np:=λz=>nP (p1 D z)
     cases new with|true =>rw[if_pos rfl]at s1;exact s1 ⟨F2.f,F1.p⟩ H2 (.ref D) le (Qu o3 fm cq nL (λf=>o2.pf D f pD) np)|false =>rw[if_neg (by decide)]at s1;exact s1 (HI ⟨F2.f,F1.p⟩ [D]) H2 (.ref D) (le.trans orF) (Qt o3 fm cq nL np)
   .exact s1.elim
  .exact s1.elim
 .exact s1.elim
theorem Dv(new:Bool)(N:List Str)(src:List (Option Nat))(bp:X.calm=true)(hi:FI X Z tg aC fi)(hg:∀cl C s H fp,GT (BE X N sc cl C s H fp) tg gt)(ht:∀cl C s H fp,FIf (BE X N sc cl C s H fp) cj ft)
  (he:∀cl C s H fp,FE (BE X N sc cl C s H fp) Xp.no c8 fe) (hS:GO X.env.scope sc=true:=by rfl) (bM:Ej X.N sc N src=true:=by rfl)
  (hs:∀x,foldedSetIterable aC X.env x=pure x:=by intro _;rfl):FE X Z (.ListComp c8 [⟨tg,aC,cj,0⟩] sc pos) (Cr new src fi gt ft fe) :=
 AJ (SJ (g:=tG X.K gt) (tt:=tT X.K Xp.no ft) (te:=tF X.K Xp.no fe) N src bp hi hg ht he hS bM hs) λ_ _ _ h=>RF h
theorem B0(new:Bool)(i:Nat)(N:List Str)(src:List (Option Nat))(bp:X.calm=true)(hN:X.N.Nodup)(hy:Loc X.env.scope y)(hi:FI X Z tg aC fi)(hg:∀cl C s H fp,GT (BE X N sc cl C s H fp) tg gt)(ht:∀cl C s H fp,FIf (BE X N sc cl C s H fp) cj ft)
  (he:∀cl C s H fp,FE (BE X N sc cl C s H fp) Xp.no c8 fe) (kS:X.N[i]?=some y:=by rfl) (hS:GO X.env.scope sc=true:=by rfl) (bM:Ej X.N sc N src=true:=by rfl)
  (hs:∀x,foldedSetIterable aC X.env x=pure x:=by intro _;rfl) (lx:swapsWith (.ListComp c8 [⟨tg,aC,cj,0⟩] sc pos) (some (.Name y aR)) gN.line X.env=pure true:=by rfl)
  (hf:X.fn y=true\/X.env.scope.names.lookup y=some .local:=by first|exact .inl rfl|exact .inr rfl|assumption) :
  GS X Z (.Assign [.Name y aR] (.ListComp c8 [⟨tg,aC,cj,0⟩] sc pos) gN) (AB i (Cr new src fi gt ft fe)) :=
 BM (LF (g:=tG X.K gt) (tt:=tT X.K Xp.no ft) (te:=tF X.K Xp.no fe) N src bp hN kS hy hi hg ht he hS bM hs lx hf) λ_ _ _ s=>RF (VC s)
end
noncomputable def orG(g g':Rv->Rv->FS->Out Rv):Rv->Rv->FS->Out Rv:=λx y fs=>match g x y fs with|.bad=>g' x y fs|o=>o
theorem OpF.or(h:OpF K Z r g)(h':OpF K Z r' g'):OpF K Z (orR r r') (orG g g'):=by intro F B H U fs x y u w Q ok rx ry s;unfold orG at s;cases e:g x y fs with|ok a t=>rw[e]at s;exact .inl (h F B H U fs x y u w Q ok rx ry (by rw[e];exact s))|exc c t=>rw[e]at s;exact .inl (h F B H U fs x y u w Q ok rx ry (by rw[e];exact s))|bad=>rw[e]at s;exact .inr (h' F B H U fs x y u w Q ok rx ry s)
noncomputable def orC(g g':List Rv->FS->Out Rv):List Rv->FS->Out Rv:=λx fs=>match g x fs with|.bad=>g' x fs|o=>o
theorem Ct.or(h:Ct K Z r g)(h':Ct K Z r' g'):Ct K Z (Rb r r') (orC g g'):=by intro F B H U fs x u Q ok rx s;unfold orC at s;cases e:g x fs with|ok a t=>rw[e]at s;exact .inl (h F B H U fs x u Q ok rx (by rw[e];exact s))|exc c t=>rw[e]at s;exact .inl (h F B H U fs x u Q ok rx (by rw[e];exact s))|bad=>rw[e]at s;exact .inr (h' F B H U fs x u Q ok rx s)
noncomputable def exL(fs:FS):Rv->Option (List T)
 |.t (.lst ts)=>some ts
 |.n i=>match AD fs i with|some (.lst ts)=>some ts|_=>none
 |_=>none
theorem Ru(h:Okk K F B H fs U)(r:Bz K F H U x u)(e:exL fs x=some ts):∃a vs,u=.ref a/\H a=some (.lst vs)/\Ad K F H ts vs:=by
 unfold exL at e;split at e
 .cases e;simp only[Bz,Ar]at r;obtain⟨a,vs,e,f,s,q⟩:=r;exact⟨a,vs,e,s,q⟩
 .rename_i i;split at e
  .rename_i dk eo;cases e;obtain⟨v,L2,e1,q,_⟩:=h.own eo;have e2:U[i]?=some (some u):=r;rw[e1]at e2;have e3:v=u:=by simpa using e2
   subst e3;simp only[Ao]at q;obtain⟨a,vs,e,s,q,_⟩:=q;exact⟨a,vs,e,s,q⟩
  .cases e
 .cases e
noncomputable def LZ:Rv->Rv->FS->Out Rv:=λx y fs=>match exL fs x,exL fs y with|some ts,some us=>if ts.length+us.length<=big then .ok (.nw (.lst (ts++us))) fs else .bad|_,_=>.bad
noncomputable def NO:Rv->Rv->FS->Out Rv
 |.t (.tup ts),.t (.tup us),fs=>if ts≠[]/\ts.length+us.length<=big then okT (.tup (ts++us)) fs else .bad
 |_,_,_=>.bad
section
variable{K:Fg}{Z:Xp}
theorem S8:OpF K Z Jbp LZ:=by
 intro F B H U fs x y u w Q ok rx ry s;unfold LZ at s;split at s
 .rename_i ts us e1 e2;split at s
  next hl=>obtain⟨a,vs,rfl,hs,r⟩:=Ru ok rx e1;obtain⟨b,ws,rfl,aY,r2⟩:=Ru ok ry e2;exact⟨a,b,vs,ws,rfl,rfl,hs,aY,by rw[r.len,r2.len];exact uz hl D4,λp hp=>s F _ (.ref p) (AE ok hp) (RR.alloc ok hp (Cb Ak ((r.app r2).le (AE ok hp))))⟩
  .exact s.elim
 .exact s.elim
theorem S7:OpF K Z (VL K) NO:=by
 intro F B H U fs x y u w Q ok rx ry s;unfold NO at s;split at s
 .rename_i ts us;split at s
  .rename_i hl;obtain⟨a,vs,rfl,hs,r⟩:=Br rx rfl;obtain⟨b,ws,rfl,aY,r2⟩:=Br ry rfl;refine⟨a,b,vs,ws,rfl,rfl,hs,aY,λz=>hl.1 ?_,by rw[r.len,r2.len];exact uz hl.2 D4,λz=>?_,λ_ p hp=>s _ _ (.ref p) (AN ok hp) (C8 ok hp (r.app r2))⟩
   .have:=r.len;rw[z]at this;exact vi this.symm
   .have e:=by have:=r2.len;rw[z]at this;exact vi this.symm
    subst e;rw[uK]at s;exact s F H _ Le.refl (RR.of ok rx)
  .exact s.elim
 .exact s.elim
noncomputable def NN:Rv->Rv->FS->Out Rv
 |.t (.tup []),.t (.tup us),fs=>okT (.tup us) fs
 |_,_,_=>.bad
theorem Ph:OpF K Z (QZ K) NN:=by
 intro F B H U fs x y u w Q ok rx ry s;unfold NN at s;split at s
 .rename_i us;obtain⟨a,vs,rfl,hs,r⟩:=Br rx rfl;obtain⟨b,ws,rfl,aY,r2⟩:=Br ry rfl;have e:=by simpa[Ad]using r
  subst e;exact⟨a,b,ws,rfl,rfl,hs,aY,s F H _ Le.refl (RR.of ok ry)⟩
 .exact s.elim
theorem S6:OpF K Z VJ J0:=by
 intro F B H U fs x y u w Q ok rx ry s;unfold J0 at s;split at s
 .split at s
  .rename_i t e;obtain⟨a,o',rfl,hd,h⟩:=N9 ok rx ry e;rcases h with⟨h1,_⟩|⟨t',v,h1,h2,h3⟩
   .cases h1
   .cases h1;subst h2;exact⟨a,v,rfl,hd,s F H v Le.refl (RR.of ok h3)⟩
  .exact s.elim
 .exact s.elim
theorem Nd(neg:Bool):OpF K Z (ZU neg) (TY neg):=by
 intro F B H U fs y x w u Q ok ry rx s;unfold TY at s;split at s
 .split at s
  .rename_i t e;obtain⟨a,o',rfl,hd,h⟩:=N9 ok rx ry e;refine⟨a,o',rfl,hd,?_⟩;have:o'.isSome=t.isSome:=by
    rcases h with⟨h1,h2⟩|⟨t',v,h1,h2,h3⟩
    .rw[h1,h2];rfl
    .rw[h1,h2];rfl
   rw[this];exact s F H _ Le.refl (RR.of ok rfl)
  .exact s.elim
 .exact s.elim
end
noncomputable def Av:=orG JaH (orG P9 (orG LZ (orG NO NN)))
noncomputable def Bi:=orG Xo TR
noncomputable def AO:=orG gIx J0
noncomputable def Dh(neg:Bool):=orG (TY neg) (orG (II neg) (gIn neg))
noncomputable def P7:List Rv->FS->Out Rv
 | [.t (.l ks _)],fs=>okT (.int ks.length) fs
 | [.n i],fs=>match AD fs i with|some (.l ks _)=>okT (.int ks.length) fs|_=>.bad
 |_,_=>.bad
noncomputable def AR:=orC JaC (orC NL P7)
noncomputable def B3:=orC TU NK
section
variable{K:Fg}{Z:Xp}
theorem UE:Ct K Z (λxs H Q=>∃a ah,xs=[V.ref a]/\Rd H a (.l ah)/\Q (.int ah.length) H) P7:=by
 intro F B H U fs rs vs Q ok q s;unfold P7 at s;split at s
 .obtain⟨v,rfl,qq⟩:=A7 q;have q:=qq;simp only[Bz,Ar]at q;obtain⟨a,ah,rfl,f,hd,rfl,r⟩:=q;rw[tZ]at s;exact⟨a,ah,rfl,hd,s F H _ Le.refl (RR.of ok rfl)⟩
 .rename_i i;obtain⟨v,rfl,qq⟩:=A7 q;have q:=qq;split at s
  .rename_i eo;obtain⟨v',L2,e1,q2,_⟩:=ok.own eo;have e2:U[i]?=some (some v):=q;rw[e1]at e2;have e3:=by simpa using e2
   subst e3;simp only[Ao]at q2;obtain⟨a,ah,rfl,hd,rfl,_⟩:=q2;rw[tZ]at s;exact⟨a,ah,rfl,.inl hd,s F H _ Le.refl (RR.of ok rfl)⟩
  .exact s.elim
 .exact s.elim
end
section
variable{X:Cx}{Z:Xp}{a b:Expr}{fa fb:FS->Out Rv}{pos:Pos}
theorem Yc(ha:FE X Z a fa)(hb:FE X Z b fb):FE X Z (.BinOp a .Add b pos) (Af Av fa fb) :=
 J4 (OpF.or WO (OpF.or S9 (OpF.or S8 (OpF.or S7 Ph)))) (OpR.orR WB (OpR.orR LI (OpR.orR WA (OpR.orR SU Pd)))) ha hb
theorem XH(ha:FE X Z a fa)(hb:FE X Z b fb):FE X Z (.BinOp a .Sub b pos) (Af JV fa fb):=J4 WE Wr ha hb
theorem XR(ha:FE X Z a fa)(hb:FE X Z b fb):FE X Z (.BinOp a .Mult b pos) (Af Bi fa fb):=J4 (OpF.or WI S0) (OpR.orR SQ MZ) ha hb
theorem XT(ha:FE X Z a fa)(hb:FE X Z b fb):FE X Z (.BinOp a .Mod b pos) (Af Cd fa fb):=J4 WJ Ww ha hb
theorem X7(ha:FE X Z a fa)(hb:FE X Z b fb):FE X Z (.BinOp a .FloorDiv b pos) (Af DD fa fb):=J4 WN SS ha hb
theorem JaQ(hu:X.A.units+1<cLine)(ha:FE X Z a fa)(hb:FE X Z b fb)(hs:Kk b):FE X Z (.Subscript a b pos) (Af AO fa fb):=JaT (OpF.or Jaf S6) (IxR.orR W7 (Tv hu)) ha hb hs
theorem JaY(ha:FE X Z a fa)(hb:FE X Z b fb):FE X Z (.Compare a [.Eq] [b] pos) (Af (gEq false) fa fb):=KU of_eq Wz ha hb (Dl _)
theorem JaO(ha:FE X Z a fa)(hb:FE X Z b fb):FT X Z (.Compare a [.Eq] [b] pos) (asB (Af (gEq false) fa fb)):=Dn of_eq Wz ha hb (Dl _)
theorem JaJ(ha:FE X Z a fa)(hb:FE X Z b fb):FT X Z (.Compare a [.NotEq] [b] pos) (asB (Af (gEq true) fa fb)):=Dn WH Wv ha hb (Dl _)
theorem JaK(ha:FE X Z a fa)(hb:FE X Z b fb):FT X Z (.Compare a [.Lt] [b] pos) (asB (Af gLt fa fb)):=Dn of_lt Jad ha hb (Dl _)
theorem JaL(ha:FE X Z a fa)(hb:FE X Z b fb):FT X Z (.Compare a [.LtE] [b] pos) (asB (Af gLe fa fb)):=Dn of_le SR ha hb (Dl _)
theorem JaN(ha:FE X Z a fa)(hb:FE X Z b fb):FT X Z (.Compare a [.Gt] [b] pos) (asB (Af gGt fa fb)):=Dn WK Wy ha hb (Dl _)
theorem JaV(ha:FE X Z a fa)(hb:FE X Z b fb):FE X Z (.Compare a [.Gt] [b] pos) (Af gGt fa fb):=KU WK Wy ha hb (Dl _)
theorem JaU(hu:X.A.units+1<cLine)(ha:FE X Z a fa)(hb:FE X Z b fb)(hm:behindInMarks .In b=false:=by rfl):FE X Z (.Compare a [.In] [b] pos) (Af (Dh false) fa fb) :=
 KU (OpF.or (Nd false) (OpF.or KA (S3 false))) (OpR.orR (Rf hu) (OpR.orR Iq Ir)) ha hb hm
theorem JaM(hu:X.A.units+1<cLine)(ha:FE X Z a fa)(hb:FE X Z b fb)(hm:behindInMarks .In b=false:=by rfl):FT X Z (.Compare a [.In] [b] pos) (asB (Af (Dh false) fa fb)) :=
 Dn (OpF.or (Nd false) (OpF.or KA (S3 false))) (OpR.orR (Rf hu) (OpR.orR Iq Ir)) ha hb hm
theorem Qb(hu:X.A.units+1<cLine)(ha:FE X Z a fa)(hb:FE X Z b fb)(hm:behindInMarks .NotIn b=false:=by rfl):FT X Z (.Compare a [.NotIn] [b] pos) (asB (Af (Dh true) fa fb)) :=
 Dn (OpF.or (Nd true) (OpF.or JF (S3 true))) (OpR.orR (M0 hu) (OpR.orR Io Ip)) ha hb hm
end
noncomputable def itU(f:FS->Out Rv):FS->Out (List T):=λfs=>(f fs).bnd λr fs=>match r with|.t (.lst ts)=>.ok ts fs|.t (.zY ts)=>.ok ts fs|.t (.tup ts)=>.ok ts fs|.t (.str z)=>.ok (signs z) fs|_=>.bad
theorem XD(hl:FE X Z l f):FI X Z tg l (itU f):=by
 refine Ij (V7 hl) λU H Q ao => ?_
 obtain⟨F,B,fs,ok,s⟩:= ao;refine⟨F,B,fs,ok,Ay s λr ag F1 H1 u l ax rx s1=>?_⟩;split at s1
 next ts=>simp only[Bz,Ar]at rx;obtain⟨a,vs,rfl,ff,hs,r⟩:=rx;exact .inl ⟨a,rfl,⟨vs,SqL.of hs⟩,s1 F1 H1 _ Le.refl ⟨ax,KJ (λF' H' l=>SqL.of ((l a ff).2.trans hs)) r⟩⟩
 next ts=>simp only[Bz,Ar]at rx;obtain⟨a,vs,rfl,hs,r⟩:=rx;exact .inl ⟨a,rfl,⟨vs,hs.sq⟩,s1 F1 H1 _ Le.refl ⟨ax,KJ (λF' H' l=>(StL.lf l hs).sq) r⟩⟩
 next ts=>simp only[Bz,Ar]at rx;obtain⟨a,vs,rfl,hs,r⟩:=rx;exact .inr (.inl ⟨a,rfl,⟨vs,hs.sq⟩,s1 F1 H1 _ Le.refl ⟨ax,Ts (λF' H' l=>SqT.of ((l a hs.2.1).2.trans hs.2.2)) r⟩⟩)
 next z=>exact .inr (.inr ⟨z,rx,s1 F1 H1 _ Le.refl ⟨ax,Tt⟩⟩)
 .exact s1.elim
noncomputable def P4:Rv->Rv->Rv->FS->SO
 |.n i,.t (.int k),.t t,fs=>match AD fs i with
  |some (.lst ts)=>match ixN ts.length k with|some j=>.nx (putAt fs i (.lst (ts.set j t)))|none=>.bad
  |_=>.bad
 |_,_,_,_=>.bad
noncomputable def NJ:Rv->Rv->Rv->FS->SO
 |.n i,.t y,.t t,fs=>match AD fs i with
  |some (.l ks ts)=>match F9 y with|some k=>if ks.length<big then .nx (putAt fs i (.l (Ea ks ts k t).1 (Ea ks ts k t).2))else .bad|none=>.bad
  |some (.dT ks ts)=>match y with
   |.tup ys=>match Gb ys with|some k=>if ks.length<big then .nx (putAt fs i (.dT (Ea ks ts k t).1 (Ea ks ts k t).2))else .bad|none=>.bad
   |_=>.bad
  |_=>.bad
 |_,_,_,_=>.bad
noncomputable def TQ:Rv->Rv->Rv->FS->SO:=λo i v fs=>match P4 o i v fs with|.bad=>NJ o i v fs|s=>s
noncomputable def Ca(fv fo fi:FS->Out Rv):FS->SO:=λfs=>SO.of ((fv fs).bnd λv fs=>(fo fs).bnd λo fs=>(fi fs).bnd λi fs=>.ok (v,o,i) fs) λ(v,o,i) fs=>TQ o i v fs
section
variable{K:Fg}{Z:Xp}{B:Nat->Option V}{F:Wd}{H:Hp}{U:St}{fs:FS}{D:Ends}
theorem P2(ok:Okk K F B H fs U)(ro:Bz K F H U o uo)(ri:Bz K F H U i ui)(rv:Bz K F H U v uv)(s:Gy K Z B F H (P4 o i v fs) D):OW uo ui uv H (λH3=>D.nx U H3):=by
 unfold P4 at s;split at s
 .rename_i i k t;split at s
  .rename_i ts e;split at s
   next j ej=>obtain⟨a,us,rfl,hs,r,kk⟩:=ok.list ro e;obtain⟨dJ,l⟩:=kk (ts.set j t) (us.set j uv) (Ad.set rv j r);exact⟨a,us,k,j,rfl,ri,hs,by rw[r.len];exact ej,s F _ U l dJ⟩
   .exact s.elim
  .exact s.elim
 .exact s.elim
theorem P5(ok:Okk K F B H fs U)(ro:Bz K F H U o uo)(ri:Bz K F H U i ui)(rv:Bz K F H U v uv)(s:Gy K Z B F H (NJ o i v fs) D):OX uo ui uv H (λH3=>D.nx U H3):=by
 unfold NJ at s;split at s
 .rename_i i y t;split at s
  .rename_i ks ts e;split at s
   .rename_i k ek;split at s
    .rename_i hl;obtain⟨v,L2,e1,q,nf,_,kk⟩:=ok.own e;have e2:U[i]?=some (some uo):=ro;rw[e1]at e2;have e3:=by simpa using e2
     subst e3;simp only[Ao]at q;obtain⟨a,ah,rfl,hs,rfl,q,rfl⟩:=q;have:=CB ek ri;subst this;refine⟨a,_,rfl,Mf.k hs (by rw[tZ]at hl;exact vo hl FQ),?_⟩;obtain⟨h1,h2⟩:=EM rv q;have l:Le F H F (upd H a (.l (putK ah k uv))):=⟨λb f=>⟨f,Aj λz=>(nf a (by simp)).1 (z▸f)⟩,λb f=>⟨f,Aj λz=>(nf a (by simp)).2 (z▸f)⟩⟩
     obtain⟨dJ,l'⟩:=kk (.l (Ea (ah.map (·.1)) ts k t).1 (Ea (ah.map (·.1)) ts k t).2) (upd H a (.l (putK ah k uv))) (λb hb _=>Aj (by simpa using hb)) (by simp only[Ao];exact⟨a,_,rfl,Ak,h1,h2.le l,rfl⟩);exact s F _ U l' dJ
    .exact s.elim
   .exact s.elim
  .rename_i ks ts e;split at s
   .rename_i ys;split at s
    .rename_i k ek;split at s
     .rename_i hl;obtain⟨v,L2,e1,q,nf,_,kk⟩:=ok.own e;have e2:U[i]?=some (some uo):=ro;rw[e1]at e2;have e3:v=uo:=by simpa using e2
      subst e3;simp only[Ao]at q;obtain⟨a,ah,rfl,hs,rfl,q,rfl⟩:=q;simp only[Bz,Ar]at ri;obtain⟨b,vs,rfl,hb,rb⟩:=ri;have:=DH ek rb;subst this;refine⟨a,_,rfl,Mf.t hs hb.2.2 (by rw[tZ]at hl;exact vo hl FQ),?_⟩;obtain⟨h1,h2⟩:=EM rv q;have l:Le F H F (upd H a (.dT (putK ah k uv))):=⟨λb f=>⟨f,Aj λz=>(nf a (by simp)).1 (z▸f)⟩,λb f=>⟨f,Aj λz=>(nf a (by simp)).2 (z▸f)⟩⟩
      obtain⟨dJ,l'⟩:=kk (.dT (Ea (ah.map (·.1)) ts k t).1 (Ea (ah.map (·.1)) ts k t).2) (upd H a (.dT (putK ah k uv))) (λb hb _=>Aj (by simpa using hb)) (by simp only[Ao];exact⟨a,_,rfl,Ak,h1,h2.le l,rfl⟩);exact s F _ U l' dJ
     .exact s.elim
    .exact s.elim
   .exact s.elim
  .exact s.elim
 .exact s.elim
end
theorem PQ(hu:X.A.units+1<cLine)(he:FE X Z e fv)(ho:FE X Z o fo)(hi:FE X Z i fi)
  (h:∀{te to ti:TE}{t:UW},PE X e te->PE X o to->PE X i ti->QL X t->PS X (.Assign [.Subscript o i bJ] e pos) (Vv te (Jay to ti t))):GS X Z (.Assign [.Subscript o i bJ] e pos) (Ca fv fo fi):=by
 refine BM (h he ho hi (QL.orR set_list (set_dict hu))) λD U H ao=>?_
 obtain⟨F,B,fs,ok,s⟩:= ao;have s':sat Z B (RR X.K B U) F H (fv fs) (λv H1=>Jay (tF X.K Z fo) (tF X.K Z fi) (SM OW OX) v U H1 D.nx):=by
  have s1:=Bn (R:=λF' H' ar (a:Rv×Rv×Rv) (b:V×V×V)=>Okk X.K F' B H' ar U/\Bz X.K F' H' U a.1 b.1/\Bz X.K F' H' U a.2.1 b.2.1/\Bz X.K F' H' U a.2.2 b.2.2) (Q:=λb H3=>SM OW OX b.2.1 b.2.2 b.1 H3 λH4=>D.nx U H4) s (λa ar F' H' b l q s2=>by
   obtain⟨q1,q2,q3,q4⟩:=q;obtain⟨v,o,i⟩:=a;dsimp only at s2 q2 q3 q4 ⊢;unfold TQ at s2;split at s2
   .exact .inr (P5 q1 q3 q4 q2 s2)
   .exact .inl (P2 q1 q3 q4 q2 s2))
  refine Ay s1 λv ag F1 H1 uv l1 ax rv s2=>?_
  refine⟨F1,B,ag,ax,Ay s2 λo av F2 H2 uo l2 aO ro s3=>⟨F2,B,av,aO,Ay s3 λi cw F3 H3 ui l3 dM ri s4=>?_⟩⟩;exact s4 F3 H3 (uv,uo,ui) Le.refl ⟨dM,(rv.le l2).le l3,ro.le l3,ri⟩
 exact⟨F,B,fs,ok,s'⟩
theorem PU:GS X Z st (λ_=>.bad):=BM O2 λD U H ⟨F,B,fs,ok,s⟩=>s.elim
section
variable{K:Fg}{B:Nat->Option V}{F F':Wd}{H H':Hp}{U:St}{fs:FS}{i:Nat}{ob:FO}{r:Rv}{u:V}
theorem RR.put(h:RR K B U F H fs r u)(e:AD fs i=some ob):∃v L2 L',U[i]?=some (some v)/\Ao K F H ob v L2/\Ox K F H U r u L'/\(L2++L').Nodup/\(∀a∈L2++L',¬F a/\¬F.p a) /\
  ∀bO H' M,(∀a,a∉L2->H a≠none->H' a=H a)->Ao K F H' bO v M->M.Nodup->(∀b∈M,b∈L2\/b∈L')->Okk K F B H' (putAt fs i bO) U/\Le F H F H':=by
 obtain⟨L,L',h,qr,rH,nY⟩:=h;have key:∀s:Sl,fs[i]?=some (some s)->(s=.own ob\/s=.bor ob)->∃v L2 L',U[i]?=some (some v)/\Ao K F H ob v L2/\Ox K F H U r u L'/\(L2++L').Nodup/\(∀a∈L2++L',¬F a/\¬F.p a) /\
  ∀bO H' M,(∀a,a∉L2->H a≠none->H' a=H a)->Ao K F H' bO v M->M.Nodup->(∀b∈M,b∈L2\/b∈L')->Okk K F B H' (fs.set i (some (s.put bO))) U/\Le F H F H':=by
  intro s es ho;obtain⟨v,L1,L2,L3,e1,rfl,h1,h2⟩:=h.sl.pick es;obtain⟨u',rfl,q⟩:∃u,v=some u/\Ao K F H ob u L2:=by
   rcases ho with rfl|rfl
   .exact h1
   .exact h1
  have nd:=h.nd;have eF:∀a∈L1++L3,a∉L2:=λa ha hb=>by
   rw[tQ]at nd;rcases tW.mp ha with ha|ha
   .exact nd.2.2 a ha a (ud _ hb) rfl
   .have:=(tQ.mp nd.2.1).2.2;exact this a hb a ha rfl
  have iC:=tQ.mp rH;have kA:∀a∈L1++L3,a∉L':=λa ha hb=>iC.2.2 a (by
   rcases tW.mp ha with ha|ha
   .simp[ha]
   .simp[ha]) a hb rfl
  refine⟨u',L2,L',e1,q,qr,?_,λa m=>?_,λbO H' M k q' hm fM=>?_⟩
  .rw[tQ];refine⟨?_,iC.2.1,λa ha b hb=>iC.2.2 a (by simp[ha]) b hb⟩;rw[tQ]at nd;exact(tQ.mp nd.2.1).1
  .rcases tW.mp m with m|m
   .exact⟨h.nf a (by simp[m]),h.pl a (by simp[m])⟩
   .exact nY a m
  .have l:Le F H F H':=⟨λa f=>⟨f,k a (λm=>h.nf a (by simp[m]) f) (h.fd a f)⟩,λa f=>⟨f,k a (λm=>h.pl a (by simp[m]) f) (h.pd a f)⟩⟩
   have nW:∀a∈L1++(M++L3),¬F a/\¬F.p a:=λa m=>by
    rcases tW.mp m with m|m
    .exact⟨h.nf a (by simp[m]),h.pl a (by simp[m])⟩
    .rcases tW.mp m with m|m
     .rcases fM a m with z|z
      .exact⟨h.nf a (by simp[z]),h.pl a (by simp[z])⟩
      .exact nY a z
     .exact⟨h.nf a (by simp[m]),h.pl a (by simp[m])⟩
   refine⟨⟨L1++(M++L3),?_,BD nd hm (λa m m2=>?_),λa m=>(nW a m).1,λa f=>by rw[(l.f a f).2];exact h.fd a f,?_,λa f=>by rw[(l.p a f).2];exact h.pd a f,h.pf,λa m=>(nW a m).2⟩,l⟩
   .have hL:∀a∈L1++L3,H' a=H a:=λa m=>k a (eF a m) (h.sl.def a (by
      rcases tW.mp m with m|m
      .simp[m]
      .simp[m]))
    have h3:=h2 F H' (some (s.put bO)) (some u') M l hL (by
     rcases ho with rfl|rfl
     .exact⟨u',rfl,q'⟩
     .exact⟨u',rfl,q'⟩)
    rwa[A5 e1]at h3
   .rcases fM a m with z|z
    .exact eF a m2 z
    .exact kA a m2 z
   .have:=En.put (s:=some (s.put bO)) h.bo (λo eo=>by
     rcases ho with rfl|rfl
     .cases eo
     .obtain⟨w,e3,e4⟩:=h.bo i ob es;rw[e1]at e3;have e5:u'=w:=by simpa using e3
      exact⟨u',rfl,by rw[e5];exact e4⟩) h.sl.len
    rwa[A5 e1]at this
 unfold AD at e;split at e
 next o es=>cases e;obtain⟨v,L2,L',a1,a2,a3,a4,a5,a6⟩:=key _ es (.inl rfl);refine⟨v,L2,L',a1,a2,a3,a4,a5,λbO H' M k q m1 m2=>?_⟩;have:=a6 bO H' M k q m1 m2;unfold putAt;rw[es];exact this
 next o es=>cases e;obtain⟨v,L2,L',a1,a2,a3,a4,a5,a6⟩:=key _ es (.inr rfl);refine⟨v,L2,L',a1,a2,a3,a4,a5,λbO H' M k q m1 m2=>?_⟩;have:=a6 bO H' M k q m1 m2;unfold putAt;rw[es];exact this
 .cases e
end
noncomputable def Jbd:Rv->Option FO
 |.t t=>some (.val t)
 |.nw o=>some o
 |.n _=>none
noncomputable def Hc:List Str->List FO->Str->FO->Option (List Str×List FO)
 | [],[],f,o=>some ([f],[o])
 |g::gs,x::os,f,o=>if g=f then(match x with|.val _=>some (g::gs,o::os)|_=>none)else(Hc gs os f o).map λp=>(g::p.1,x::p.2)
 |_,_,_,_=>none
theorem Ic(ro:Ao K F H o y L'):∀{ah:List (Str×V)}{os dN:List FO}{jN:List Str}{L:List Addr},Aq K F H os (ah.map (·.2)) L->Hc (ah.map (·.1)) os f o=some (jN,dN) ->
  ∃M,(Er f y ah).map (·.1)=jN/\Aq K F H dN ((Er f y ah).map (·.2)) M/\(∀a∈M,a∈L\/a∈L')/\((L++L').Nodup->M.Nodup)
 | [],os,dN,jN,L,r,e=>by cases os with|cons x os=>simp[Hc]at e|nil =>simp only[u3,Hc,Option.some.injEq,Prod.mk.injEq]at e;obtain⟨rfl,rfl⟩:=e;refine⟨L',rfl,?_,λa m=>.inr m,λnd=>(tQ.mp nd).2.1⟩;simp only[Er,tR,u3,Aq];exact⟨y,[],L',[],rfl,ro,⟨rfl,rfl⟩,by simp⟩
 |(g,x)::ah,os,dN,jN,L,r,e=>by
  cases os with
  |nil=>simp[Hc]at e
  |cons o1 os =>
   simp only[tR,Aq]at r;obtain⟨v,w,L1,L2,ee,r1,r2,rfl⟩:=r;cases ee;simp only[tR,Hc]at e;by_cases hg:g=f
   .rw[if_pos hg]at e;cases o1 with
    |val t =>
     simp only[Option.some.injEq,Prod.mk.injEq]at e;obtain⟨rfl,rfl⟩:=e;simp only[Ao]at r1;obtain⟨rfl,_⟩:=r1;refine⟨L'++L2,?_,?_,λa m=>?_,λnd=>?_⟩
     .simp only[Er];rw[if_pos hg];rfl
     .simp only[Er];rw[if_pos hg];simp only[tR,Aq];exact⟨y,_,L',L2,rfl,ro,r2,rfl⟩
     .rcases tW.mp m with m|m
      .exact .inr m
      .exact .inl (by simpa using m)
     .rw[vH]at nd;exact(List.perm_append_comm).nodup_iff.mp nd
    |lst _=>cases e
    |l _ _=>cases e
    |dT _ _=>cases e
    |ins _ _ _=>cases e
    |ze _=>cases e
    |zc _=>cases e
    |dO _ _=>cases e
    |la _ _=>cases e
   .rw[if_neg hg,uc]at e;obtain⟨p,ep,e⟩:=e;simp only[Prod.mk.injEq]at e;obtain⟨rfl,rfl⟩:=e;obtain⟨M,m1,m2,m3,m4⟩:=Ic ro r2 (by rw[ep]);refine⟨L1++M,?_,?_,λa m=>?_,λnd=>?_⟩
    .simp only[Er];rw[if_neg hg,tR,m1]
    .simp only[Er];rw[if_neg hg];simp only[tR,Aq];exact⟨x,_,L1,M,rfl,r1,m2,rfl⟩
    .rcases tW.mp m with m|m
     .exact .inl (ud _ m)
     .rcases m3 a m with z|z
      .exact .inl (ue _ z)
      .exact .inr z
    .rw[uL,tQ]at nd;rw[tQ];refine⟨nd.1,m4 nd.2.1,λa ha b hb e=>?_⟩;rcases m3 b hb with z|z
     .exact nd.2.2 a ha b (ud _ z) e
     .exact nd.2.2 a ha b (ue _ z) e
noncomputable def IJ(C:Addr)(f:Str)(i:Nat)(fv:FS->Out Rv):FS->SO:=λfs=>SO.of (fv fs) λr fs=>match Jbd r,AD fs i with|some o,some (.ins C' gs os)=>if C'=C/\gs.length<900 then(match Hc gs os f o with|some p=>.nx (putAt fs i (.ins C p.1 p.2))|none=>.bad)else .bad|_,_=>.bad
theorem Xi(c:Cls X.K C)(n:Ba X.K C f)(i:Nat)(he:FE X Z e fv)
  (h:∀{tv:TE},PE X e tv->PS X (.Assign [.Attribute (.Name x p1) f p2] e pos) (Jbj X.K (Oz i) tv f)):GS X Z (.Assign [.Attribute (.Name x p1) f p2] e pos) (IJ C f i fv):=by
 refine BM (h he) λD U H ao => ?_
 obtain⟨F,B,fs,ok,s⟩:= ao;refine⟨F,B,fs,ok,Bn s λr ag F1 H1 u l q s1=>?_⟩;split at s1
 .rename_i o C' gs os e1 e2;split at s1
  .rename_i hC;obtain⟨rfl,hl⟩:=hC;split at s1
   .rename_i p ep;obtain⟨v,L2,L',a1,a2,a3,a4,a5,a6⟩:=RR.put q e2;simp only[Ao]at a2;obtain⟨a,dx,ah,L3,rfl,hd,rfl,ro,rfl⟩:=a2;have rX:Ao X.K F1 H1 o u L':=by cases r with|t t =>cases e1;simp only[Ao];exact a3|nw o'=>cases e1;exact a3|n j=>cases e1
    obtain⟨M,m1,m2,m3,m4⟩:=Ic rX ro (by rw[ep]);have gM:=(uG.mp a4).2;have na:=(uG.mp a4).1;have nO:a∉M:=λz=>na (by
     rcases m3 a z with z|z
     .exact ud _ z
     .exact ue _ z)
    have k1:∀b,b∉a::L3->H1 b≠none->(upd H1 a (.ins C' dx (Er f u ah))) b=H1 b:=λb hb _=>Aj λz=>hb (by rw[z];simp)
    have l1:Le F1 H1 F1 (upd H1 a (.ins C' dx (Er f u ah))):=⟨λb f=>⟨f,Aj λz=>(a5 a (by simp)).1 (z▸f)⟩,λb f=>⟨f,Aj λz=>(a5 a (by simp)).2 (z▸f)⟩⟩
    obtain⟨dJ,l'⟩:=a6 (.ins C' p.1 p.2) (upd H1 a (.ins C' dx (Er f u ah))) (a::M) k1 (by
     simp only[Ao];exact⟨a,dx,_,M,rfl,Ak,m1,Aq.le l1 (λb hb=>Aj λz=>nO (z▸hb)) m2,rfl⟩) (uG.mpr ⟨nO,m4 gM⟩) (λb hb=>by
     rcases uk.mp hb with z|z
     .exact .inl (by rw[z];simp)
     .rcases m3 b z with z|z
      .exact .inl (tV _ z)
      .exact .inr z)
    exact⟨_,a1,a,C',dx,ah,rfl,hd,c,n,by rw[tZ]at hl;lia,s1 F1 _ U l' dJ⟩
   .exact s1.elim
  .exact s1.elim
 .exact s1.elim
noncomputable def BB:List Str->List FO->Str->FO->List FO
 |g::gs,x::os,f,o=>if f==g then o::os else x::BB gs os f o
 |_,os,_,_=>os
theorem HY:∀{ah:List (Str×V)}{os:List FO}{L:List Addr},Aq K F H os (ah.map (·.2)) L->L.Nodup->Bh (ah.map (·.1)) os f=some (.l ks ts) ->
  ∃b aG,ah.lookup f=some (.ref b)/\b∈L/\H b=some (.l aG)/\aG.map (·.1)=ks/\Ad K F H ts (aG.map (·.2)) /\
   ∀H' o',(∀a∈L,a≠b->H' a=H a)->Le F H F H'->Ao K F H' o' (.ref b) [b]->Aq K F H' (BB (ah.map (·.1)) os f o') (ah.map (·.2)) L
 | [],os,L,r,nd,e=>by cases os<;>simp[Bh]at e
 |(g,x)::ah,os,L,r,nd,e=>by cases os with|nil=>simp[Bh]at e|cons o1 os =>simp only[tR,Aq]at r;obtain⟨v,w,L1,L2,ee,r1,r2,rfl⟩:=r;cases ee;simp only[tR,Bh]at e;rw[uM];have gL:=tQ.mp nd;cases hb:f==g with|true =>rw[hb]at e;cases e;simp only[Ao]at r1;obtain⟨b,aG,rfl,hd,rfl,rt,rfl⟩:=r1;refine⟨b,aG,rfl,by simp,hd,rfl,rt,λH' o' k l ro=>?_⟩;simp only[tR,BB,hb,if_true,Aq];refine⟨.ref b,_,[b],L2,rfl,ro,Aq.le l (λa m=>k a (by simp[m]) λz=>gL.2.2 b (by simp) a m z.symm) r2,rfl⟩|false =>rw[hb]at e;obtain⟨b,aG,h1,h2,h3,h4,h5,h6⟩:=HY r2 gL.2.1 (by simpa using e);refine⟨b,aG,h1,ue _ h2,h3,h4,h5,λH' o' k l ro=>?_⟩;have:=h6 H' o' (λa m=>k a (ue _ m)) l ro;simp only[tR,BB,hb,Aq];exact⟨x,_,L1,L2,rfl,r1.le l λa m=>k a (ud _ m) λz=>gL.2.2 a m b h2 z,this,rfl⟩
noncomputable def C4(C:Addr)(f:Str)(i j:Nat)(fv:FS->Out Rv):FS->SO:=λfs=>SO.of (fv fs) λr fs=>match r,AD fs i,fs[j]? with|.t t,some (.ins C' gs os),some (some (.val y))=>if C'=C then(match Bh gs os f,F9 y with|some (.l ks ts),some k=>if ks.length<big then .nx (putAt fs i (.ins C gs (BB gs os f (.l (Ea ks ts k t).1 (Ea ks ts k t).2))))else .bad|_,_=>.bad)else .bad|_,_,_=>.bad
theorem PX(c:Cls X.K C)(n:Ba X.K C f)(i j:Nat)(he:FE X Z e fv)
  (h:∀{tv:TE},PE X e tv->PS X (.Assign [.Subscript (.Attribute (.Name x p1) f p2) (.Name y p3) p4] e pos) (VF (Jbi X.K (Oz i) f) (Oz j) tv)) :
  GS X Z (.Assign [.Subscript (.Attribute (.Name x p1) f p2) (.Name y p3) p4] e pos) (C4 C f i j fv):=by
 refine BM (h he) λD U H ao => ?_
 obtain⟨F,B,fs,ok,s⟩:= ao;refine⟨F,B,fs,ok,Bn s λr ag F1 H1 u l q s1=>?_⟩;split at s1
 .rename_i t C' gs os y' e2 e3;split at s1
  .rename_i hC;subst hC;split at s1
   .rename_i ks ts k e4 e5;split at s1
    .rename_i hl;have rt:Ar X.K F1 H1 t u:=by obtain⟨_,_,_,⟨_,q⟩,_⟩:=q;exact q
     have ax:=q.ok;obtain⟨v,L2,a1,a2,a3,a4,a5⟩:=ax.own e2;simp only[Ao]at a2;obtain⟨a,dx,ah,L3,rfl,hd,rfl,ro,rfl⟩:=a2;have nU:=uG.mp a4;obtain⟨b,aG,b1,b2,b3,rfl,b5,b6⟩:=HY ro nU.2 e4;obtain⟨L9,o9⟩:=id ax;obtain⟨w,M1,M2,M3,e6,_,h1,_⟩:=o9.sl.pick e3;obtain⟨uy,rfl,ry,_⟩:=h1;have:=CB e5 ry;subst this;have fA:a≠b:=λz=>nU.1 (z▸b2)
     obtain⟨h1,h2⟩:=EM rt b5;have nb:=a3 b (tV _ b2);have l1:Le F1 H1 F1 (upd H1 b (.l (putK aG k u))):=⟨λz f=>⟨f,Aj λq=>nb.1 (q▸f)⟩,λz f=>⟨f,Aj λq=>nb.2 (q▸f)⟩⟩
     obtain⟨dJ,l'⟩:=a5 (.ins C' (ah.map (·.1)) (BB (ah.map (·.1)) os f (.l (Ea (aG.map (·.1)) ts k t).1 (Ea (aG.map (·.1)) ts k t).2))) (upd H1 b (.l (putK aG k u))) (λz hz _=>Aj λq=>hz (by rw[q];exact tV _ b2)) (by simp only[Ao];refine⟨a,dx,ah,L3,rfl,by rw[Aj fA];exact hd,rfl,b6 _ _ (λz _ hz=>Aj hz) l1 ?_,rfl⟩;simp only[Ao];exact⟨b,_,rfl,Ak,h1,h2.le l1,rfl⟩);exact⟨_,a1,a,C',dx,ah,.ref b,rfl,hd,c,n,b1,kV k,e6,b,_,rfl,Mf.k b3 (by rw[tZ]at hl;exact vo hl FQ),s1 F1 _ U l' dJ⟩
    .exact s1.elim
   .exact s1.elim
  .exact s1.elim
 .exact s1.elim
section
variable{X:Cx}{Z:Xp}{e:Expr}{es:List Expr}{fa:FS->Out (List Rv)}{pos p:Pos}
theorem XY(hm:X.mg "len"=none)(ha:FA X Z (e::es) fa)(hg:Gl X "len":=by rfl)(he:starEach (e::es) X.env=(false,eval e X.env)::starEach es X.env:=by rfl)(aI:(backTo pos (starEach es X.env)).any (·.1)=false:=by rfl) :
  FE X Z (.Call (.Name "len" p) (e::es) [] pos) (Ac AR fa):=ET (Ct.or Yr (Ct.or UD UE)) (BZ.orR IZ (BZ.orR IY Ma)) hm PySem.boot_len ha hg (by decide) (by decide) he aI
theorem XG(hm:X.mg "sum"=none)(ha:FA X Z (e::es) fa)(hc:X.calm=true:=by rfl)(hg:Gl X "sum":=by rfl)(he:starEach (e::es) X.env=(false,eval e X.env)::starEach es X.env:=by rfl)(aI:(backTo pos (starEach es X.env)).any (·.1)=false:=by rfl) :
  FE X Z (.Call (.Name "sum" p) (e::es) [] pos) (Ac YG fa):=ET Yq (QA hc) hm boot_sum ha hg (by decide) (by decide) he aI
theorem Yb(hm:X.mg "all"=none)(ha:FA X Z (e::es) fa)(hc:X.calm=true:=by rfl)(hg:Gl X "all":=by rfl)(he:starEach (e::es) X.env=(false,eval e X.env)::starEach es X.env:=by rfl)(aI:(backTo pos (starEach es X.env)).any (·.1)=false:=by rfl) :
  FE X Z (.Call (.Name "all" p) (e::es) [] pos) (Ac Xt fa):=ET Yt (QD hc) hm boot_all ha hg (by decide) (by decide) he aI
theorem Ug(hm:X.mg "list"=none)(ha:FA X Z (e::es) fa)(hc:X.calm=true:=by rfl)(hg:Gl X "list":=by rfl)(he:starEach (e::es) X.env=(false,eval e X.env)::starEach es X.env:=by rfl)(aI:(backTo pos (starEach es X.env)).any (·.1)=false:=by rfl) :
  FE X Z (.Call (.Name "list" p) (e::es) [] pos) (Ac B3 fa):=C0 (Ct.or UC Qy) (BZ.orR IX (C6 hc)) hm boot_list ha hg (by decide) (by decide) he aI
theorem Qf(hm:X.mg "tuple"=none)(ha:FA X Z (e::es) fa)(hg:Gl X "tuple":=by rfl)(he:starEach (e::es) X.env=(false,eval e X.env)::starEach es X.env:=by rfl)(aI:(backTo pos (starEach es X.env)).any (·.1)=false:=by rfl) :
  FE X Z (.Call (.Name "tuple" p) (e::es) [] pos) (Ac Bf fa):=C0 Qw HE hm boot_tuple ha hg (by decide) (by decide) he aI
theorem Uh(hm:X.mg "int"=none)(ha:FA X Z (e::es) fa)(hg:Gl X "int":=by rfl)(he:starEach (e::es) X.env=(false,eval e X.env)::starEach es X.env:=by rfl)(aI:(backTo pos (starEach es X.env)).any (·.1)=false:=by rfl) :
  FE X Z (.Call (.Name "int" p) (e::es) [] pos) (Ac Gm fa):=C0 UG Oi hm boot_int ha hg (by decide) (by decide) he aI
end
noncomputable def JW:=gI λi j fs=>if 0<=j/\j<=1000000/\i.natAbs<2^64 then okT (.int (i^j.toNat)) fs else .bad
theorem WG{K:Fg}{Z:Xp}:OpF K Z (rI JbA λi j=>.int (i^j.toNat)) JW:=MY (t:=λi j=>.int (i^j.toNat)) (λ_ _ _ _ _=>rfl) λi j fs=>by
 by_cases h:0<=j/\j<=1000000/\i.natAbs<2^64
 .exact .inr ⟨h,if_pos h⟩
 .exact .inl (if_neg h)
theorem XM{X:Cx}{Z:Xp}{a b:Expr}{fa fb:FS->Out Rv}{pos:Pos}(ha:FE X Z a fa)(hb:FE X Z b fb):FE X Z (.BinOp a .Pow b pos) (Af JW fa fb):=J4 WG Ws ha hb
def RP(K:Fg)(B:Nat->Option V)(U:St):Wd->Hp->FS->Option Int->Option Int->Prop:=λF H fs a b=>Okk K F B H fs U/\b=a
inductive tP(K:Fg)(Z:Xp)(f:FS->Out (Option Int))(U:St)(H:Hp)(Q:Option Int->Hp->Prop):Prop
 |mk (F:Wd) (B:Nat->Option V) (fs:FS) (h0:Okk K F B H fs U) (h1:sat Z B (RP K B U) F H (f fs) Q)
def FP(X:Cx)(Z:Xp)(e:Option Expr)(f:FS->Out (Option Int)):Prop:=PO X e (tP X.K Z f)
theorem Q6(h:PO X e t)(i:∀U H Q,t' U H Q->t U H Q):PO X e t':=λaa s U H Q I q=>h aa s U H Q I (i _ _ _ q)
noncomputable def noP:FS->Out (Option Int):=λfs=>.ok none fs
noncomputable def BK(f:FS->Out Rv):FS->Out (Option Int):=λfs=>(f fs).bnd λr fs=>match r with|.t (.int i)=>.ok (some i) fs|_=>.bad
noncomputable def K4(ts:List T)(lo hi:Option Int):List T:=(ts.drop (HT.sIx ts.length 0 lo)).take (HT.sIx ts.length ts.length hi-HT.sIx ts.length 0 lo)
theorem K3(r:Ad K F H ts vs):Ad K F H (K4 ts lo hi) (Uy vs lo hi):=by unfold K4 Uy;rw[r.len];exact(r.drop _).take _
noncomputable def Jm:Rv->Option Int->Option Int->FS->Out Rv:=λx lo hi fs=>match Df fs x with|some ts=>okT (.lst (K4 ts lo hi)) fs|none=>match x with|.t (.tup ts)=>okT (.tup (K4 ts lo hi)) fs|_=>.bad
noncomputable def slF(f:FS->Out Rv)(l h:FS->Out (Option Int)):FS->Out Rv:=λfs=>(f fs).bnd λx fs=>(l fs).bind λlo fs=>(h fs).bind λhi fs=>Jm x lo hi fs
section
variable{X:Cx}{Z:Xp}{e:Expr}{lo hi:Option Expr}{f:FS->Out Rv}{l h:FS->Out (Option Int)}{pos p2:Pos}
theorem T7:FP X Z none noP:=Q6 Sw λU H Q ⟨F,B,fs,ok,s⟩=>s F H none Le.refl ⟨ok,rfl⟩
theorem T6(he:FE X Z e f):FP X Z (some e) (BK f):=by
 refine Q6 (Sv he) λU H Q ao => ?_
 obtain⟨F,B,fs,ok,s⟩:= ao;refine⟨F,B,fs,ok,Ay s λr ag F1 H1 u l ax rx s1=>?_⟩;split at s1
 .exact⟨_,rx,s1 F1 H1 _ Le.refl ⟨ax,rfl⟩⟩
 .exact s1.elim
theorem JaR(he:FE X Z e f)(hl:FP X Z lo l)(hu:FP X Z hi h):FE X Z (.Subscript e (.Slice lo hi none p2) pos) (slF f l h):=by
 refine AJ (Kv (SlR.or Sg (SlR.or Vy VB)) he hl hu) λU H Q ao => ?_
 obtain⟨F,B,fs,ok,s⟩:= ao;refine⟨F,B,fs,ok,Ay s λx ag F1 H1 u l1 ax rx s1=>⟨F1,B,ag,ax,Ax s1 λlo av F2 H2 lI l2 q2 s2=>?_⟩⟩;obtain⟨aO,rfl⟩:=q2;refine⟨F2,B,av,aO,Ax s2 λhi cw F3 H3 eJ l3 q3 s3=>?_⟩;obtain⟨dM,rfl⟩:=q3;have jC:=(rx.le l2).le l3;unfold Jm at s3;split at s3
 next ts e=>obtain⟨a,vs,rfl,hs,r⟩:=Bg dM jC e;exact .inl ⟨a,vs,rfl,hs,λp hp=>s3 _ _ (.ref p) (AN dM hp) (LA dM hp (K3 r))⟩
 .split at s3
  .rename_i ts _;obtain⟨a,vs,rfl,hs,r⟩:=Br jC rfl;by_cases hw:HT.sIx ts.length 0 lI=0/\HT.sIx ts.length ts.length eJ=ts.length
   .refine .inr (.inr ⟨a,vs,rfl,hs,by rw[r.len];exact hw,s3 F3 H3 _ Le.refl (RR.of dM ?_)⟩);have e:K4 ts lI eJ=ts:=by unfold K4;rw[hw.1,hw.2];simp
    rw[e];exact jC
   .exact .inr (.inl ⟨a,vs,rfl,hs,by rw[r.len];exact hw,λp hp=>s3 _ _ (.ref p) (AN dM hp) (C8 dM hp (K3 r))⟩)
  .exact s3.elim
end
noncomputable def Jl:T->Option (List T)
 |.lst ts=>some ts
 |.zY ts=>some ts
 |.tup ts=>some ts
 |_=>none
noncomputable def pairs:List T->List T->List T
 |x::xs,y::ys=>.tup [x,y]::pairs xs ys
 |_,_=>[]
theorem pairs_at:∀{xs ys:List T}{i:Nat}{t:T},(pairs xs ys)[i]?=some t->∃x y,xs[i]?=some x/\ys[i]?=some y/\t=.tup [x,y]
 | [],_,i,t,h=>by simp[pairs]at h
 |_::_,[],i,t,h=>by simp[pairs]at h
 |x::xs,y::ys,0,t,h=>by simp only[pairs,vI,Option.some.injEq]at h;exact⟨x,y,rfl,rfl,h.symm⟩
 |x::xs,y::ys,i+1,t,h=>by simp only[pairs,List.getElem?_cons_succ]at h;simpa using pairs_at h
theorem pairs_len:∀{xs ys:List T}{i:Nat},(pairs xs ys).length<=i->xs.length<=i\/ys.length<=i
 | [],_,i,h=>.inl (by simp)
 |_::_,[],i,h=>.inr (by simp)
 |x::xs,y::ys,0,h=>by simp[pairs]at h
 |x::xs,y::ys,i+1,h=>by simp only[pairs,uC,Nat.add_le_add_iff_right]at h;simpa using pairs_len h
theorem E7(r:Ar K F H t u)(e:Jl t=some ts):∃b a vs,u=.ref a/\Ad K F H ts vs/\∀(F':Wd)(H':Hp),(∀a,F a->F' a/\H' a=H a)->SqB b K H' a vs:=by
 unfold Jl at e;split at e
 .cases e;simp only[Ar]at r;obtain⟨a,vs,rfl,f,hs,r⟩:=r;exact⟨false,a,vs,rfl,r,λF' H' l=>SqL.of ((l a f).2.trans hs)⟩
 .cases e;simp only[Ar]at r;obtain⟨a,vs,rfl,hs,r⟩:=r;exact⟨false,a,vs,rfl,r,λF' H' l=>(StL.lf l hs).sq⟩
 .cases e;simp only[Ar]at r;obtain⟨a,vs,rfl,hs,r⟩:=r;exact⟨true,a,vs,rfl,r,λF' H' l=>SqT.of ((l a hs.2.1).2.trans hs.2.2)⟩
 .cases e
noncomputable def itZ(f g:FS->Out Rv):FS->Out (List T):=λfs=>(f fs).bnd λr fs=>(g fs).bnd λr' fs=>match r,r' with
 |.t x,.t y=>match Jl x,Jl y with|some xs,some ys=>.ok (pairs xs ys) fs|_,_=>.bad
 |_,_=>.bad
theorem Tr(h1:∀(F':Wd)(H':Hp),(∀a,F a->F' a/\H' a=H a)->SqB b1 K H' a1 vs)(h2:∀(F':Wd)(H':Hp),(∀a,F a->F' a/\H' a=H a)->SqB b2 K H' a2 ws)
  (r1:Ad K F H xs vs) (r2:Ad K F H ys ws):JOk K F H (Itz K b1 a1 b2 a2) (pairs xs ys):=by
 intro F' H' l ⟨B,fs,U,ok⟩ i;have q1:=Ad.lf l r1;have q2:=Ad.lf l r2;refine⟨λt et=>?_,λhl=>⟨vs,ws,h1 F' H' l,h2 F' H' l,by rw[r1.len,r2.len];exact pairs_len hl⟩⟩;obtain⟨x,y,ex,ey,rfl⟩:=pairs_at et;obtain⟨v,ev,rv⟩:=q1.at ex;obtain⟨w,ew,dP⟩:=q2.at ey;refine⟨⟨vs,ws,v,w,h1 F' H' l,h2 F' H' l,ev,ew⟩,λz fW hy=>?_⟩;obtain⟨T,vx,vy,hn,rfl,rfl,g1,g2⟩:=hy;have e1:=g1 vs (h1 F' H' l);have e2:=g2 ws (h2 F' H' l);rw[ev]at e1;rw[ew]at e2;cases e1;cases e2;refine⟨Ow F' T,⟨AN ok hn,λB fs U k=>k.alloc hn⟩,?_⟩;simp only[Ar];exact⟨T,[v,w],rfl,⟨rfl,.inr rfl,Ak⟩,by simp only[Ad];exact⟨v,[w],rfl,rv.le (AN ok hn),w,[],rfl,dP.le (AN ok hn),rfl⟩⟩
theorem XC(hm:X.mg "zip"=none)(ha:FE X Z a fa)(hb:FE X Z b fb)(hg:Gl X "zip":=by rfl)
  (hs:starEach [a,b] X.env=[(false,eval a X.env),(false,eval b X.env)]:=by rfl) (aY:starEach [b] X.env=[(false,eval b X.env)]:=by rfl):FI X Z (.Tuple bz k0 bJ) (.Call (.Name "zip" p) [a,b] [] pos) (itZ fa fb):=by
 refine Ij (V6 hg hm (Bs ha (Bs hb Dj aY) (by rw[hs,aY])) hs aY) λU H Q ao=>?_
 obtain⟨F,B,fs,ok,s⟩:= ao;refine⟨F,B,fs,ok,Ay s λr ag F1 H1 u l1 ax rx s1=>⟨F1,B,ag,ax,Ay s1 λr' av F2 H2 u' l2 aO ry s2=>?_⟩⟩;split at s2
 .rename_i x y;split at s2
  next xs ys e1 e2=>obtain⟨b1,a1,vs,rfl,q1,h1⟩:=E7 (Ar.le l2 rx) e1;obtain⟨b2,a2,ws,rfl,q2,h2⟩:=E7 ry e2;exact⟨b1,a1,b2,a2,rfl,⟨vs,h1 F2 H2 λ_ f=>⟨f,rfl⟩⟩,⟨ws,h2 F2 H2 λ_ f=>⟨f,rfl⟩⟩,s2 F2 H2 _ Le.refl ⟨aO,Tr h1 h2 q1 q2⟩⟩
  .exact s2.elim
 .exact s2.elim
noncomputable def YF(f:FS->Out Rv):FS->Out Rv:=λfs=>(f fs).bnd λr fs=>match r with|.t (.tup ts)=>okT (.tup ts.reverse) fs|_=>.bad
theorem NT{X:Cx}{Z:Xp}{a:Expr}{f:FS->Out Rv}{p1 p2 di aU:Pos}(hc:X.calm=true)(gC:X.mg "tuple"=none)(de:X.mg "reversed"=none)(ha:FE X Z a f)(iw:Gl X "tuple":=by rfl)(eI:Gl X "reversed":=by rfl)
  (he:starEach [(.Call (.Name "reversed" p2) [a] [] aU:Expr)] X.env=[(false,eval (.Call (.Name "reversed" p2) [a] [] aU) X.env)]:=by rfl) (jU:starEach [a] X.env=[(false,eval a X.env)]:=by rfl) :
  FE X Z (.Call (.Name "tuple" p1) [.Call (.Name "reversed" p2) [a] [] aU] [] di) (YF f):=by
 refine AJ (MU hc gC de ha iw eI he jU) λU H Q ao => ?_
 obtain⟨F,B,fs,ok,s⟩:= ao;refine⟨F,B,fs,ok,Ay s λr ag F1 H1 u l ax rx s1=>?_⟩;split at s1
 next ts=>obtain⟨a,vs,rfl,hs,q⟩:=Br (ts:=ts) rx rfl;exact⟨a,vs,rfl,hs,λd hd=>s1 _ _ (.ref d) (AN ax hd) (C8 ax hd q.rev)⟩
 .exact s1.elim
noncomputable def tyT:T->Option String
 |.o=>some "NoneType"
 |.v _=>some "bool"
 |.int _=>some "int"
 |.str _=>some "str"
 |.tup _=>some "tuple"
 |.lst _=>some "list"
 |.dT _ _=>some "dict"
 |_=>none
noncomputable def Jq:List String:=["NoneType","bool","int","str","tuple","list","dict"]
noncomputable def Vw(t T:String):Bool:=t==T||(t == "bool"&&T == "int")
def Kit(K:Fg)(T:String):Prop:=∀t,t∈Jq->kitOne K (.type t) (.type T)=some (Vw t T)
theorem Vm{K:Fg}{F:Wd}{H:Hp}{t:T}{u:V}{n:String}(r:Ar K F H t u)(e:tyT t=some n):Lo K H u (.type n)/\n∈Jq:=by
 cases t<;>simp only[tyT,Option.some.injEq,reduceCtorEq]at e<;>(try subst e)<;>(try simp only[Ar]at r)
 .subst r;exact⟨.o,by decide⟩
 .subst r;exact⟨.v _,by decide⟩
 .subst r;exact⟨.int _,by decide⟩
 .subst r;exact⟨.str _,by decide⟩
 .obtain⟨a,vs,rfl,hs,_⟩:=r;exact⟨.tup hs.2.2,by decide⟩
 .obtain⟨a,vs,rfl,f,hs,_⟩:=r;exact⟨.lst hs,by decide⟩
 .obtain⟨a,ah,rfl,f,hs,_⟩:=r;exact⟨.dT hs,by decide⟩
noncomputable def isF(T:String)(f:FS->Out Rv):FS->Out Rv:=λfs=>(f fs).bnd λr fs=>match r with
 |.t t=>match tyT t with|some n=>.ok (.t (.v (Vw n T))) fs|none=>.bad
 |_=>.bad
theorem NU{X:Cx}{Z:Xp}{a:Expr}{f:FS->Out Rv}{p p2 pos:Pos}{x:Str}{T:String}(k:Kit X.K T)(hb:bootBuiltins x=some (.type T))(hm:X.mg "isinstance"=none)(de:X.mg x=none)(ha:FE X Z a f)(hg:Gl X "isinstance":=by rfl)(eI:Gl X x:=by rfl)
  (hn:x≠"__name__":=by decide) (aQ:(x==("__debug__":Str))=false:=by decide)
  (hs:starEach [a,.Name x p2] X.env=(false,eval a X.env)::starEach [.Name x p2] X.env:=by rfl) (aY:starEach [.Name x p2] X.env=[(false,eval (.Name x p2) X.env)]:=by rfl) (aI:(backTo pos (starEach [.Name x p2] X.env)).any (·.1)=false:=by rfl) :
  FE X Z (.Call (.Name "isinstance" p) [a,.Name x p2] [] pos) (isF T f):=by
 refine AJ (EO (Ka T) hg hm boot_isinstance (Bs ha (Bs (MX (v:=.ty T) eI de hb rfl hn aQ) Dj aY) hs) (by decide) (by decide) hs aI) λU H Q ao=>?_
 obtain⟨F,B,fs,ok,s⟩:= ao;refine⟨F,B,fs,ok,Ay s λr ag F1 H1 u l1 ax rx s1=>?_⟩;split at s1
 .rename_i t;split at s1
  next n e=>obtain⟨ty,mem⟩:=Vm rx e;exact⟨u,_,_,rfl,ty,k n mem,s1 F1 H1 _ Le.refl (RR.of ax rfl)⟩
  .exact s1.elim
 .exact s1.elim
section
variable{K:Fg}
theorem To:Kit K "str":=λt h=>by simp only[Jq,uk,uI,or_false]at h;rcases h with rfl|rfl|rfl|rfl|rfl|rfl|rfl<;>rfl
end
noncomputable def E5:T->Option (List T)
 |.tup ts=>some ts
 |_=>none
theorem OL(e:E5 t=some ts):t=.tup ts:=by cases t<;>first|(cases e;rfl)|cases e
noncomputable def KW(f:T->T->Option Bool):List T->List T->Option Bool
 |x::xs,y::ys=>(f x y).bind λb=>(KW f xs ys).map (b&&·)
 |_,_=>some true
noncomputable def eqT:Nat->T->T->Option Bool
 |0,x,y=>(plV x).bind λu=>(plV y).map (eqV u)
 |n+1,x,y=>match E5 x with
  |some xs=>match E5 y with|some ys=>(KW (eqT n) xs ys).map (·&&xs.length==ys.length)|none=>(plV y).map λ_=>false
  |none=>match E5 y with
   |some _=>(plV x).map λ_=>false
   |none=>(plV x).bind λu=>(plV y).map (eqV u)
noncomputable def eAt(f:T->T->Option Bool)(xs ys:List T)(j:Nat):Bool:=(f (xs.getD j .o) (ys.getD j .o)).getD false
theorem Dd:∀{xs ys:List T}{b:Bool},KW f xs ys=some b->b=(List.range (min xs.length ys.length)).all (eAt f xs ys)
 | [],_,_,e=>by cases e;simp
 |_::_,[],_,e=>by cases e;simp
 |x::xs,y::ys,b,e=>by
  simp only[KW,uB,uc]at e;obtain⟨c,e1,d,e2,rfl⟩:=e;have ih:=Dd e2;rw[uC,uC,Nat.succ_min_succ,List.range_succ_eq_map,v7,List.all_map,ih];have h0:eAt f (x::xs) (y::ys) 0=c:=by simp[eAt,e1]
  rw[h0];congr 1
theorem J6:∀{xs ys:List T}{b:Bool},KW f xs ys=some b->∀(j:Nat)(x y:T),xs[j]?=some x->ys[j]?=some y->f x y=some (eAt f xs ys j)
 | [],_,_,e=>by intro j x y h;simp at h
 |_::_,[],_,e=>by intro j x y _ h;simp at h
 |x::xs,y::ys,b,e=>by simp only[KW,uB,uc]at e;obtain⟨c,e1,d,e2,rfl⟩:=e;intro j x' y' h1 h2;cases j with|zero =>simp only[vI,Option.some.injEq]at h1 h2;subst h1 h2;simp[eAt,e1]|succ j =>rw[List.getElem?_cons_succ]at h1 h2;have:=J6 e2 _ _ _ h1 h2;rw[this];simp[eAt]
theorem Qn(h:Ei v=true):eqV v v=true:=by cases v<;>first|rfl|(simp[eqV];done)|(simp[Ei]at h)
theorem Q8(rx:Ar K F H x v)(ry:Ar K F H y v)(e:((plV x).bind λu=>(plV y).map (eqV u))=some b):b=true:=by simp only[uB,uc]at e;obtain⟨u,e1,w,e2,rfl⟩:=e;have h1:=BC e1 rx;have h2:=BC e2 ry;subst h1 h2;exact Qn (Cc e1)
theorem Ih(e:plV x=some u)(r:Ar K F H x v):v≠.ref a:=by have h1:=BC e r;subst h1;have:=Cc e;intro h;subst h;cases this
theorem Cv(e:E5 t=some ts)(r:Ar K F H t v):∃a vs,v=.ref a/\StT K F H a vs/\Ad K F H ts vs:=by cases OL e;simpa only[Ar]using r
theorem KY:∀{n:Nat}{x y:T}{v:V}{b:Bool},eqT n x y=some b->Ar K F H x v->Ar K F H y v->b=true
 |0,x,y,v,b,e,rx,ry=>Q8 rx ry e
 |n+1,x,y,v,b,e,rx,ry=>by
  unfold eqT at e;cases e1:E5 x with
  |none =>rw[e1]at e;cases e2:E5 y with|none=>rw[e2]at e;exact Q8 rx ry e|some ys =>rw[e2]at e;obtain⟨a,vs,rfl,_⟩:=Cv e2 ry;obtain⟨u,e3,_⟩:=uc.mp e;exact absurd rfl (Ih e3 rx)
  |some xs =>
   rw[e1]at e;obtain⟨a,vs,rfl,sx,jD⟩:=Cv e1 rx;cases e2:E5 y with
   |none =>rw[e2]at e;obtain⟨u,e3,_⟩:=uc.mp e;exact absurd rfl (Ih e3 ry)
   |some ys =>
    rw[e2]at e;obtain⟨a',dU,ea,sy,jE⟩:=Cv e2 ry;cases ea;have hv:vs=dU:=by have:=sx.2.2.symm.trans sy.2.2;injection this with this;injection this
    subst hv;obtain⟨c,e3,rfl⟩:=uc.mp e;have hl:xs.length=ys.length:=by rw[<- jD.len,<- jE.len]
    rw[uq];refine⟨?_,by simp[hl]⟩;rw[Dd e3,uS];intro j hj;rw[vj]at hj;have h1:j<xs.length:=by lia
    have h2:j<ys.length:=by lia
    have g1:=tO h1;have g2:=tO h2;obtain⟨v1,q1,r1⟩:=jD.at g1;obtain⟨v2,q2,r2⟩:=jE.at g2;have:=by rw[q1]at q2;injection q2
    subst this;exact KY (J6 e3 _ _ _ g1 g2) r1 r2
section
variable{X:Cx}{aa:List (Addr×Obj)}{U:St}{H:Hp}{s:Shared}{F:Wd}
theorem KS(hl:s.heap.IsTuple l items)(hu:A.units<cLine)(ry:RelV y u)(fy:Ei y=true) :
  SeqAt.EqAt A s (.ref l) u false/\SeqAt.EqAt A s u (.ref l) false/\SeqAt.RcAt A s (.ref l) u false/\SeqAt.RcAt A s u (.ref l) false:=by
 cases y with|o=>cases ry;exact⟨.tuple_none hl hu,.none_tuple hl hu,.tuple_none hl hu,.none_tuple hl hu⟩|v b=>cases ry;exact⟨.tuple_bool _ hl hu,.bool_tuple _ hl hu,.tuple_bool _ hl hu,.bool_tuple _ hl hu⟩|int b=>obtain⟨t,rfl⟩:=ry;exact⟨.tuple_int _ _ hl hu,.int_tuple _ _ hl hu,.tuple_int _ _ hl hu,.int_tuple _ _ hl hu⟩|str b=>obtain⟨t,rfl⟩:=ry;exact⟨.tuple_str _ _ hl hu,.str_tuple _ _ hl hu,.tuple_str _ _ hl hu,.str_tuple _ _ hl hu⟩|_=>cases fy
theorem Ku(rx:Ar X.K F H x v)(ry:Ar X.K F H y w)(qx:RelV v u)(qy:RelV w u')(e:((plV x).bind λu=>(plV y).map (eqV u))=some b):SeqAt.EqAt A s u u' b:=by simp only[uB,uc]at e;obtain⟨p,e1,q,e2,rfl⟩:=e;have h1:=BC e1 rx;have h2:=BC e2 ry;subst h1 h2;exact RC qx qy (Cc e1) (Cc e2)
theorem items_eqAt(e:KW f xs ys=some b)(rx:Ad X.K F H xs vs)(ry:Ad X.K F H ys ws)(qx:Vals vs us)(qy:Vals ws us')
  (ih:∀{x y:T}{v w:V}{u u':Value}{b:Bool},f x y=some b->Ar X.K F H x v->Ar X.K F H y w->RelV v u->RelV w u'->SeqAt.EqAt A s u u' b) :
  ∀j (h1:j<us.toArray.size) (h2:j<us'.toArray.size),SeqAt.EqAt A s us.toArray[j] us'.toArray[j] (eAt f xs ys j):=by
 intro j h1 h2;have l1:=rx.len;have l2:=ry.len;have l3:=qx.length;have l4:=qy.length;rw[ua]at h1 h2;have g1:xs[j]?=some (xs[j]'(by lia)):=tO (by lia);have g2:ys[j]?=some (ys[j]'(by lia)):=tO (by lia);obtain⟨v,q1,r1⟩:=rx.at g1;obtain⟨w,q2,r2⟩:=ry.at g2;obtain⟨u,p1,o1⟩:=qx.get q1;obtain⟨u',p2,o2⟩:=qy.get q2;rw[tO h1]at p1;rw[tO h2]at p2;injection p1 with p1;injection p2 with p2;rw[show us.toArray[j]=us[j] by simp,show us'.toArray[j]=us'[j] by simp,p1,p2];exact ih (J6 e _ _ _ g1 g2) r1 r2 o1 o2
theorem IK(I:Inv X aa U H s):∀{n:Nat}{A:Around}{x y:T}{v w:V}{u u':Value}{b:Bool},A.units+n<cLine->eqT n x y=some b->Ar X.K F H x v->Ar X.K F H y w->RelV v u->RelV w u'->SeqAt.EqAt A s u u' b
 |0,A,x,y,v,w,u,u',b,hu,e,rx,ry,qx,qy=>Ku rx ry qx qy e
 |n+1,A,x,y,v,w,u,u',b,hu,e,rx,ry,qx,qy=>by
  have e0:=e;unfold eqT at e;cases e1:E5 x with
  |none =>rw[e1]at e;cases e2:E5 y with|none=>rw[e2]at e;exact Ku rx ry qx qy e|some ys =>rw[e2]at e;obtain⟨a,vs,rfl,st,_⟩:=Cv e2 ry;obtain⟨p,e3,rfl⟩:=uc.mp e;have h1:=BC e3 rx;subst h1;cases qy;obtain⟨aq,_,ht,_⟩:=I.tuple st.sq;exact(KS ht (by lia) qx (Cc e3)).2.1
  |some xs =>
   rw[e1]at e;obtain⟨a,vs,rfl,sx,jD⟩:=Cv e1 rx;cases qx;obtain⟨aq,vx,ht,_⟩:=I.tuple sx.sq;cases e2:E5 y with
   |none =>rw[e2]at e;obtain⟨p,e3,rfl⟩:=uc.mp e;have h1:=BC e3 ry;subst h1;exact(KS ht (by lia) qy (Cc e3)).1
   |some ys =>
    rw[e2]at e;obtain⟨a',dU,rfl,sy,jE⟩:=Cv e2 ry;cases qy;obtain⟨aS,h9,gF,_⟩:=I.tuple sy.sq;by_cases fA:a=a'
    .subst fA;rw[KY e0 rx ry];exact SeqAt.EqAt.same _
    .obtain⟨c,e3,rfl⟩:=uc.mp e;have l1:aq.length=xs.length:=by rw[<- vx.length,jD.len]
     have l2:aS.length=ys.length:=by rw[<- h9.length,jE.len]
     have:=SeqAt.RcAt.tuples ht gF (by lia) (items_eqAt e3 jD jE vx h9 (λh r1 r2 o1 o2=>IK I (A:=A.in1) (by show A.units+1+n<_;lia) h r1 r2 o1 o2));rw[ua,ua,l1,l2,<- Dd e3]at this;exact SeqAt.EqAt.of_refs fA this
end
noncomputable def eqB(neg:Bool)(xs ys:List T)(fs:FS):Out Rv:=match KW (eqT 60) xs ys with|some b=>okT (.v (if neg then !(b&&xs.length==ys.length)else(b&&xs.length==ys.length))) fs|none=>.bad
noncomputable def YH(neg:Bool):Rv->Rv->FS->Out Rv:=λx y fs=>match ME x with
 |some xs=>match ME y with|some ys=>eqB neg xs ys fs|none=>.bad
 |none=>match Df fs x with
  |some xs=>match Df fs y with|some ys=>eqB neg xs ys fs|none=>.bad
  |none=>.bad
def EqS(X:Cx)(neg:Bool)(H:Hp)(x y:V)(b:Bool):Prop:=∀(aa:List (Addr×Obj))(U:St)(s:Shared)(u w:Value),Inv X aa U H s->RelV x u->RelV y w ->
 if neg then SeqAt.RcNeAt X.A s u w (!b)else SeqAt.RcAt X.A s u w b
def Jbn(X:Cx)(neg:Bool):R2:=λx y H Q=>∃b,EqS X neg H x y b/\Q (.v (if neg then !b else b)) H
theorem Wt:OpR X (compareOp .NotEq) (Jbn X true):=by intro aa s U H x y v u Q I rx ry h;obtain⟨b,e,q⟩:=h;have e:=e aa U s v u I rx ry;exact e X.prog X.w X.xe _ ⟨.v (!b),H,I,rfl,q⟩
theorem Up(hu:X.A.units+61<cLine)(e:KW (eqT 60) xs ys=some b)(sx:SqT X.K H a vs)(sy:SqT X.K H a' ws)(rx:Ad X.K F H xs vs)(ry:Ad X.K F H ys ws) :
  EqS X neg H (.ref a) (.ref a') (b&&xs.length==ys.length):=by
 intro aa U s u w I qx qy;cases qx;cases qy;obtain⟨aq,vx,ht,_⟩:=I.tuple sx;obtain⟨aS,h9,gF,_⟩:=I.tuple sy;have l1:aq.length=xs.length:=by rw[<- vx.length,rx.len]
 have l2:aS.length=ys.length:=by rw[<- h9.length,ry.len]
 have he:=items_eqAt e rx ry vx h9 (λh r1 r2 o1 o2=>IK I (A:=X.A.in1) (by show X.A.units+1+60<_;lia) h r1 r2 o1 o2);cases neg with|false =>have:=SeqAt.RcAt.tuples ht gF (by lia) he;rw[ua,ua,l1,l2,<- Dd e]at this;exact this|true =>have:=SeqAt.RcNeAt.tuples ht gF (by lia) he;rw[ua,ua,l1,l2,<- Dd e]at this;exact this
theorem Uq(hu:X.A.units+61<cLine)(e:KW (eqT 60) xs ys=some b)(sx:SqL X.K H a vs)(sy:SqL X.K H a' ws)(rx:Ad X.K F H xs vs)(ry:Ad X.K F H ys ws) :
  EqS X neg H (.ref a) (.ref a') (b&&xs.length==ys.length):=by
 intro aa U s u w I qx qy;cases qx;cases qy;obtain⟨aq,vx,ht,_⟩:=I.list sx;obtain⟨aS,h9,gF,_⟩:=I.list sy;have l1:aq.length=xs.length:=by rw[<- vx.length,rx.len]
 have l2:aS.length=ys.length:=by rw[<- h9.length,ry.len]
 have he:=items_eqAt e rx ry vx h9 (λh r1 r2 o1 o2=>IK I (A:=X.A.in1) (by show X.A.units+1+60<_;lia) h r1 r2 o1 o2);by_cases hl:xs.length=ys.length
 .have hs:aq.toArray.size=aS.toArray.size:=by rw[ua,ua];lia
  have hb:(b&&xs.length==ys.length)=(List.range aq.toArray.size).all (eAt (eqT 60) xs ys):=by rw[Dd e,hl,Nat.min_self,ua,l1,hl];simp
  rw[hb];cases neg with|false=>exact SeqAt.RcAt.lists ht.isList gF.isList hs (by lia) he|true=>exact SeqAt.RcNeAt.lists ht.isList gF.isList hs (by lia) he
 .have hs:(aq.toArray.size !=aS.toArray.size)=true:=by rw[ua,ua,bne_iff_ne];lia
  have hb:(b&&xs.length==ys.length)=false:=by simp[hl]
  rw[hb];cases neg with|false=>exact SeqAt.RcAt.lists_lengths ht.isList gF.isList hs (by lia)|true=>exact SeqAt.RcNeAt.lists_lengths ht.isList gF.isList hs (by lia)
theorem WL(neg:Bool)(hu:X.A.units+61<cLine):OpF X.K Z (Jbn X neg) (YH neg):=by
 intro F B H U fs x y u w Q ok rx ry s;unfold YH at s;cases e1:ME x with
 |some xs =>rw[e1]at s;cases e2:ME y with|none=>rw[e2]at s;exact s.elim|some ys =>rw[e2]at s;obtain⟨a,vs,rfl,sx,r1⟩:=Br rx e1;obtain⟨a',ws,rfl,sy,r2⟩:=Br ry e2;simp only[eqB]at s;cases e3:KW (eqT 60) xs ys with|none=>rw[e3]at s;exact s.elim|some b =>rw[e3]at s;exact⟨_,Up hu e3 sx sy r1 r2,s F H _ Le.refl (RR.of ok rfl)⟩
 |none =>rw[e1]at s;cases e2:Df fs x with|none=>rw[e2]at s;exact s.elim|some xs =>rw[e2]at s;cases e3:Df fs y with|none=>rw[e3]at s;exact s.elim|some ys =>rw[e3]at s;obtain⟨a,vs,rfl,sx,r1⟩:=Bg ok rx e2;obtain⟨a',ws,rfl,sy,r2⟩:=Bg ok ry e3;simp only[eqB]at s;cases e4:KW (eqT 60) xs ys with|none=>rw[e4]at s;exact s.elim|some b =>rw[e4]at s;exact⟨_,Uq hu e4 sx sy r1 r2,s F H _ Le.refl (RR.of ok rfl)⟩
section
variable{X:Cx}{Z:Xp}{a b:Expr}{fa fb:FS->Out Rv}{pos:Pos}
end
noncomputable def Nz(fs:FS):Rv->Option Bool
 |.t t=>some (match t with|.o=>true|_=>false)
 |.n i=>match AD fs i with|some (.l _ _)=>some false|some (.lst _)=>some false|_=>none
 |.nw _=>none
noncomputable def Rn(neg:Bool):Rv->Rv->FS->Out Rv:=λx y fs=>match y with
 |.t .o=>match Nz fs x with|some b=>okT (.v (if neg then !b else b)) fs|none=>.bad
 |_=>.bad
theorem PB(ok:Okk K F B H fs U)(rx:Bz K F H U x u)(e:Nz fs x=some b):decide (u=V.o)=b:=by
 cases x with
 |t t =>have rx:Ar K F H t u:=rx;cases t with|o=>cases e;cases rx;rfl|v=>cases e;cases rx;rfl|int=>cases e;cases rx;rfl|str=>cases e;cases rx;rfl|ins=>cases e;simp only[Ar]at rx;obtain⟨a,dx,vs,rfl,_⟩:=rx;rfl|_=>cases e;simp only[Ar]at rx;obtain⟨a,vs,rfl,_⟩:=rx;rfl
 |nw o=>cases e
 |n i =>
  have e2:U[i]?=some (some u):=rx;simp only[Nz]at e;split at e
  .rename_i eo;cases e;obtain⟨v,L2,e1,q,_⟩:=ok.own eo;rw[e1]at e2;have e3:v=u:=by simpa using e2
   subst e3;simp only[Ao]at q;obtain⟨a,ah,rfl,_⟩:=q;rfl
  .rename_i eo;cases e;obtain⟨v,L2,e1,q,_⟩:=ok.own eo;rw[e1]at e2;have e3:v=u:=by simpa using e2
   subst e3;simp only[Ao]at q;obtain⟨a,ah,rfl,_⟩:=q;rfl
  .cases e
theorem Rg:OpF K Z (λx y H Q=>y=.o/\Q (.v (decide (x=.o))) H) (Rn false):=by
 intro F B H U fs x y u w Q ok rx ry s;unfold Rn at s;split at s
 .split at s
  next b e=>have hb:=PB ok rx e;have ry:=ry;refine⟨ry,?_⟩;rw[hb];exact s F H _ Le.refl (RR.of ok rfl)
  .exact s.elim
 .exact s.elim
section
variable{X:Cx}{Z:Xp}{a b:Expr}{fa fb:FS->Out Rv}{pos:Pos}
theorem X1(ha:FE X Z a fa)(hb:FE X Z b fb):FE X Z (.Compare a [.Is] [b] pos) (Af (Rn false) fa fb):=KU Rg Rc ha hb (Dl _)
theorem Xy(ha:FE X Z a fa)(hb:FE X Z b fb):FT X Z (.Compare a [.Is] [b] pos) (asB (Af (Rn false) fa fb)):=Dn Rg Rc ha hb (Dl _)
end
noncomputable def itD(f:FS->Out Rv):FS->Out (List T):=λfs=>(f fs).bnd λr fs=>match r with
 |.n i=>match fs[i]? with|some (some (.own (.l ks ts)))=>.ok (ks.map KH) (fs.set i (some (.val (.l ks ts))))|_=>.bad
 |.t (.x ks ts)=>.ok (ks.map KH) fs
 |_=>.bad
theorem Okk.frzD{K:Fg}{F:Wd}{B:Nat->Option V}{H:Hp}{fs:FS}{U:St}{i:Nat}{ks:List Key}{ts:List T}{u:V}(h:Okk K F B H fs U)(e:U[i]?=some (some u))(es:fs[i]?=some (some (.own (.l ks ts)))) :
  ∃a ah,u=.ref a/\H a=some (.l ah)/\ah.map (·.1)=ks/\∀o,Le F H (HI F [a]) (upd H a (.frz o (.l ah)))/\Okk K (HI F [a]) B (upd H a (.frz o (.l ah))) (fs.set i (some (.val (.l ks ts)))) U:=by
 obtain⟨L,o1⟩:=h;obtain⟨v,L1,L2,L3,e1,rfl,h1,h2⟩:=o1.sl.pick es;obtain⟨w,rfl,q2⟩:=h1;rw[e1]at e;have eu:w=u:=by simpa using e
 subst eu;have q3:=q2;simp only[Ao]at q3;obtain⟨a,ah,rfl,hd,rfl,q,rfl⟩:=q3;refine⟨a,ah,rfl,hd,rfl,λob=>?_⟩;have bP:=o1.nd;have na:∀b∈L1++L3,b≠a:=λb hb z=>by
  subst z;rw[tQ]at bP;rcases tW.mp hb with m|m
  .exact bP.2.2 b m b (by simp) rfl
  .exact(tQ.mp bP.2.1).2.2 b (by simp) b m rfl
 have l2:Le F H (HI F [a]) (upd H a (.frz ob (.l ah))):=⟨λb f=>⟨.inl f,Aj λz=>o1.nf b (by subst z;simp) f⟩,λb f=>⟨f,Aj λz=>o1.pl b (by subst z;simp) f⟩⟩
 have r2:Ar K (HI F [a]) (upd H a (.frz ob (.l ah))) (.l (ah.map (·.1)) ts) (.ref a):=by simp only[Ar];exact⟨a,ah,rfl,.inr (by simp),.inr ⟨ob,Ak⟩,rfl,q.le l2⟩
 refine⟨l2,L1++([]++L3),?_⟩;have h3:=h2 (HI F [a]) (upd H a (.frz ob (.l ah))) (some (.val (.l (ah.map (·.1)) ts))) (some (.ref a)) [] l2 (λb hb=>Aj (na b hb)) ⟨.ref a,rfl,r2,rfl⟩;rw[A5 e1]at h3;refine⟨h3,BD bP uF (λ_ m=>nomatch m),λb m z=>?_,λb z=>?_,?_,λb z=>?_,λb z=>?_,λb m=>o1.pl b ?_⟩
 .have m':b∈L1\/b∈L3:=by simpa using m
  rcases z with z|z
  .exact o1.nf b (by rcases m' with m|m<;>simp[m]) z
  .exact na b (by rcases m' with m|m<;>simp[m]) (by simpa using z)
 .rcases z with z|z
  .rw[Aj λy=>o1.nf b (by subst y;simp) z];exact o1.fd b z
  .have:b=a:=by simpa using z
   subst this;rw[Ak];exact λy=>nomatch y
 .have:=En.put (i:=i) (s:=some (.val (.l (ah.map (·.1)) ts))) (v:=some (.ref a)) o1.bo (λo eo=>by cases eo) o1.sl.len;rwa[A5 e1]at this
 .rw[Aj λy=>o1.pl b (by subst y;simp) z];exact o1.pd b z
 .rcases z with z|z
  .exact o1.pf b z
  .have:b=a:=by simpa using z
   subst this;exact o1.pl b (by simp)
 .have m':b∈L1\/b∈L3:=by simpa using m
  rcases m' with m|m<;>simp[m]
theorem KN{K:Fg}{F:Wd}{H:Hp}{a:Addr}{o:Obj}{ah:List (Key×V)}(f:F a)(e:H a=some (.frz o (.l ah))):JOk K F H (Itd a o ah) ((ah.map (·.1)).map KH):=by
 intro F' H' l _ i;have e':H' a=some (.frz o (.l ah)):=(l a f).2.trans e;refine⟨λt et=>?_,λhl=>⟨e',by simpa using hl⟩⟩;have hi:i<ah.length:=by have:=(tX.mp et).1;simpa using this
 refine⟨⟨e',hi⟩,λx fW hy=>stays hy.1 ?_⟩;obtain⟨k,ek,rfl⟩:=hy.2;rw[ux,ek]at et;cases et;cases k<;>rfl
theorem Ub{X:Cx}{Z:Xp}{tg l:Expr}{f:FS->Out Rv}(hl:FE X Z l f):FI X Z tg l (itD f):=by
 refine Ij (Pa hl) λU H Q ao => ?_
 obtain⟨F,B,fs,ok,s⟩:= ao;refine⟨F,B,fs,ok,Ay s λr ag F1 H1 u l ax rx s1=>?_⟩;split at s1
 .rename_i i;split at s1
  next ks ts es=>obtain⟨a,ah,rfl,hd,rfl,k⟩:=ax.frzD rx es;refine⟨a,ah,rfl,.inl ⟨hd,λo=>?_⟩⟩;obtain⟨l2,aO⟩:=k o;exact s1 _ _ (Itd a o ah) l2 ⟨aO,KN (.inr (by simp)) Ak⟩
  .exact s1.elim
 .simp only[Bz,Ar]at rx;obtain⟨a,ah,rfl,f,⟨o,hd⟩,rfl,r⟩:=rx;exact⟨a,ah,rfl,.inr ⟨o,hd,s1 _ _ (Itd a o ah) Le.refl ⟨ax,KN f hd⟩⟩⟩
 .exact s1.elim
noncomputable def HA(fs:FS):Rv->Option (List Key×List T)
 |.t (.l ks ts)=>some (ks,ts)
 |.t (.x ks ts)=>some (ks,ts)
 |.n i=>match AD fs i with|some (.l ks ts)=>some (ks,ts)|_=>none
 |_=>none
theorem EW{K:Fg}{B:Nat->Option V}{F:Wd}{H:Hp}{U:St}{fs:FS}{x:Rv}{u:V}{ks:List Key}{ts:List T}(h:Okk K F B H fs U)(rx:Bz K F H U x u)(e:HA fs x=some (ks,ts)) :
  ∃a ah,u=.ref a/\Rd H a (.l ah)/\ah.map (·.1)=ks/\Ad K F H ts (ah.map (·.2)):=by
 unfold HA at e;split at e
 .cases e;simp only[Bz,Ar]at rx;obtain⟨a,ah,rfl,f,hd,rfl,r⟩:=rx;exact⟨a,ah,rfl,hd,rfl,r⟩
 .cases e;simp only[Bz,Ar]at rx;obtain⟨a,ah,rfl,f,⟨ob,hd⟩,rfl,r⟩:=rx;exact⟨a,ah,rfl,.inr ⟨ob,hd⟩,rfl,r⟩
 .rename_i i;have e2:U[i]?=some (some u):=rx;split at e
  .rename_i eo;cases e;obtain⟨v,L2,e1,q,_⟩:=h.own eo;rw[e1]at e2;have e3:v=u:=by simpa using e2
   subst e3;simp only[Ao]at q;obtain⟨a,ah,rfl,hd,rfl,r,_⟩:=q;exact⟨a,ah,rfl,.inl hd,rfl,r⟩
  .cases e
 .cases e
noncomputable def eqD(hJ:List Key)(dk:List T):List Key->List T->Option Bool
 |k::ks,t::ts=>match BR hJ dk k with|none=>some false|some t'=>(eqT 60 t t').bind λb=>(eqD hJ dk ks ts).map (b&&·)
 |_,_=>some true
noncomputable def Xr(neg:Bool):Rv->Rv->FS->Out Rv:=λx y fs=>match HA fs x with
 |some (ks,ts)=>match HA fs y with
  |some (hJ,dk)=>match eqD hJ dk ks ts with|some r=>okT (.v (if neg then !(ks.length==hJ.length&&r)else(ks.length==hJ.length&&r))) fs|none=>.bad
  |none=>.bad
 |none=>.bad
theorem NF{X:Cx}{aa:List (Addr×Obj)}{U:St}{H:Hp}{s:Shared}{F:Wd}{A:Around}(I:Inv X aa U H s)(hu:A.units+60<cLine){fN:List (Key×V)}{dU:List (Key×Value)}{dk:List T}(fS:KV fN dU)(kh:Ad X.K F H dk (fN.map (·.2))) :
  ∀{ah:List (Key×V)}{vs:List (Key×Value)}{ts:List T}{r:Bool},KV ah vs->Ad X.K F H ts (ah.map (·.2))->eqD (fN.map (·.1)) dk (ah.map (·.1)) ts=some r->PySem.W.KeqHits A s dU vs r
 | [],[],[],r,_,_,e=>by cases e;exact .nil
 | [],[],t::ts,r,_,rt,e=>by have:=rt.len;simp at this
 |(k,v)::ah,(k',u)::vs,[],r,_,rt,e=>by have:=rt.len;simp at this
 |(k,v)::ah,(k',u)::vs,t::ts,r,aJ,rt,e=>by
  cases aJ with
  |cons h tl =>
   obtain⟨h1,h2⟩:=h;have h1:k=k':=h1;have h2:RelV v u:=h2;subst h1;simp only[tR,Ad]at rt;obtain⟨v0,r0,e0,r8,sd⟩:=rt;cases e0;simp only[tR,eqD]at e;have q:=fS.val k;rcases EH (j:=k) kh with⟨g1,g2⟩|⟨t',v',g1,g2,g3⟩
   .rw[g1]at e;cases e;rw[g2]at q;refine .miss ?_;cases hx:valueAt dU k with|none=>rfl|some x=>rw[hx]at q;exact q.elim
   .rw[g1]at e;simp only[uB,uc]at e;obtain⟨b,e1,r',e2,rfl⟩:=e;rw[g2]at q;cases hx:valueAt dU k with|none=>rw[hx]at q;exact q.elim|some y =>rw[hx]at q;exact .hit hx (IK I hu e1 r8 g3 h2 q) (NF I hu fS kh tl sd e2)
def EqO(X:Cx)(neg:Bool)(H:Hp)(x y:V)(b:Bool):Prop:=∀(aa:List (Addr×Obj))(U:St)(s:Shared)(u w:Value)(Q:Value->Shared->Prop)(E:Value->Shared->Prop),Inv X aa U H s->RelV x u->RelV y w->Q (.bool b) s ->
 wpAny (model X.prog X.w) X.A (compareOp (if neg then .NotEq else .Eq) u w) Q E s
def Jbo(X:Cx)(neg:Bool):R2:=λx y H Q=>∃b,EqO X neg H x y b/\Q (.v b) H
theorem Wu{X:Cx}:OpR X (compareOp .NotEq) (Jbo X true):=by intro aa s U H x y v u Q I rx ry h;obtain⟨b,e,q⟩:=h;exact e aa U s v u _ _ I rx ry ⟨.v b,H,I,rfl,q⟩
theorem WM{X:Cx}{Z:Xp}(neg:Bool)(hu:X.A.units+61<cLine):OpF X.K Z (Jbo X neg) (Xr neg):=by intro F B H U fs x y u w Q ok rx ry s;unfold Xr at s;cases e1:HA fs x with|none=>rw[e1]at s;exact s.elim|some p =>obtain⟨ks,ts⟩:=p;rw[e1]at s;cases e2:HA fs y with|none=>rw[e2]at s;exact s.elim|some p =>obtain⟨hJ,dk⟩:=p;rw[e2]at s;dsimp only at s;cases e3:eqD hJ dk ks ts with|none=>rw[e3]at s;exact s.elim|some r =>rw[e3]at s;obtain⟨a,ah,rfl,hd,rfl,rt⟩:=EW ok rx e1;obtain⟨a',fN,rfl,fG,rfl,kh⟩:=EW ok ry e2;refine⟨_,?_,s F H _ Le.refl (RR.of ok rfl)⟩;intro aa au sh u w Q' E' I qx qy q;cases qx;cases qy;obtain⟨z,hS,vs,aJ,dd⟩:=Gn I.z9 hd;obtain⟨z',gU,dU,fS,eS⟩:=Gn I.z9 fG;have l1:ah.length=vs.length:=Paired.length aJ;have l2:fN.length=dU.length:=Paired.length fS;rw[tZ,tZ,l1,l2]at q;have hits:=NF (A:=X.A.in1) I (by show X.A.units+1+60<_;lia) fS kh aJ rt e3;cases neg with|false=>exact PySem.W.keq_eq hS gU dd eS (by lia) (λ_=>hits) q|true=>exact PySem.W.keq_ne hS gU dd eS (by lia) (λ_=>hits) q
noncomputable def JaG(neg:Bool):=orG (gEq neg) (orG (YH neg) (Xr neg))
section
variable{X:Cx}{Z:Xp}{a b:Expr}{fa fb:FS->Out Rv}{pos:Pos}
theorem Xx(hu:X.A.units+61<cLine)(ha:FE X Z a fa)(hb:FE X Z b fb):FT X Z (.Compare a [.NotEq] [b] pos) (asB (Af (JaG true) fa fb)):=Dn (OpF.or WH (OpF.or (WL true hu) (WM true hu))) (OpR.orR Wv (OpR.orR Wt Wu)) ha hb (Dl _)
end
theorem Jbu(hr:C7 k A):A.units+61<cLine:=by have:=hr.units;lia
section
variable{X:Cx}{Z:Xp}{a b:Expr}{fa fb:FS->Out Rv}{pos:Pos}
end
section
variable{K:Fg}{Z:Xp}
noncomputable def GN:List Rv->FS->Out Rv
 | [x],fs=>match HA fs x with|some p=>.ok (.nw (.l p.1 p.2)) fs|none=>.bad
 |_,_=>.bad
theorem Qz:Ct K Z (λxs H Q=>∃a ah,xs=[.ref a]/\Rd H a (.l ah)/\∀l,H l=none->Q (.ref l) (upd H l (.l ah))) GN:=by
 intro F B H U fs rs vs Q ok q s;unfold GN at s;split at s
 .obtain⟨v,rfl,qq⟩:=A7 q;split at s
  next p e=>obtain⟨a,ah,rfl,hd,ek,r⟩:=EW (ks:=p.1) (ts:=p.2) ok qq e;refine⟨a,ah,rfl,hd,λl hl=>s F _ (.ref l) (AE ok hl) (RR.alloc ok hl ?_)⟩;simp only[Ao];exact⟨l,ah,rfl,Ak,ek,r.le (AE ok hl),rfl⟩
  .exact s.elim
 .exact s.elim
noncomputable def GL:List Rv->FS->Out Rv
 | [x],fs=>match HA fs x with|some p=>.ok (.nw (.lst (p.1.map KH))) fs|none=>.bad
 |_,_=>.bad
theorem Qx:Ct K Z (λxs H Q=>∃p ah,xs=[.ref p]/\Rd H p (.l ah)/\∀l,H l=none->Q (.ref l) (upd H l (.lst (ah.map λkv=>kV kv.1)))) GL:=by
 intro F B H U fs rs vs Q ok q s;unfold GL at s;split at s
 .obtain⟨v,rfl,qq⟩:=A7 q;split at s
  .rename_i p e;obtain⟨a,ah,rfl,hd,ek,r⟩:=EW (ks:=p.1) (ts:=p.2) ok qq e;refine⟨a,ah,rfl,hd,λl hl=>s F _ (.ref l) (AE ok hl) (RR.alloc ok hl (Cb Ak ?_))⟩;have e:(ah.map λkv=>kV kv.1)=(ah.map (·.1)).map kV:=by rw[uD];rfl
   rw[e,<- ek];exact ER _
  .exact s.elim
 .exact s.elim
end
section
variable{X:Cx}{Z:Xp}{a:Expr}{f:FS->Out Rv}{fa:FS->Out (List Rv)}{p p1 p2 pos di aU:Pos}
theorem Qk(hm:X.mg "dict"=none)(ha:FA X Z [a] fa)(hg:Gl X "dict":=by rfl)(he:starEach [a] X.env=[(false,eval a X.env)]:=by rfl):FE X Z (.Call (.Name "dict" p) [a] [] pos) (Ac GN fa) :=
 C0 Qz Mb hm boot_dict ha (hg:=hg) (he:=he)
theorem Qh(hc:X.calm=true)(hm:X.mg "list"=none)(ha:FA X Z [a] fa)(hg:Gl X "list":=by rfl)(he:starEach [a] X.env=[(false,eval a X.env)]:=by rfl):FE X Z (.Call (.Name "list" p) [a] [] pos) (Ac GL fa) :=
 C0 Qx (C6 hc) hm boot_list ha (hg:=hg) (he:=he)
end
noncomputable def fzD(f:FS->Out Rv):FS->Out Rv:=λfs=>(f fs).bnd λr fs=>match r with
 |.n i=>match fs[i]? with|some (some (.own (.l ks ts)))=>.ok (.t (.x ks ts)) (fs.set i (some (.val (.x ks ts))))|_=>.bad
 |_=>.bad
theorem Okk.frzF(h:Okk K F B H fs U)(e:U[i]?=some (some u))(es:fs[i]?=some (some (.own (.l ks ts)))) :
  ∃a ah,u=.ref a/\H a=some (.l ah)/\ah.map (·.1)=ks/\∀o,Le F H (HI F [a]) (upd H a (.frz o (.l ah)))/\Okk K (HI F [a]) B (upd H a (.frz o (.l ah))) (fs.set i (some (.val (.x ks ts)))) U/\Ar K (HI F [a]) (upd H a (.frz o (.l ah))) (.x ks ts) (.ref a):=by
 obtain⟨L,o1⟩:=h;obtain⟨v,L1,L2,L3,e1,rfl,h1,h2⟩:=o1.sl.pick es;obtain⟨w,rfl,q2⟩:=h1;rw[e1]at e;have eu:w=u:=by simpa using e
 subst eu;have q3:=q2;simp only[Ao]at q3;obtain⟨a,ah,rfl,hd,rfl,q,rfl⟩:=q3;refine⟨a,ah,rfl,hd,rfl,λob=>?_⟩;have bP:=o1.nd;have na:∀b∈L1++L3,b≠a:=λb hb z=>by
  subst z;rw[tQ]at bP;rcases tW.mp hb with m|m
  .exact bP.2.2 b m b (by simp) rfl
  .exact(tQ.mp bP.2.1).2.2 b (by simp) b m rfl
 have l2:Le F H (HI F [a]) (upd H a (.frz ob (.l ah))):=⟨λb f=>⟨.inl f,Aj λz=>o1.nf b (by subst z;simp) f⟩,λb f=>⟨f,Aj λz=>o1.pl b (by subst z;simp) f⟩⟩
 have r2:Ar K (HI F [a]) (upd H a (.frz ob (.l ah))) (.x (ah.map (·.1)) ts) (.ref a):=by simp only[Ar];exact⟨a,ah,rfl,.inr (by simp),⟨ob,Ak⟩,rfl,q.le l2⟩
 refine⟨l2,⟨L1++([]++L3),?_⟩,r2⟩;have h3:=h2 (HI F [a]) (upd H a (.frz ob (.l ah))) (some (.val (.x (ah.map (·.1)) ts))) (some (.ref a)) [] l2 (λb hb=>Aj (na b hb)) ⟨.ref a,rfl,r2,rfl⟩;rw[A5 e1]at h3;refine⟨h3,BD bP uF (λ_ m=>nomatch m),λb m z=>?_,λb z=>?_,?_,λb z=>?_,λb z=>?_,λb m=>o1.pl b ?_⟩
 .have m':b∈L1\/b∈L3:=by simpa using m
  rcases z with z|z
  .exact o1.nf b (by rcases m' with m|m<;>simp[m]) z
  .exact na b (by rcases m' with m|m<;>simp[m]) (by simpa using z)
 .rcases z with z|z
  .rw[Aj λy=>o1.nf b (by subst y;simp) z];exact o1.fd b z
  .have:b=a:=by simpa using z
   subst this;rw[Ak];exact λy=>nomatch y
 .have:=En.put (i:=i) (s:=some (.val (.x (ah.map (·.1)) ts))) (v:=some (.ref a)) o1.bo (λo eo=>by cases eo) o1.sl.len;rwa[A5 e1]at this
 .rw[Aj λy=>o1.pl b (by subst y;simp) z];exact o1.pd b z
 .rcases z with z|z
  .exact o1.pf b z
  .have:b=a:=by simpa using z
   subst this;exact o1.pl b (by simp)
 .have m':b∈L1\/b∈L3:=by simpa using m
  rcases m' with m|m<;>simp[m]
theorem X4{X:Cx}{Z:Xp}{e:Expr}{f:FS->Out Rv}(h:FE X Z e f):FE X Z e (fzD f):=by
 refine AJ (Wj h) λU H Q ao => ?_
 obtain⟨F,B,fs,ok,s⟩:= ao;refine⟨F,B,fs,ok,Ay s λr ag F1 H1 u l ax rx s1=>?_⟩;split at s1
 .rename_i i;split at s1
  next ks ts es=>obtain⟨a,ah,rfl,hd,rfl,k⟩:=ax.frzF rx es;refine⟨a,ah,rfl,hd,λo=>?_⟩;obtain⟨l2,aO,r2⟩:=k o;exact s1 _ _ (.ref a) l2 (RR.of aO r2)
  .exact s1.elim
 .exact s1.elim
inductive EZ(K:Fg)(Z:Xp)(cv:Value)(U:St)(H:Hp):Prop
 |mk (F:Wd) (B:Nat->Option V) (fs:FS) (c:Str) (C:Addr) (h0:Cz K c=some C) (h1:cv=.ref C) (h2:Okk K F B H fs U) (h3:Z.p F B H c fs)
def Lks(X:Cx)(Z:Xp):Prop:=Lk X (EZ X.K Z)
theorem Lks.no:Lks X Xp.no:=λ_ _ _ _ _ _ _ ⟨_,_,_,_,_,_,_,_,_,_,_,⟨_,_,_,_,_,_,_,_,z⟩⟩=>z.elim
structure LkD(X:Cx)(Z:Xp):Prop where
 d:Oy X
 k:∀e s,XW X (EZ X.K Z) e s->X.xe e s
 own:PassesOwn (model X.prog X.w) X.A X.env X.xe
theorem LkD.lk(l:LkD X Z):Lks X Z:=Lk.of l.d.ex l.k
noncomputable def Zd(K:Fg)(E:XK):Xp:=⟨λF B H c fs=>∀C,Cz K c=some C->∀F' H' au,Le F H F' H'->Okk K F' B H' fs au->E (.ref C) none H',λh l C hC F' H' au l' k=>h C hC F' H' au (l.trans l') k⟩
def spX(K:Fg)(p:Nat)(Fn:FS->Out Rv):Sp:=λvs H Q E=>vs.length=p/\∃F bW,Okk K F (Bof (vs.map some)) H bW (vs.map some)/\match Fn bW with|.ok r τ=>∀F' H' u au,Le F H F' H'->RR K (Bof (vs.map some)) au F' H' τ r u->Q u H'|.exc c τ=>∀C,Cz K c=some C->∀F' H' au,Le F H F' H'->Okk K F' (Bof (vs.map some)) H' τ au->E (.ref C) none H'|.bad=>False
def GS0(X:Cx)(Z:Xp)(st:Stmt)(g:FS->SO):Prop:=PS0 X st (tSt X.K Z g)
def YN(X:Cx)(Z:Xp)(l7:List Stmt)(g:FS->SO):Prop:=QK X l7 (tSt X.K Z g)
section
variable{X:Cx}{Z:Xp}{st:Stmt}{rest:List Stmt}{g h:FS->SO}
theorem GS.zero(q:GS X Z st g):GS0 X Z st g:=PS.zero q
theorem GSs.zero(q:GSs X Z rest g):YN X Z rest g:=PSs.zero q
theorem AF(h1:GS0 X Z st g)(h2:YN X Z rest h):YN X Z (st::rest) (Al g h):=by
 intro s0 U H D I q;refine MM h1 h2 s0 U H D I ?_;obtain⟨F,B,fs,ok,s⟩:=q;refine⟨F,B,fs,ok,?_⟩;unfold Al at s;cases e:g fs with
 |nx ag =>rw[e]at s;exact λF1 H1 iK l k=>⟨F1,B,ag,k,Gy.le s l⟩
 |ret r ag=>rw[e]at s;exact s
 |brk ag=>rw[e]at s;exact s
 |cnt ag=>rw[e]at s;exact s
 |exc c ag=>rw[e]at s;exact s
 |bad=>rw[e]at s;exact s
end
section
variable{P:Program}{w:World}{K:Fg}{mg:Str->Option Value}{base:Heap}
theorem Es(Fu:Fun K x qual st f fd)(S:HL N ps (Be st))(p n:Nat)(hp:ps.length=p)(hn:N.length=p+n)
  (hb:∀cdv (A:Around) outer (s:Shared) H E E' (Z:Xp),C7 k (A.deeper (envOfC qual (Be st) s.heap.objs.size f cdv))->LkD ((L7 (CX1 P w) P w K mg base N qual (Be st) f cdv A outer s H E).E3 E') Z ->
   YN ((L7 (CX1 P w) P w K mg base N qual (Be st) f cdv A outer s H E).E3 E') Z (Dx st) g):CS P w K mg base (CX1 P w) (k+1) f fd ps (spX K p (Bq n g)):=by
 refine Fu.ok0 S (λvs H Q E h=>by rw[h.1,hp]) (λcdv A outer s H vs Q E hr h=>⟨_,hb cdv A outer s H E _ (Zd K E) hr ⟨⟨rfl,rfl,rfl,rfl⟩,λe s q=>?_,XW.own Yl⟩,?_⟩)
 .refine XW.imp (XW.E3 q) λc U H z=>?_
  obtain⟨F,B,fs,c,C,hC,rfl,ok,z⟩:=z;exact z C hC F H U Le.refl ok
 obtain⟨hl,F,bW,⟨L,ok⟩,h⟩:=h;have mW:bW.length=p:=by rw[<- ok.sl.len,tZ];exact hl
 have es:L2.start N vs=vs.map some++List.replicate n none:=by unfold L2.start;rw[hl,hn,Nat.add_sub_cancel_left]
 rw[es];refine⟨F,Bof (vs.map some),bW++List.replicate n none,⟨L,ok.more n⟩,?_⟩;unfold Bq at h;cases e:g (bW++List.replicate n none)with
 |nx τ =>rw[e]at h;intro F' H' au l k;exact h F' H' .o (au.take bW.length) l (RR.take (RR.of (r:=.t .o) k rfl) _ (λi z=>nomatch z))
 |ret r τ =>
  rw[e]at h;intro F' H' au u l k;cases r with
  |t t=>exact h F' H' u (au.take bW.length) l (RR.take k _ (λi z=>nomatch z))
  |nw o=>exact h F' H' u (au.take bW.length) l (RR.take k _ (λi z=>nomatch z))
  |n i =>
   dsimp only at h;split at h
   .rename_i r' km e2;split at e2
    next o eo=>cases e2;exact h F' H' u (au.take bW.length) l (RR.take (RR.mv k eo) _ (λi z=>nomatch z))
    .cases e2
   .rename_i c km e2;split at e2
    .cases e2
    .cases e2
   .exact h.elim
 |brk τ=>rw[e]at h;exact h.elim
 |cnt τ=>rw[e]at h;exact h.elim
 |exc c τ =>rw[e]at h;intro C hC F' H' au l k;exact h C hC F' H' (au.take bW.length) l (RR.take (RR.of (r:=.t .o) k rfl) _ (λi z=>nomatch z)).ok
 |bad=>rw[e]at h;exact h.elim
end
noncomputable def GR(Fn:FS->Out Rv)(rs:List Rv)(fs:FS):Out Rv :=
 if(DC fs (rs.map AW)).Nodup then(match Fn (BU fs (rs.map AW))with|.ok (.t t) τ=>(match Dz (rs.map AW) τ fs with|some ar=>.ok (.t t) ar|none=>.bad)|.ok (.nw o) τ=>(match Dz (rs.map AW) τ fs with|some ar=>.ok (.nw o) ar|none=>.bad)|.exc c τ=>(match Dz (rs.map AW) τ fs with|some ar=>.exc c ar|none=>.bad)|_=>.bad)else .bad
noncomputable def Ah(p:Nat)(Fn:FS->Out Rv):List Rv->FS->Out Rv:=λrs fs=>if rs.length=p then GR Fn rs fs else .bad
section
variable{K:Fg}{F F':Wd}{H H':Hp}{B:Nat->Option V}{fs:FS}{U:St}{rs:List Rv}{vs:List V}{Z:Xp}{Q:VK}{Fn:FS->Out Rv}
theorem I0(q:RAn K B U F H fs rs vs)(s:sat Z B (RR K B U) F H (GR Fn rs fs) Q):spX K rs.length Fn vs H Q λc _ H'=>EZ K Z c U H':=by
 unfold GR at s;split at s
 .rename_i nd;obtain⟨L9,μ,ok,eQ,hl,hi⟩:=NB q;obtain⟨Pp,p1,p2,p3,p4⟩:=lend ok hl hi nd eQ;refine⟨q.len,⟨F.f,Pp⟩,BU fs (rs.map AW),p2,?_⟩;split at s
  .rename_i t τ e;rw[e];split at s
   next ar eb=>intro F' H' u au l k;obtain⟨Li,L',o1,⟨_,r⟩,_⟩:=k;obtain⟨le,L,o2,_⟩:=p4 F' H' τ au Li ar l o1 eb;exact s ⟨F'.f,F.p⟩ H' u le (RR.of ⟨L,o2⟩ (Ar.wp r))
   .exact s.elim
  .rename_i o τ e;rw[e];split at s
   .rename_i ar eb;intro F' H' u au l k;obtain⟨Li,L',o1,r,nd,nf⟩:=k;obtain⟨le,L,o2,sub⟩:=p4 F' H' τ au Li ar l o1 eb;refine s ⟨F'.f,F.p⟩ H' u le ⟨L,L',o2,Ao.wp r,?_,λa m=>⟨(nf a m).1,λp=>(nf a m).2 (l.p a (p1 a p)).1⟩⟩;rw[tQ]at nd ⊢;refine⟨o2.nd,nd.2.1,λa ha b hb e=>?_⟩;rcases sub a ha with z|z
    .exact nd.2.2 a z b hb e
    .exact(nf b hb).2 (l.p b (e▸z)).1
   .exact s.elim
  .rename_i c τ e;rw[e];split at s
   next ar eb=>intro C hC F' H' au l k;obtain⟨Li,o1⟩:=k;obtain⟨le,L,o2,_⟩:=p4 F' H' τ au Li ar l o1 eb;exact⟨⟨F'.f,F.p⟩,B,ar,c,C,hC,rfl,⟨L,o2⟩,Z.mono s le⟩
   .exact s.elim
  .exact s.elim
 .exact s.elim
end
section
variable{X:Cx}{Z:Xp}{x:Str}{k p:Nat}{ps:List Str}{Fn:FS->Out Rv}{e:Expr}{es:List Expr}{fa:FS->Out (List Rv)}{pp pos np aA:Pos}{C:Addr}
theorem X5(G:FnAt X.prog X.w X.K X.mg X.base (CX1 X.prog X.w) x k ps (spX X.K p Fn))(hr:C7 k X.A)(lk:Lks X Z)(ha:FAn X Z (e::es) fa)(hg:Gl X x:=by rfl)(aQ:(x==("__debug__":Str))=false:=by decide)
  (he:starEach (e::es) X.env=(false,eval e X.env)::starEach es X.env:=by rfl) (aI:(backTo pos (starEach es X.env)).any (·.1)=false:=by rfl):FE X Z (.Call (.Name x pp) (e::es) [] pos) (Ac (Ah p Fn) fa):=by
 refine AJ (Wm G hr lk ha hg aQ he aI) λU H Q ao => ?_
 obtain⟨F,B,fs,ok,s⟩:= ao;refine⟨F,B,fs,ok,Ax s λrs ag F1 H1 us l q s1=>?_⟩;unfold Ah at s1;split at s1
 next hp=>rw[<- hp];exact I0 q s1
 .exact s1.elim
structure YD(K:Fg)(mg:Str->Option Value)(x:Str):Prop where
 ex:∃C,mg x=some (.ref C)/\Cz K x=some C/\excIn K C UU "ValueError.__new__"=true
noncomputable def QY(c:Str)(fa:FS->Out (List Rv)):FS->SO:=λfs=>SO.of (fa fs) λrs fs=>if rs.length<=1000 then .exc c fs else .bad
theorem PR(c:YD X.K X.mg x)(l:LkD X Z)(hc:X.calm=true)(ha:FA X Z (e::es) fa)(hg:Gl X x:=by rfl)(aQ:(x==("__debug__":Str))=false:=by decide)
  (he:starEach (e::es) X.env=(false,eval e X.env)::starEach es X.env:=by rfl) (aI:(backTo aA (starEach es X.env)).any (·.1)=false:=by rfl) :
  GS X Z (.Raise (some (.Call (.Name x np) (e::es) [] aA)) none pos) (QY x fa):=by
 obtain⟨C,h1,h2,h3⟩:=c.ex;refine BM (EN ⟨h1,h3⟩ l.d.ex hc l.k ha hg aQ he aI) λD U H ao => ?_
 obtain⟨F,B,fs,ok,s⟩:= ao;refine⟨F,B,fs,ok,Bn s λrs ag F1 H1 us l q s1=>?_⟩;split at s1
 next hl=>exact⟨by rw[q.2.len];exact hl,F1,B,ag,x,C,h2,rfl,q.1,s1⟩
 .exact s1.elim
end
noncomputable def UQ(i:Nat)(dq:Str->Bool)(h:FS->SO)(c:Str)(fs:FS):SO:=if dq c=true then(match Ju i (.t (.zD c)) fs with|some fs=>(match h fs with|.nx fs=>(match fs[i]? with|some (some (.val _))=>.nx (fs.set i none)|_=>.bad)|.ret (.t t) fs=>.ret (.t t) fs|_=>.bad)|none=>.bad)else .bad
noncomputable def QS(i:Nat)(dq:Str->Bool)(g h:FS->SO):FS->SO:=λfs=>match g fs with|.exc c fs=>UQ i dq h c fs|o=>o
section
variable{X:Cx}{Z:Xp}{K:Fg}{B:Nat->Option V}{F:Wd}{H:Hp}{U:St}{fs:FS}
theorem Okk.forget(h:Okk K F B H fs U)(e:fs[i]?=some (some (.val t))):Okk K F B H (fs.set i none) (U.set i none):=by
 obtain⟨L,ok⟩:=h;obtain⟨v,L1,L2,L3,e1,rfl,h1,h2⟩:=ok.sl.pick e;have e2:L2=[]:=by obtain⟨u,rfl,q,z⟩:=h1;exact z
 subst e2;exact⟨L1++([]++L3),h2 F H none none [] Le.refl (λ_ _=>rfl) rfl,ok.nd,ok.nf,ok.fd,En.put ok.bo (λo eo=>by cases eo) ok.sl.len,ok.pd,ok.pf,ok.pl⟩
noncomputable def Ztry(K:Fg)(Z:Xp)(i:Nat)(dq:Str->Bool)(h:FS->SO)(D:Ends):Xp:=⟨λF B H c fs=>Gy K Z B F H (UQ i dq h c fs) D,λq l=>Gy.le q l⟩
theorem TN{x n:Str}{C:Addr}{i:Nat}{np pos eN:Pos}{body bD:List Stmt}{cK:Stmt}{g h:FS->SO}(dq:Str->Bool)(i:Nat)(l:LkD X Z)(hC:X.mg x=some (.ref C))(hN:X.N.Nodup)(hk:∀c C',dq c=true->Cz X.K c=some C'->exmOne X.K (.ref C') (.ref C)=some true)
  (hb:∀E' Z',LkD (X.E3 E') Z'->GSs (X.E3 E') Z' body g) (hs:∀a,GSs (X.hand a) Xp.no (cK::bD) h) (hi:X.N[i]?=some n:=by rfl) (hl:X.env.scope.names.lookup n=some .local:=by rfl) (hg:Gl X x:=by rfl) (aQ:(x==("__debug__":Str))=false:=by decide) :
  GS0 X Z (.Try body [.ExceptHandler (some (.Name x np)) (some n) (cK::bD) eN] [] [] pos) (QS i dq g h):=by
 have key:=Ss (np:=np) (pos:=pos) (eN:=eN) (body:=body) (cK:=cK) (bD:=bD) (th:=tSt X.K Xp.no h) (tb:=λD=>tSt X.K (Ztry X.K Z i dq h D) g) l.d hC hN (λD=>?_) hs hi hl hg aQ
 .intro s0 U H D I q;refine key s0 U H D I ?_;obtain⟨F,B,fs,ok,s⟩:=q;refine⟨F,B,fs,ok,?_⟩;unfold QS at s;cases e:g fs with|nx ag=>rw[e]at s;exact s|ret r ag=>rw[e]at s;exact s|brk ag=>rw[e]at s;exact s|cnt ag=>rw[e]at s;exact s|exc c ag=>rw[e]at s;exact s|bad=>rw[e]at s;exact s
 .refine hb _ _ ⟨⟨l.d.pn,l.d.ex,l.d.st,l.d.fr⟩,λe s q=>XW.imp (XW.E3 q) λcv U H z=>?_,XW.own l.d⟩;obtain⟨F,B,fs,c,C',mK,rfl,ok,z⟩:=z;have z:Gy X.K Z B F H (UQ i dq h c fs) D:=z;unfold UQ at z;split at z
  .rename_i jY;refine⟨hk c C' jY mK,λa ha=>?_⟩;split at z
   .rename_i av e2;have aO:Okk X.K (Ow F a) B (upd H a (exO (.ref C') a)) av (U.set i (some (.ref a))):=Jt (RR.of (r:=.t (.zD c)) (u:=.ref a) (Okk.alloc ok ha) (by simp only[Bz,Ar];exact⟨a,C',rfl,.inr rfl,Ak,mK⟩)) e2;have eW:Le F H (Ow F a) (upd H a (exO (.ref C') a)):=AN ok ha;refine⟨Ow F a,B,av,aO,?_⟩;cases eh:h av with
    |nx cw =>
     rw[eh]at z;dsimp only at z;split at z
     next t et=>exact λF' H' au l k=>z F' H' _ (eW.trans l) (k.forget et)
     .exact z.elim
    |ret r cw =>rw[eh]at z;cases r with|t t =>intro F' H' au u l k;exact z F' H' au u (eW.trans l) k|nw o=>exact z.elim|n j=>exact z.elim
    |brk cw=>rw[eh]at z;exact z.elim
    |cnt cw=>rw[eh]at z;exact z.elim
    |exc c cw=>rw[eh]at z;exact z.elim
    |bad=>rw[eh]at z;exact z.elim
   .exact z.elim
  .exact z.elim
end
noncomputable def Um(K:Fg)(ds:List Str)(tab:Str->Str->Bool)(c:Str):Bool:=match Cz K c with
 |some C=>excIn K C UU "ValueError.__new__"&&(findIn K (.ref C) "__getattribute__"==some (some (.builtin "BaseException.__getattribute__")))&&(findIn K (.ref C) "__getattr__"==some none) &&
  (findIn K (.ref C) "__class__"==some (some (.builtin "object.__class__")))&&(specialIn K (.builtin "object.__class__") "__get__"==some (some (.builtin "getset_descriptor.__get__")))&&(takesIn K (.builtin "object.__class__")==some true) &&
  (mroIn K C (.type "object")==some true)&&(mroIn K C (.type "BaseException")==some true)&&(clsIn K C).isSome&&(kitOne K (.ref C) (.type "ValueError")==some true) &&
  ds.all λd=>match Cz K d with|some D=>(kitOne K (.ref C) (.ref D)==some (tab c d))&&(!tab c d||exmOne K (.ref C) (.ref D)==some true)|none=>false
 |none=>false
noncomputable def Yg(K:Fg)(rs ds:List Str)(tab:Str->Str->Bool):Bool:=rs.all (Um K ds tab)&&ds.all λd=>(Cz K d).isSome
structure Jk(K:Fg)(mg:Str->Option Value)(rs ds:List Str)(tab:Str->Str->Bool):Prop where
 k:∀c∈rs,∀C,Cz K c=some C->PySem.W.ExK K C/\(clsIn K C).isSome=true
 own:∀c∈rs,∀d∈ds,∀C D,Cz K c=some C->Cz K d=some D->kitOne K (.ref C) (.ref D)=some (tab c d)/\(tab c d=true->exmOne K (.ref C) (.ref D)=some true)
 ve:∀c∈rs,∀C,Cz K c=some C->kitOne K (.ref C) (.type "ValueError")=some true
 at_:∀c∈rs,∃C,mg c=some (.ref C)/\Cz K c=some C/\excIn K C UU "ValueError.__new__"=true
 yL:∀d∈ds,∃D,mg d=some (.ref D)/\Cz K d=some D
theorem RG(X:K.In h)(G:h.Ns mainGlobals mg)(e:Cz K c=some C):mg c=some (.ref C):=by
 unfold Cz at e;split at e
 next D q=>cases e;exact mg_of X G q
 .cases e
theorem Jk.of(X:K.In h)(G:h.Ns mainGlobals mg)(e:Yg K rs ds tab=true):Jk K mg rs ds tab:=by
 unfold Yg at e;rw[uq]at e;obtain⟨e1,e2⟩:=e;have one:∀c∈rs,∀C,Cz K c=some C->excIn K C UU "ValueError.__new__"=true/\PySem.W.ExK K C/\(clsIn K C).isSome=true/\kitOne K (.ref C) (.type "ValueError")=some true /\
   ∀d∈ds,∀D,Cz K d=some D->kitOne K (.ref C) (.ref D)=some (tab c d)/\(tab c d=true->exmOne K (.ref C) (.ref D)=some true):=λc hc C hC=>by
  have q:=uS.mp e1 c hc;unfold Um at q;rw[hC]at q;simp only[uq,beq_iff_eq]at q;obtain⟨⟨⟨⟨⟨⟨⟨⟨⟨⟨q1,q2⟩,q3⟩,q4⟩,q5⟩,q6⟩,q7⟩,q8⟩,q9⟩,rT⟩,rU⟩:=q;refine⟨q1,⟨q2,q3,q4,q5,q6,q7,q8⟩,q9,rT,λd hd D hD=>?_⟩;have z:=uS.mp rU d hd;rw[hD]at z;simp only[uq,beq_iff_eq]at z;refine⟨z.1,λht=>?_⟩;have z2:=z.2;rw[ht]at z2;simpa using z2
 refine⟨λc hc C hC=>⟨(one c hc C hC).2.1,(one c hc C hC).2.2.1⟩,λc hc d hd C D hC hD=>(one c hc C hC).2.2.2.2 d hd D hD,λc hc C hC=>(one c hc C hC).2.2.2.1,λc hc=>?_,λd hd=>?_⟩
 .have q:=uS.mp e1 c hc;unfold Um at q;cases hC:Cz K c with|none=>rw[hC]at q;cases q|some C=>exact⟨C,RG X G hC,rfl,(one c hc C hC).1⟩
 .obtain⟨D,hD⟩:=vF.mp (uS.mp e2 d hd);exact⟨D,RG X G hD,hD⟩
theorem Jk.t1(t:Jk K mg rs ds tab)(h:c∈rs):YD K mg c:=⟨t.at_ c h⟩
noncomputable def isX(cs:List Str)(tab:Str->Str->Bool)(d:Str)(f:FS->Out Rv):FS->Out Rv:=λfs=>(f fs).bnd λr fs=>match r with|.t (.zD c)=>if cs.contains c=true then okT (.v (tab c d)) fs else .bad|_=>.bad
section
variable{X:Cx}{Z:Xp}{a:Expr}{f:FS->Out Rv}{p p2 pos:Pos}{x:Str}{cs ds:List Str}{tab:Str->Str->Bool}
theorem XZ(t:Jk X.K X.mg cs ds tab)(hm:X.mg "isinstance"=none)(hx:x∈ds)(ha:FE X Z a f)(hg:Gl X "isinstance":=by rfl)(eI:Gl X x:=by rfl)(aQ:(x==("__debug__":Str))=false:=by decide)
  (hs:starEach [a,.Name x p2] X.env=(false,eval a X.env)::starEach [.Name x p2] X.env:=by rfl) (aY:starEach [.Name x p2] X.env=[(false,eval (.Name x p2) X.env)]:=by rfl) (aI:(backTo pos (starEach [.Name x p2] X.env)).any (·.1)=false:=by rfl) :
  FE X Z (.Call (.Name "isinstance" p) [a,.Name x p2] [] pos) (isX cs tab x f):=by
 obtain⟨D,h1,h2⟩:=t.yL x hx;have hD:PE X (.Name x p2) (tC (.ref D)):=λaa s U H Q I h=>Ee I eI h1 ⟨.ref D,H,I,rfl,h⟩ aQ
 refine AJ (EO GQ hg hm boot_isinstance (Bs ha (Bs hD Dj aY) hs) (by decide) (by decide) hs aI) λU H Q ao=>?_
 obtain⟨F,B,fs,ok,s⟩:= ao;refine⟨F,B,fs,ok,Ay s λr ag F1 H1 u l1 ax rx s1=>?_⟩;split at s1
 .rename_i c;split at s1
  .rename_i hc;have hc:=by simpa using hc
   simp only[Bz,Ar]at rx;obtain⟨b,C,rfl,fb,hb,hC⟩:=rx;exact⟨b,C,.ref D,.ref D,_,rfl,(λu z=>z),hb,(t.k c hc C hC).1,(t.k c hc C hC).2,(t.own c hc x hx C D hC h2).1,s1 F1 H1 _ Le.refl (RR.of ax rfl)⟩
  .exact s1.elim
 .exact s1.elim
noncomputable def isV(cs:List Str)(f:FS->Out Rv):FS->Out Rv:=λfs=>(f fs).bnd λr fs=>match r with|.t (.zD c)=>if cs.contains c=true then okT (.v true) fs else .bad|_=>.bad
theorem X0(t:Jk X.K X.mg cs ds tab)(hm:X.mg "isinstance"=none)(de:X.mg "ValueError"=none)(ha:FE X Z a f)(hg:Gl X "isinstance":=by rfl)(eI:Gl X "ValueError":=by rfl)
  (hs:starEach [a,.Name "ValueError" p2] X.env=(false,eval a X.env)::starEach [.Name "ValueError" p2] X.env:=by rfl) (aY:starEach [.Name "ValueError" p2] X.env=[(false,eval (.Name "ValueError" p2) X.env)]:=by rfl) (aI:(backTo pos (starEach [.Name "ValueError" p2] X.env)).any (·.1)=false:=by rfl) :
  FE X Z (.Call (.Name "isinstance" p) [a,.Name "ValueError" p2] [] pos) (isV cs f):=by
 refine AJ (EO GQ hg hm boot_isinstance (Bs ha (Bs (MX (v:=.ty "ValueError") eI de PyProof.Rows.Boot.«ValueError» rfl) Dj aY) hs) (by decide) (by decide) hs aI) λU H Q ao=>?_
 obtain⟨F,B,fs,ok,s⟩:= ao;refine⟨F,B,fs,ok,Ay s λr ag F1 H1 u l1 ax rx s1=>?_⟩;split at s1
 .rename_i c;split at s1
  .rename_i hc;have hc:=by simpa using hc
   simp only[Bz,Ar]at rx;obtain⟨b,C,rfl,fb,hb,hC⟩:=rx;exact⟨b,C,.ty "ValueError",.type "ValueError",_,rfl,(λu z=>z),hb,(t.k c hc C hC).1,(t.k c hc C hC).2,t.ve c hc C hC,s1 F1 H1 _ Le.refl (RR.of ax rfl)⟩
  .exact s1.elim
 .exact s1.elim
end
theorem PZ(t:Jk X.K X.mg rs ds tab)(hx:x∈ds)(i:Nat)(l:LkD X Z)(hN:X.N.Nodup)
  (hb:∀E' Z',LkD (X.E3 E') Z'->GSs (X.E3 E') Z' body g) (hs:∀a,GSs (X.hand a) Xp.no (cK::bD) h) (hi:X.N[i]?=some n:=by rfl) (hl:X.env.scope.names.lookup n=some .local:=by rfl) (hg:Gl X x:=by rfl) (aQ:(x==("__debug__":Str))=false:=by decide) :
  GS0 X Z (.Try body [.ExceptHandler (some (.Name x np)) (some n) (cK::bD) eN] [] [] pos) (QS i (λc=>rs.contains c&&tab c x) g h):=by
 obtain⟨C,h1,h2⟩:=t.yL x hx;refine TN (i:=i) _ i l h1 hN (λc C' ho hc=>?_) hb hs hi hl hg aQ;rw[uq]at ho;exact(t.own c (by simpa using ho.1) x hx C' C hc h2).2 ho.2
noncomputable def JaE:Rv->List Rv->FS->Out Rv
 |x,[.t (.v true)],fs=>match(Df fs x).bind CQ with
  |some bs=>match bs.findIdx? id with|some j=>okT (.int ((j:Nat):Int)) fs|none=>.bad
  |none=>.bad
 |_,_,_=>.bad
section
variable{K:Fg}{Z:Xp}
theorem Pr:MtF K Z (λx vs H Q=>∃(l:Addr)(bs:List Bool)(j:Nat),x=.ref l/\vs=[.v true]/\SqL K H l (bs.map V.v)/\bs[j]?=some true/\(∀m,m<j->bs[m]?=some false)/\Q (.int ((j:Nat):Int)) H) JaE:=by
 intro F B H U fs x rs u vs Q ok rx q s;unfold JaE at s;split at s
 .obtain⟨v,rfl,qq⟩:=A7 q;have q':=by simpa only[Bz,Ar]using qq
  subst q';split at s
  .rename_i bs e;rw[uB]at e;obtain⟨ts,e1,e2⟩:=e;obtain⟨a,us,rfl,hs,r⟩:=Bg ok rx e1;rw[E1 e2]at r;rw[Ad.bls r]at hs;split at s
   next j ej=>obtain⟨hj,h1,h2⟩:=List.findIdx?_eq_some_iff_getElem.mp ej;refine⟨a,bs,j,rfl,rfl,hs,by rw[tO hj];exact congrArg some h1,λm hm=>?_,s F H _ Le.refl (RR.of ok rfl)⟩;have:=h2 m hm;rw[tO (vo hm hj)];simpa using this
   .exact s.elim
  .exact s.elim
 .exact s.elim
end
theorem Vx(h:spF K p Fn vs H Q E):spX K p Fn vs H Q E':=by obtain⟨h1,F,bW,ok,h⟩:=h;refine⟨h1,F,bW,ok,?_⟩;cases e:Fn bW with|ok r τ=>rw[e]at h;exact h|exc c τ=>rw[e]at h;exact h.elim|bad=>rw[e]at h;exact h.elim
section
variable{X:Cx}{Z:Xp}{x:Str}{k p:Nat}{ps:List Str}{Fn:FS->Out Rv}{e o:Expr}{es:List Expr}{fa:FS->Out (List Rv)}{fo f:FS->Out Rv}{pp pos aB np aA cp fp jp:Pos}{C:Addr}{m:Str}{v:Expr}{a:Str}{j:Nat}
noncomputable def EC(C:Addr)(m:Str)(p:Nat)(Fn:FS->Out Rv)(fo:FS->Out Rv)(fa:FS->Out (List Rv)):FS->Out Rv:=λfs=>(fo fs).bnd λx fs=>if Hs C m fs x=true then(fa fs).bind λrs fs=>Ah p Fn (x::rs) fs else .bad
theorem XS(G:UX X.prog X.w X.K X.mg X.base (CX1 X.prog X.w) C m k ps (spX X.K p Fn))(hr:C7 k X.A)(lk:Lks X Z)(ho:FE X Z o fo)(ha:FAn X Z (e::es) fa)
  (dH:starEach (e::es) X.env=(false,eval e X.env)::starEach es X.env:=by rfl) (aI:(backTo pos (starEach es X.env)).any (·.1)=false:=by rfl)
  (ht:eval (.Call (.Attribute o m aB) (e::es) [] pos) X.env=(do
   let ov <- eval o X.env
   standAt aB.atName
   let(f,first) <- holding [ov] (getMethod ov m pl)
   callWith pos f first (backTo pos (starEach (e::es) X.env)) (backToKw pos (keywordEach [] X.env))):=by rfl) :
  FE X Z (.Call (.Attribute o m aB) (e::es) [] pos) (EC C m p Fn fo fa):=by
 refine AJ (Wg G hr lk ho ha dH aI ht) λU H Q ao => ?_
 obtain⟨F,B,fs,ok,s⟩:= ao;refine⟨F,B,fs,ok,Ay s λr ag F1 H1 u l ax rx s1=>?_⟩;split at s1
 .rename_i hi;obtain⟨a,dx,ah,rfl,hd,hn⟩:=KP ax rx hi;refine⟨a,dx,ah,rfl,hd,hn,F1,B,ag,ax,Ax s1 λrs av F2 H2 us l2 q s2=>?_⟩;unfold Ah at s2;split at s2
  next hp=>rw[<- hp];obtain⟨L9,M9,o9,q9,rF,rL⟩:=q;refine I0 ⟨L9,M9,o9,⟨_,us,[],M9,rfl,?_,q9,rfl⟩,rF,rL⟩ s2;have lU:=rx.le l2;cases r with|t t=>exact⟨rfl,lU⟩|nw o=>exact lU.elim|n i=>exact⟨rfl,lU⟩
  .exact s2.elim
 .exact s1.elim
theorem Ud(G:UX X.prog X.w X.K X.mg X.base (CX1 X.prog X.w) C m k ps (spX X.K p Fn))(hr:C7 k X.A)(ho:FE X Z o fo)
  (h:∀{ta:TE},PE X o ta->PE X (.Call (.Attribute o m aB) [] [] pos) (Sb C m (spX X.K p Fn) [] E0 ta YE)):FE X Z (.Call (.Attribute o m aB) [] [] pos) (LN C m p Fn fo Ai):=by
 refine AJ (h ho) λU H Q ao => ?_
 obtain⟨F,B,fs,ok,s⟩:= ao;refine⟨F,B,fs,ok,Ay s λr ag F1 H1 u l ax rx s1=>?_⟩;split at s1
 .rename_i hi;obtain⟨a,dx,ah,rfl,hd,hn⟩:=KP ax rx hi;refine⟨a,dx,ah,rfl,hd,hn,?_⟩;have s2:sat Z B (RR X.K B U) F1 H1 (Om p Fn [r] ag) Q:=s1;unfold Om at s2;split at s2
  next hp=>rw[<- hp];obtain⟨L9,o9⟩:=ax;refine Vx (E:=E0) (QE ⟨L9,[],o9,⟨_,[],[],[],rfl,?_,⟨rfl,rfl⟩,rfl⟩,by simpa using o9.nd,(λ_ m=>nomatch m)⟩ s2);cases r with|t t=>exact⟨rfl,rx⟩|nw o=>exact rx.elim|n i=>exact⟨rfl,rx⟩
  .exact s2.elim
 .exact s1.elim
theorem XU(G:YM X.prog X.w X.K X.mg X.base (CX1 X.prog X.w) x C k ps (spX X.K p Fn))(hr:C7 (k+1) X.A)(ha:FAn X Z (e::es) fa)(hg:Gl X x:=by rfl)(aQ:(x==("__debug__":Str))=false:=by decide)
  (he:starEach (e::es) X.env=(false,eval e X.env)::starEach es X.env:=by rfl) (aI:(backTo pos (starEach es X.env)).any (·.1)=false:=by rfl):FE X Z (.Call (.Name x pp) (e::es) [] pos) (Ac (DR C p Fn) fa):=by
 refine AJ (Z6 G hr Wo ha hg aQ he aI) λU H Q ao => ?_
 obtain⟨F,B,fs,ok,s⟩:= ao;refine⟨F,B,fs,ok,Ax s λrs ag F1 H1 us l q s1=>?_⟩;intro a dx h1 h2 h3;rw[uK];exact Vx (E:=E0) (Pu q s1 h1 h2 h3)
noncomputable def CW(c:Str)(f:FS->Out Rv):FS->SO:=λfs=>SO.of (f fs) λr fs=>match r with|.t (.str z)=>if CO z=true then .exc c fs else .bad|_=>.bad
theorem NI(c:YD X.K X.mg x)(l:LkD X Z)(hc:X.calm=true)(ha:FE X Z v f)(hl:a.length<=1000:=by decide)(hg:Gl X x:=by rfl)(aQ:(x==("__debug__":Str))=false:=by decide)
  (he:starEach [(.JoinedStr [.Constant (.str a) j cp,.FormattedValue v 114 none fp] jp:Expr)] X.env=[(false,eval (.JoinedStr [.Constant (.str a) j cp,.FormattedValue v 114 none fp] jp) X.env)]:=by rfl) :
  GS X Z (.Raise (some (.Call (.Name x np) [.JoinedStr [.Constant (.str a) j cp,.FormattedValue v 114 none fp] jp] [] aA)) none pos) (CW x f):=by
 obtain⟨C,h1,h2,h3⟩:=c.ex;refine BM (EN (C:=C) (Z:=EZ X.K Z) ⟨h1,h3⟩ l.d.ex hc l.k (Bs (Jaa ha hl) Dj he) hg aQ he rfl) λD U H ao => ?_
 obtain⟨F,B,fs,ok,s⟩:= ao;refine⟨F,B,fs,ok,Bn s λr ag F1 H1 u l q s1=>?_⟩;split at s1
 .rename_i z;split at s1
  next hz=>have z9:=q.ok;obtain⟨L,L',_,⟨_,qu⟩,_⟩:=q;have eu:u=.str z:=qu;subst eu;exact⟨z,rfl,hz,λr'=>⟨by simp,F1,B,ag,x,C,h2,rfl,z9,s1⟩⟩
  .exact s1.elim
 .exact s1.elim
end
section
variable{K:Fg}{B:Nat->Option V}{F F':Wd}{H H':Hp}{U:St}{fs:FS}{i:Nat}{ob:FO}
theorem Aq.app:∀{os:List FO}{o:FO}{vs:List V}{v:V}{L1 L2:List Addr},Aq K F H os vs L1->Ao K F H o v L2->Aq K F H (os++[o]) (vs++[v]) (L1++L2)
 | [],o,vs,v,L1,L2,h,g=>by
  obtain⟨rfl,rfl⟩:=(show vs=[]/\L1=[] by simpa only[Aq]using h)
  simp only[vH,Aq];exact⟨v,[],L2,[],rfl,g,⟨rfl,rfl⟩,by simp⟩
 |x::os,o,vs,v,L1,L2,h,g=>by simp only[Aq]at h;obtain⟨w,r,M1,M2,rfl,h1,h2,rfl⟩:=h;simp only[vC,Aq];exact⟨w,r++[v],M1,M2++L2,rfl,h1,Aq.app h2 g,by simp⟩
end
noncomputable def US:List Rv->FS->Out Rv
 | [x],fs=>match(Df fs x).bind CQ with|some ns=>okT (.v (ns.any id)) fs|none=>.bad
 |_,_=>.bad
theorem Ys:Ct K Z (λxs H Q=>∃(l:Addr)(bs:List Bool),xs=[.ref l]/\SqL K H l (bs.map V.v)/\Q (.v (bs.any id)) H) US:=by
 intro F B H U fs rs vs Q ok q s;unfold US at s;split at s
 .obtain⟨v,rfl,qq⟩:=A7 q;have q:=qq;split at s
  next ns e=>rw[uB]at e;obtain⟨ts,e1,e2⟩:=e;obtain⟨a,us,rfl,hs,r⟩:=Bg ok q e1;rw[E1 e2]at r;rw[Ad.bls r]at hs;exact⟨a,ns,rfl,hs,s F H _ Le.refl (RR.of ok rfl)⟩
  .exact s.elim
 .exact s.elim
section
variable{X:Cx}{Z:Xp}{x:Str}{e a:Expr}{es:List Expr}{f:FS->Out Rv}{fa:FS->Out (List Rv)}{p pos aR:Pos}
theorem X9(hm:X.mg "any"=none)(ha:FA X Z (e::es) fa)(hc:X.calm=true:=by rfl)(hg:Gl X "any":=by rfl)(he:starEach (e::es) X.env=(false,eval e X.env)::starEach es X.env:=by rfl)(aI:(backTo pos (starEach es X.env)).any (·.1)=false:=by rfl) :
  FE X Z (.Call (.Name "any" p) (e::es) [] pos) (Ac US fa):=ET Ys (QC hc) hm boot_any ha hg (by decide) (by decide) he aI
end
section
variable{X:Cx}{Z:Xp}{v v1 v2:Expr}{es:List Expr}{f:FS->Out Rv}{gs:List (FS->Out Rv)}{fp jp:Pos}
end
section
variable{X:Cx}{Z:Xp}{a:Expr}{x:Str}{ts:List Str}{f:FS->Out Rv}{p pos:Pos}
end
noncomputable def Yy:T->Bool
 |.o=>true
 |.v _=>true
 |.int _=>true
 |.str _=>true
 |_=>false
section
variable{K:Fg}{F F':Wd}{H:Hp}
theorem Ar.atom:∀{t:T}{v:V},Yy t=true->Ar K F H t v->Ar K F' H t v/\∀b,v≠.ref b
 |.o,_,_,h=>by cases h;exact⟨rfl,λ_=>nofun⟩
 |.v _,_,_,h=>by cases h;exact⟨rfl,λ_=>nofun⟩
 |.int _,_,_,h=>by cases h;exact⟨rfl,λ_=>nofun⟩
 |.str _,_,_,h=>by cases h;exact⟨rfl,λ_=>nofun⟩
 |.tup _,_,e,_=>by cases e
 |.lst _,_,e,_=>by cases e
 |.zY _,_,e,_=>by cases e
 |.l _ _,_,e,_=>by cases e
 |.dT _ _,_,e,_=>by cases e
 |.ins _ _ _,_,e,_=>by cases e
 |.x _ _,_,e,_=>by cases e
 |.zD _,_,e,_=>by cases e
end
section
variable{K:Fg}{F:Wd}{H:Hp}{B:Nat->Option V}
end
section
variable{K:Fg}{X:Cx}{Z:Xp}{a b e:Expr}{es:List Expr}{fa fb:FS->Out Rv}{fl:FS->Out (List Rv)}{p pos:Pos}
end
section
variable{X:Cx}{Z:Xp}{x a a2:Str}{v w:Expr}{f g:FS->Out Rv}{j j2:Nat}{np aA cp fp gS ic jp pos:Pos}
noncomputable def Hb(c:Str)(f g:FS->Out Rv):FS->SO:=λfs=>SO.of (f fs) λr fs=>match r with
 |.t (.str z)=>if CO z=true then SO.of (g fs) λr fs=>(match r with|.t (.str z)=>if CO z=true then .exc c fs else .bad|_=>.bad)else .bad
 |_=>.bad
theorem LW(c:YD X.K X.mg x)(l:LkD X Z)(hc:X.calm=true)(ha:FE X Z v f)(hb:FE X Z w g)(hl:a.length<=1000:=by decide)(dB:a2.length<=1000:=by decide)(hg:Gl X x:=by rfl)(aQ:(x==("__debug__":Str))=false:=by decide)
  (he:starEach [(.JoinedStr [.Constant (.str a) j cp,.FormattedValue v 114 none fp,.Constant (.str a2) j2 gS,.FormattedValue w 114 none ic] jp:Expr)] X.env=[(false,eval (.JoinedStr [.Constant (.str a) j cp,.FormattedValue v 114 none fp,.Constant (.str a2) j2 gS,.FormattedValue w 114 none ic] jp) X.env)]:=by rfl) :
  GS X Z (.Raise (some (.Call (.Name x np) [.JoinedStr [.Constant (.str a) j cp,.FormattedValue v 114 none fp,.Constant (.str a2) j2 gS,.FormattedValue w 114 none ic] jp] [] aA)) none pos) (Hb x f g):=by
 obtain⟨C,h1,h2,h3⟩:=c.ex;refine BM (EN (C:=C) (Z:=EZ X.K Z) ⟨h1,h3⟩ l.d.ex hc l.k (Bs (Wl ha hb hl dB) Dj he) hg aQ he rfl) λD U H ao => ?_
 obtain⟨F,B,fs,ok,s⟩:= ao;refine⟨F,B,fs,ok,Bn s λr ag F1 H1 u l q s1=>?_⟩;split at s1
 .rename_i z;split at s1
  .rename_i hz;have z9:=q.ok;obtain⟨L,L',_,⟨_,qu⟩,_⟩:=q;have eu:u=.str z:=qu;subst eu;refine⟨z,rfl,hz,F1,B,ag,z9,Bn s1 λr2 av F2 H2 u2 l2 q2 s2=>?_⟩;split at s2
   .rename_i z2;split at s2
    next g8=>have lb:=q2.ok;obtain⟨_,_,_,⟨_,rV⟩,_⟩:=q2;have p8:u2=.str z2:=rV;subst p8;exact⟨z2,rfl,g8,λr'=>⟨by simp,F2,B,av,x,C,h2,rfl,lb,s2⟩⟩
    .exact s2.elim
   .exact s2.elim
  .exact s1.elim
 .exact s1.elim
end
section
variable{X:Cx}{Z:Xp}{a b:Expr}{fa fb:FS->Out Rv}{pos:Pos}
end
section
variable{K:Fg}{F:Wd}{H:Hp}{B:Nat->Option V}{fs:FS}{U:St}
theorem J3:∀{ah:List (Str×V)}{os:List FO}{L:List Addr},Aq K F H os (ah.map (·.2)) L->Bh (ah.map (·.1)) os f=some o ->
  ∃v L1 A Z,ah.lookup f=some v/\Ao K F H o v L1/\L=A++(L1++Z)/\∀H' o' eD,(∀a∈A++Z,H' a=H a)->Le F H F H'->Ao K F H' o' v eD->Aq K F H' (BB (ah.map (·.1)) os f o') (ah.map (·.2)) (A++(eD++Z))
 | [],os,L,r,e=>by cases os<;>simp[Bh]at e
 |(g,x)::ah,os,L,r,e=>by
  cases os with
  |nil=>simp[Bh]at e
  |cons o1 os =>
   simp only[tR,Aq]at r;obtain⟨v,w,L1,L2,ee,r1,r2,rfl⟩:=r;cases ee;simp only[tR,Bh]at e;rw[uM];cases hb:f==g with
   |true =>rw[hb]at e;cases e;refine⟨x,L1,[],L2,rfl,r1,rfl,λH' o' eD k l ro=>?_⟩;simp only[tR,BB,hb,if_true,Aq];exact⟨x,_,eD,L2,rfl,ro,Aq.le l (λa m=>k a (by simpa using m)) r2,rfl⟩
   |false =>
    rw[hb]at e;obtain⟨v,M,A,Z,h1,h2,rfl,h3⟩:=J3 r2 (by simpa using e);refine⟨v,M,L1++A,Z,h1,h2,by simp,λH' o' eD k l ro=>?_⟩;have:=h3 H' o' eD (λa m=>k a (by
     rcases tW.mp m with m|m
     .simp[m]
     .simp[m])) l ro
    simp only[tR,BB,hb,Aq];exact⟨x,_,L1,_,rfl,r1.le l λa m=>k a (by simp[m]),this,by simp⟩
theorem Okk.fld{os:List FO}(ok:Okk K F B H fs U)(e:AD fs i=some (.ins C gs os))(ef:Bh gs os f=some o) :
  ∃a dx ah v L1,U[i]?=some (some (.ref a))/\H a=some (.ins C dx ah)/\ah.map (·.1)=gs/\ah.lookup f=some v/\Ao K F H o v L1/\a∉L1/\(∀b∈L1,¬F b/\¬F.p b)/\L1.Nodup /\
   ∀o' H',(∀b,b∉L1->H b≠none->H' b=H b)->Ao K F H' o' v L1->Okk K F B H' (putAt fs i (.ins C gs (BB gs os f o'))) U/\Le F H F H':=by
 obtain⟨v,L2,a1,a2,a3,a4,a5⟩:=ok.own e;have d2:=Ao.def a2;simp only[Ao]at a2;obtain⟨a,dx,ah,L3,rfl,hd,rfl,ro,rfl⟩:=a2;obtain⟨v,L1,A,Z,e1,r1,rfl,bk⟩:=J3 ro ef;have nd:=uG.mp a4;have gM:=tQ.mp nd.2;have ju:=tQ.mp gM.2.1;have m1:∀b∈L1,b∈a::(A++(L1++Z)):=λb m=>by simp[m]
 refine⟨a,dx,ah,v,L1,a1,hd,rfl,e1,r1,λm=>nd.1 (by simp[m]),λb m=>a3 b (m1 b m),ju.1,λo' H' k kg=>?_⟩;have l:Le F H F H':=by obtain⟨L,o9⟩:=ok;exact⟨λb f=>⟨f,k b (λm=>(a3 b (m1 b m)).1 f) (o9.fd b f)⟩,λb f=>⟨f,k b (λm=>(a3 b (m1 b m)).2 f) (o9.pd b f)⟩⟩
 have q:=bk H' o' L1 (λb m=>k b (λm1=>by
   rcases tW.mp m with m|m
   .exact gM.2.2 b m b (ud _ m1) rfl
   .exact ju.2.2 b m1 b m rfl) (d2 b (by
   rcases tW.mp m with m|m
   .simp[m]
   .simp[m]))) l kg
 exact a5 _ H' (λb hb hn=>k b (λm=>hb (m1 b m)) hn) (by simp only[Ao];exact⟨a,dx,ah,_,rfl,by rw[k a (λm=>nd.1 (by simp[m])) (d2 a (by simp))];exact hd,rfl,q,rfl⟩)
end
section
variable{X:Cx}{Z:Xp}{x f:Str}{e:Expr}{fe:FS->Out Rv}{C:Addr}{p1 p2 aB aA pos:Pos}
end
section
variable{X:Cx}{Z:Xp}{x f:Str}{e:Expr}{fe:FS->Out Rv}{C:Addr}{p1 p2 p3 p4 p5 p6 aB aA pos:Pos}{j:Nat}
noncomputable def Yz:FO->Option (List Key×List FO)
 |.l [] []=>some ([],[])
 |.dO ks os=>some (ks,os)
 |_=>none
theorem QJ{os:List FO}(e:Yz o=some (ks,os))(r:Ao K F H o v L) :
  ∃a ah L',v=.ref a/\H a=some (.l ah)/\ah.map (·.1)=ks/\Aq K F H os (ah.map (·.2)) L'/\L=a::L':=by
 unfold Yz at e;split at e
 .cases e;simp only[Ao,Ad]at r;obtain⟨a,ah,rfl,hd,hk,_,rfl⟩:=r;have:=by simpa using hk
  subst this;exact⟨a,[],[],rfl,hd,rfl,⟨rfl,rfl⟩,rfl⟩
 .cases e;simp only[Ao]at r;exact r
 .cases e
noncomputable def J7(C:Addr)(f:Str)(i jy:Nat):FS->SO:=λfs=>match AD fs i,fs[jy]? with|some (.ins C' gs os),some (some (.val y))=>if C'=C then(match Bh gs os f,F9 y with|some o,some k=>(match Yz o with|some (ks,ds)=>if ks.length<big/\(ks.any λq=>decide (q=k))=false then .nx (putAt fs i (.ins C gs (BB gs os f (.dO (ks++[k]) (ds++[.l [] []])))))else .bad|none=>.bad)|_,_=>.bad)else .bad|_,_=>.bad
theorem OY{k:Key}(h:k∉ah.map (·.1)):putK ah k v=ah++[(k,v)]:=by unfold putK;rw[if_neg];intro z;obtain⟨q,hq,e⟩:=wa.mp z;exact h (ug.mpr ⟨q,hq,um e⟩)
theorem PV(hu:X.A.units+1<cLine)(c:Cls X.K C)(n:Ba X.K C f)(i jy:Nat)(hx:PE X (.Name x p1) (Oz i))(hy:PE X (.Name y p3) (Oz jy))(kM:attributeBase (.Name x p1) f X.env (eval (.Name x p1) X.env)=eval (.Name x p1) X.env:=by rfl)
  (hs:swapsWith (.Dict [] [] p5) (some (.Subscript (.Attribute (.Name x p1) f p2) (.Name y p3) p4)) pos.line X.env=pure false:=by rfl) :
  GS X Z (.Assign [.Subscript (.Attribute (.Name x p1) f p2) (.Name y p3) p4] (.Dict [] [] p5) pos) (J7 C f i jy):=by
 refine BM (JA hu (Kw hx kM) hy Kx hs) λD U H ao=>?_
 obtain⟨F,B,fs,ok,s⟩:= ao;unfold J7 at s;split at s
 .rename_i C' gs os y' eo ey;split at s
  .rename_i hC;subst hC;split at s
   .rename_i o k ef ek;split at s
    .rename_i ks ds ed;split at s
     .rename_i hk;intro p hp;have q:RR X.K B U F (upd H p (.l [])) fs (.nw (.l [] [])) (.ref p):=RR.alloc ok hp (by simp only[Ao,Ad];exact⟨p,[],rfl,Ak,rfl,rfl,rfl⟩);have l0:Le F H F (upd H p (.l [])):=AE ok hp;obtain⟨v,L2,L',a1,a2,a3,a4,a5,a6⟩:=RR.put q eo;have d2:=Ao.def a2;simp only[Ao]at a2;obtain⟨a,dx,ah,L3,rfl,hd,rfl,ro,rfl⟩:=a2;obtain⟨v1,M1,A,Zz,e1,r1,rfl,bk⟩:=J3 ro ef;obtain⟨b,aG,M2,rfl,aQ,rfl,lO,rfl⟩:=QJ ed r1;have eL:L'=[p]:=by have a3:Ao X.K F (upd H p (.l [])) (.l [] []) (.ref p) L':=a3;simp only[Ao]at a3;obtain⟨_,_,z,_,_,_,rfl⟩:=a3;cases z;rfl
      subst eL;have ax:=q.ok;obtain⟨L9,o9⟩:=id ax;obtain⟨w,N1,N2,N3,e6,_,h1,_⟩:=o9.sl.pick ey;obtain⟨uy,rfl,ry,_⟩:=h1;have:=CB ek ry;subst this;have nb:=a5 b (by simp);have mb:b∈a::(A++((b::M2)++Zz)):=by simp
      have fQ:=tQ.mp a4;have bP:=uG.mp fQ.1;have gM:=tQ.mp bP.2;have ju:=tQ.mp gM.2.1;have rE:=uG.mp ju.1;have fA:a≠b:=λz=>bP.1 (by rw[z];simp)
      have qT:p≠b:=λz=>fQ.2.2 b mb p (by simp) z.symm
      have np:∀z∈a::(A++((b::M2)++Zz)),z≠p:=λz hz e=>fQ.2.2 z hz p (by simp) e
      have l1:Le F (upd H p (.l [])) F (upd (upd H p (.l [])) b (.l (aG++[(k,.ref p)]))):=⟨λz f=>⟨f,Aj λq=>nb.1 (q▸f)⟩,λz f=>⟨f,Aj λq=>nb.2 (q▸f)⟩⟩
      have rW:Ao X.K F (upd (upd H p (.l [])) b (.l (aG++[(k,.ref p)]))) (.dO (aG.map (·.1)++[k]) (ds++[.l [] []])) (.ref b) (b::(M2++[p])):=by simp only[Ao];refine⟨b,aG++[(k,.ref p)],M2++[p],rfl,Ak,by simp,?_,rfl⟩;rw[tU];refine Aq.app (Aq.le l1 (λz m=>Aj λq=>rE.1 (q▸m)) lO) ?_;simp only[Ao,Ad];exact⟨p,[],rfl,by rw[Aj qT];exact Ak,rfl,rfl,rfl⟩
      have q5:=bk (upd (upd H p (.l [])) b (.l (aG++[(k,.ref p)]))) _ _ (λz m=>Aj λq=>by
       subst q;rcases tW.mp m with m|m
       .exact gM.2.2 z m z (by simp) rfl
       .exact ju.2.2 z (by simp) z m rfl) l1 rW
      have mem:∀z,z∈a::(A++((b::(M2++[p]))++Zz))->z∈a::(A++((b::M2)++Zz))\/z∈[p]:=λz hz=>by
       simp only[uk,tW,vC,uI,or_false]at hz ⊢;rcases hz with h|h|h|(h|h)|h
       .exact .inl (.inl h)
       .exact .inl (.inr (.inl h))
       .exact .inl (.inr (.inr (.inl h)))
       .exact .inl (.inr (.inr (.inr (.inl h))))
       .exact .inr h
       .exact .inl (.inr (.inr (.inr (.inr h))))
      obtain⟨dJ,l'⟩:=a6 (.ins C' (ah.map (·.1)) (BB (ah.map (·.1)) os f (.dO (aG.map (·.1)++[k]) (ds++[.l [] []])))) (upd (upd H p (.l [])) b (.l (aG++[(k,.ref p)]))) (a::(A++((b::(M2++[p]))++Zz))) (λz hz _=>Aj λq=>hz (by rw[q];exact mb)) (by
       simp only[Ao];exact⟨a,dx,ah,_,rfl,by rw[Aj fA];exact hd,rfl,q5,rfl⟩) (by
       have pm:(a::(A++((b::(M2++[p]))++Zz))).Perm ((a::(A++((b::M2)++Zz)))++[p]):=by simp only[vC,uL,vH];refine List.Perm.cons _ (List.Perm.append_left _ (List.Perm.cons _ (List.Perm.append_left _ ?_)));exact(List.perm_append_comm (l₁:=[p]))
       exact pm.nodup_iff.mpr a4) mem
      have jV:k∉aG.map (·.1):=λm=>by have:=vZ.mp hk.2 k m;simp at this
      have pZ:U[jy]?=some (some (kV k)):=e6;refine⟨_,a1,a,C',dx,ah,.ref b,rfl,hd,c,n,e1,kV k,pZ,b,_,rfl,Mf.k aQ (by have:=hk.1;rw[tZ]at this;exact vo this FQ),?_⟩;rw[OY jV];exact s F _ U (l0.trans l') dJ
     .exact s.elim
    .exact s.elim
   .exact s.elim
  .exact s.elim
 .exact s.elim
end
noncomputable def L5(fa:FS->Out (List Rv)):FS->Out Rv:=λfs=>(fa fs).bind λrs fs=>match rs with| [.t x,.t y]=>(match Jl x,Jl y with|some xs,some ys=>(match Gb xs with|some ks=>if ks.Nodup/\ks.length=ys.length then .ok (.nw (.l ks ys)) fs else .bad|none=>.bad)|_,_=>.bad)|_=>.bad
noncomputable def Rm(x:T):List T->Option Bool
 | []=>some false
 |y::ys=>(eqT 9 y x).bind λb=>(Rm x ys).map (b||·)
noncomputable def LY:Rv->Rv->FS->Out Rv:=λx y fs=>match x with|.t x=>(match(Df fs y).bind (Rm x)with|some b=>okT (.v !b) fs|none=>.bad)|_=>.bad
noncomputable def A0(fs:FS):FS:=fs.map λs=>match s with|some (.val t)=>some (.val t)|_=>none
noncomputable def JB(j:Nat)(f:FS->Out Rv):FS->Out Rv:=λfs=>match AD fs j with|some o=>(match f ((A0 fs).set j (some (.val (toT o))))with|.ok (.t t) _=>if Yy t=true then .ok (.t t) fs else .bad|_=>.bad)|none=>.bad
noncomputable def GY:List Key->List FO->Key->Option FO
 |k::ks,o::os,j=>if k=j then some o else GY ks os j
 |_,_,_=>none
noncomputable def Ha:List Key->List FO->Key->FO->List FO
 |k::ks,o::os,j,x=>if k=j then x::os else o::Ha ks os j x
 |_,os,_,_=>os
noncomputable def dput2(C:Addr)(f:Str)(i jy jz:Nat)(fv:FS->Out Rv):FS->SO:=λfs=>SO.of (fv fs) λr fs=>match r,AD fs i,fs[jy]?,fs[jz]? with|.t t,some (.ins C' gs os),some (some (.val y)),some (some (.val z))=>if C'=C then(match Bh gs os f,F9 y,F9 z with|some (.dO ks ds),some k,some k2=>(match GY ks ds k with|some (.l eV eX)=>if eV.length<big then .nx (putAt fs i (.ins C gs (BB gs os f (.dO ks (Ha ks ds k (.l (Ea eV eX k2 t).1 (Ea eV eX k2 t).2))))))else .bad|_=>.bad)|_,_,_=>.bad)else .bad|_,_,_,_=>.bad
end FL
namespace L2
open PySem PySem.Spec
end L2
namespace FL
open PySem PySem.Spec L2
section
variable{X:Cx}{Z:Xp}{tg l o a b e:Expr}{f fa fb:FS->Out Rv}{g:FS->Out (List Rv)}{p1 p2 pos di aU aB aA bJ kp cp:Pos}{bz:List Expr}{k0 j:Nat}{d:Int}
theorem MH{ks:List Key}(r:Ad K F H ys vs)(h:ks.length=ys.length):(ks.zip vs).map (·.1)=ks/\(ks.zip vs).map (·.2)=vs:=by have hl:=r.len;exact⟨vA (by lia),List.map_snd_zip (by lia)⟩
theorem L4(hc:X.calm=true)(gC:X.mg "dict"=none)(de:X.mg "zip"=none)(ha:FA X Z [a,b] g)(iw:Gl X "dict":=by rfl)(eI:Gl X "zip":=by rfl)
  (he:starEach [(.Call (.Name "zip" p2) [a,b] [] aU:Expr)] X.env=[(false,eval (.Call (.Name "zip" p2) [a,b] [] aU) X.env)]:=by rfl) (hs:starEach [a,b] X.env=[(false,eval a X.env),(false,eval b X.env)]:=by rfl) (aY:starEach [b] X.env=[(false,eval b X.env)]:=by rfl) :
  FE X Z (.Call (.Name "dict" p1) [.Call (.Name "zip" p2) [a,b] [] aU] [] di) (L5 g):=by
 refine AJ (LH hc gC de ha iw eI he hs aY) λU H Q ao => ?_
 obtain⟨F,B,fs,ok,s⟩:= ao;refine⟨F,B,fs,ok,Ax s λrs ag F1 H1 us l q s1=>?_⟩;split at s1
 .rename_i x y;split at s1
  .rename_i xs ys e1 e2;split at s1
   .rename_i ks ek;split at s1
    next hk=>obtain⟨ax,u,w,rfl,rx,u2,w2,rfl,ry,rfl⟩:=q;obtain⟨b1,a1,vs,rfl,q1,h1⟩:=E7 rx e1;obtain⟨b2,a2,ws,rfl,q2,h2⟩:=E7 ry e2;have ev:=DH ek q1;subst ev;obtain⟨z1,z2⟩:=MH q2 hk.2;refine⟨b1,a1,b2,a2,ks,ws,rfl,h1 F1 H1 λ_ f=>⟨f,rfl⟩,h2 F1 H1 λ_ f=>⟨f,rfl⟩,hk.1,by rw[q2.len];exact hk.2,λd hd=>?_⟩;refine s1 F1 _ (.ref d) (AE ax hd) (RR.alloc ax hd ?_);simp only[Ao];exact⟨d,ks.zip ws,rfl,Ak,z1,by rw[z2];exact q2.le (AE ax hd),rfl⟩
    .exact s1.elim
   .exact s1.elim
  .exact s1.elim
 .exact s1.elim
end
section
variable{X:Cx}{Z:Xp}{a b e:Expr}{f fa fb:FS->Out Rv}{pos p1 p2 sJ gS:Pos}{j1 j2:Nat}{x1 x2 k1 k2:Str}
def Jbg(X:Cx)(H:Hp)(x y:V)(b:Bool):Prop:=∀(aa:List (Addr×Obj))(U:St)(s:Shared)(u w:Value),Inv X aa U H s->RelV x u->RelV y w->∀(Q:Value->Shared->Prop),Q (.bool !b) s->wpAny (model X.prog X.w) X.A (compareOp .NotIn u w) Q X.xe s
theorem SN:OpR X (compareOp .NotIn) (λx y H Q=>∃b,Jbg X H x y b/\Q (.v !b) H):=by intro aa s U H x y v u Q I rx ry ⟨b,h,q⟩;exact h aa U s v u I rx ry _ ⟨.v !b,H,I,rfl,q⟩
theorem NC:∀{ys:List T}{b:Bool},Rm x ys=some b->(∀(i:Nat)(y:T),ys[i]?=some y->∃c,eqT 9 y x=some c)/\(b=true↔∃(i:Nat)(y:T),ys[i]?=some y/\eqT 9 y x=some true)
 | [],b,e=>by cases e;exact⟨λi y h=>by simp at h,by simp⟩
 |y::ys,b,e=>by
  simp only[Rm,uB,uc]at e;obtain⟨c,e1,d,e2,rfl⟩:=e;obtain⟨h1,h2⟩:=NC e2;refine⟨λi z h=>?_,?_⟩
  .cases i with|zero=>simp at h;subst h;exact⟨c,e1⟩|succ i=>exact h1 i z (by simpa using h)
  .rw[vq,h2];constructor
   .rintro(h|⟨i,z,h,h'⟩)
    .exact⟨0,y,rfl,by rw[e1,h]⟩
    .exact⟨i+1,z,by simpa using h,h'⟩
   .rintro⟨i,z,h,h'⟩
    cases i with|zero=>simp at h;subst h;rw[e1]at h';cases h';exact .inl rfl|succ i=>exact .inr ⟨i,z,by simpa using h,h'⟩
open Classical in
theorem Pk{b:Bool}(hu:X.A.units+61<cLine)(e:Rm x ys=some b)(rx:Ar X.K F H x v)(sy:SqL X.K H p vs)(ry:Ad X.K F H ys vs):Jbg X H v (.ref p) b:=by
 intro aa U s u w I qx qy Q q;cases qy;obtain⟨aq,vy,pl,hz⟩:=I.list sy;obtain⟨h1,h2⟩:=NC e;have key:∀(i:Nat)(z:T),ys[i]?=some z->∃w',aq[i]?=some w'/\∀c,eqT 9 z x=some c->SeqAt.EqAt X.A.in1 s w' u c:=λi z gH=>by obtain⟨v1,e1,r1⟩:=ry.at gH;obtain⟨w1,e2,r2⟩:=vy.get e1;exact⟨w1,e2,λc hc=>IK I (by show X.A.units+1+9<_;lia) hc r1 rx r2 qx⟩
 have ln:aq.length=ys.length:=by rw[<- vy.length,ry.len]
 let ee:Value->Bool:=λw'=>decide (∃(i:Nat)(z:T),ys[i]?=some z/\aq[i]?=some w'/\eqT 9 z x=some true)
 refine SeqAt.notIn_listAt ee pl.isList (λw' hw=>?_) ?_
 .have rd:w'∈aq:=by simpa using hw
  obtain⟨i,hi,ei⟩:=vD rd;have ib:aq[i]?=some w':=by rw[tO hi,ei]
  by_cases h:∃(i:Nat)(z:T),ys[i]?=some z/\aq[i]?=some w'/\eqT 9 z x=some true
  .obtain⟨i,z,g1,g2,g3⟩:=id h;obtain⟨w1,f1,f2⟩:=key i z g1;rw[g2]at f1;cases f1;rw[show ee w'=true from uE h];exact f2 true g3
  .have gy:ys[i]?=some (ys[i]'(by lia)):=tO (by lia);obtain⟨c,ec⟩:=h1 i _ gy;obtain⟨w1,f1,f2⟩:=key i _ gy;rw[ib]at f1;cases f1;rw[show ee w'=false from uA h];cases c with|true=>exact(h ⟨i,_,gy,ib,ec⟩).elim|false=>exact f2 false ec
 .have:aq.toArray.any ee=b:=by
   rw[vc,h2];simp only[List.any_toArray,wa];constructor
   .rintro⟨w',_,h⟩
    obtain⟨i,z,g1,_,g3⟩:=um h;exact⟨i,z,g1,g3⟩
   .rintro⟨i,z,g1,g3⟩
    obtain⟨w1,f1,_⟩:=key i z g1;exact⟨w1,uP f1,uE ⟨i,z,g1,f1,g3⟩⟩
  rw[this];exact q
theorem SY(hu:X.A.units+61<cLine):OpF X.K Z (λx y H Q=>∃b,Jbg X H x y b/\Q (.v !b) H) LY:=by
 intro F B H U fs x y u w Q ok rx ry s;unfold LY at s;split at s
 .rename_i t;split at s
  next b e=>rw[uB]at e;obtain⟨ys,e1,e2⟩:=e;obtain⟨p,vs,rfl,hq,r⟩:=Bg ok ry e1;exact⟨b,Pk hu e2 rx hq r,s F H _ Le.refl (RR.of ok rfl)⟩
  .exact s.elim
 .exact s.elim
theorem T3(hu:X.A.units+61<cLine)(ha:FE X Z a fa)(hb:FE X Z b fb)(hm:behindInMarks .NotIn b=false:=by rfl):FT X Z (.Compare a [.NotIn] [b] pos) (asB (Af LY fa fb)):=Dn (SY hu) SN ha hb hm
end
end FL
namespace FL
open PySem PySem.Spec L2
section
variable{K:Fg}{F:Wd}{H:Hp}
theorem An.vals:∀{fs:FS}{U:St}{L:List Addr},An K F H fs U L->An K F H (A0 fs) U []
 | [],U,L,h=>by simp only[An]at h;exact⟨h.1,rfl⟩
 |s::r,U,L,h=>by
  obtain⟨v,au,L1,L2,rfl,h1,h2,rfl⟩:=h.Gu;have ih:=An.vals h2
  match s,h1 with|Option.none,h1=>exact An.cons (L1:=[]) (by exact rfl) ih|some (.val t),h1 =>obtain⟨u,rfl,q,_⟩:=h1;exact An.cons (L1:=[]) (by exact⟨u,rfl,q,rfl⟩) ih|some (.own o),h1=>exact An.cons (L1:=[]) (by exact rfl) ih|some (.bor o),h1=>exact An.cons (L1:=[]) (by exact rfl) ih
theorem Uc(j:Nat)(he:FE X Z e f):FE X Z e (JB j f):=by
 refine AJ he λU H Q ao=>?_
 obtain⟨F,B,fs,⟨L,ok⟩,s⟩:= ao;unfold JB at s;split at s
 .rename_i o eo;obtain⟨sl,es,ho⟩:∃sl,fs[j]?=some (some sl)/\(sl=.own o\/sl=.bor o):=by
   unfold AD at eo;split at eo
   next o' es=>cases eo;exact⟨_,es,.inl rfl⟩
   next o' es=>cases eo;exact⟨_,es,.inr rfl⟩
   .cases eo
  obtain⟨v,L1,Lj,L3,e1,rfl,h1,_⟩:=ok.sl.pick es;obtain⟨u,rfl,q⟩:∃u,v=some u/\Ao X.K F H o u Lj:=by
   rcases ho with rfl|rfl
   .exact h1
   .exact h1
  have nd:=ok.nd;have eF:∀a∈L1++L3,a∉Lj:=λa ha hb=>by
   rw[tQ]at nd;rcases tW.mp ha with ha|ha
   .exact nd.2.2 a ha a (ud _ hb) rfl
   .exact(tQ.mp nd.2.1).2.2 a hb a ha rfl
  have mL:∀a,a∈L1++(Lj++L3)->a∈L1++L3\/a∈Lj:=λa h=>by
   simp only[tW]at h ⊢;rcases h with h|h|h
   .exact .inl (.inl h)
   .exact .inr h
   .exact .inl (.inr h)
  have mO:∀a,a∈L1++L3->a∈L1++(Lj++L3):=λa h=>by rcases tW.mp h with h|h<;>simp[h]
  have lF:Le F H ⟨λa=>F a\/a∈Lj,F.p⟩ H:=⟨λa f=>⟨.inl f,rfl⟩,λa f=>⟨f,rfl⟩⟩
  have rt:Ar X.K ⟨λa=>F a\/a∈Lj,λa=>F.p a\/a∈L1++L3⟩ H (toT o) u:=Ar.wp (Ao.frz lF (λa m=>.inr m) q);have hj:j<fs.length:=(tX.mp es).1;have ev:(A0 fs)[j]?=some none:=by unfold A0;rw[ux,es];rcases ho with rfl|rfl<;>rfl
  have ax:Ok X.K ⟨λa=>F a\/a∈Lj,λa=>F.p a\/a∈L1++L3⟩ B H ((A0 fs).set j (some (.val (toT o)))) U []:=by
   have h0:An X.K ⟨λa=>F a\/a∈Lj,λa=>F.p a\/a∈L1++L3⟩ H (A0 fs) U []:=by have:=(An.vals ok.sl).le lF (by simp);exact An.wp this
   obtain⟨v',M1,M2,M3,z1,z2,z3,z4⟩:=h0.pick ev;have zM:M1=[]/\M2=[]/\M3=[]:=by simpa using z2.symm
   obtain⟨rfl,rfl,rfl⟩:=zM;have z5:=z4 _ H (some (.val (toT o))) (some u) [] Le.refl (λ_ m=>nomatch m) ⟨u,rfl,rt,rfl⟩;rw[A5 e1]at z5;refine⟨z5,uF,(λ_ m=>nomatch m),λa f=>?_,λi ob e=>?_,λa f=>?_,λa f z=>?_,(λ_ m=>nomatch m)⟩
   .rcases f with f|f
    .exact ok.fd a f
    .exact Ao.def q a f
   .exfalso;by_cases dz:j=i
    .subst dz;rw[uQ (by unfold A0;rw[tZ];exact hj)]at e;cases e
    .rw[uT dz]at e;unfold A0 at e;rw[ux,uc]at e;obtain⟨x,_,ex⟩:=e;split at ex<;>cases ex
   .rcases f with f|f
    .exact ok.pd a f
    .exact ok.sl.def a (mO a f)
   .rcases f with f|f
    .rcases z with z|z
     .exact ok.pf a f z
     .exact ok.nf a (mO a z) f
    .rcases z with z|z
     .exact ok.pl a (by simp[f]) z
     .exact eF a z f
  refine⟨_,B,_,⟨[],ax⟩,?_⟩;cases ef:f ((A0 fs).set j (some (.val (toT o))))with
  |exc c τ=>rw[ef]at s;exact s.elim
  |bad=>rw[ef]at s;exact s.elim
  |ok r τ =>
   rw[ef]at s;cases r with
   |nw t=>exact s.elim
   |n t=>exact s.elim
   |t t =>
    dsimp only at s;split at s
    .rename_i ha;intro F2 H2 w l2 q2;obtain⟨_,_,_,⟨_,rv⟩,_⟩:=q2;have kL:∀a∈L1++(Lj++L3),H2 a=H a:=λa m=>by
      rcases mL a m with m|m
      .exact(l2.p a (.inr m)).2
      .exact(l2.f a (.inr m)).2
     have lq:Le F H F H2:=⟨λa f=>⟨f,(l2.f a (.inl f)).2⟩,λa f=>⟨f,(l2.p a (.inl f)).2⟩⟩
     refine s F H2 w lq (RR.of ⟨L1++(Lj++L3),ok.sl.le lq kL,ok.nd,ok.nf,λa f=>by rw[(lq.f a f).2];exact ok.fd a f,ok.bo,λa f=>by rw[(lq.p a f).2];exact ok.pd a f,ok.pf,ok.pl⟩ (Ar.atom ha rv).1)
    .exact s.elim
 .exact s.elim
end
section
variable{K:Fg}{F:Wd}{H:Hp}
theorem Nm:∀{ah:List (Key×V)}{os:List FO}{L:List Addr},Aq K F H os (ah.map (·.2)) L->GY (ah.map (·.1)) os k=some o ->
  ∃v L1 A Z,Jp ah k=some v/\Ao K F H o v L1/\L=A++(L1++Z)/\∀H' o' eD,(∀a∈A++Z,H' a=H a)->Le F H F H'->Ao K F H' o' v eD->Aq K F H' (Ha (ah.map (·.1)) os k o') (ah.map (·.2)) (A++(eD++Z))
 | [],os,L,r,e=>by cases os<;>simp[GY]at e
 |(g,x)::ah,os,L,r,e=>by
  cases os with
  |nil=>simp[GY]at e
  |cons o1 os =>
   simp only[tR,Aq]at r;obtain⟨v,w,L1,L2,ee,r1,r2,rfl⟩:=r;cases ee;simp only[tR,GY]at e;by_cases hb:g=k
   .rw[if_pos hb]at e;cases e;refine⟨x,L1,[],L2,DE hb,r1,rfl,λH' o' eD kk l ro=>?_⟩;simp only[tR,Ha,hb,if_true,Aq];exact⟨x,_,eD,L2,rfl,ro,Aq.le l (λa m=>kk a (by simpa using m)) r2,rfl⟩
   .rw[if_neg hb]at e;obtain⟨v,M,A,Z,h1,h2,rfl,h3⟩:=Nm r2 e;refine⟨v,M,L1++A,Z,by rw[DG hb];exact h1,h2,by simp,λH' o' eD kk l ro=>?_⟩;have:=h3 H' o' eD (λa m=>kk a (by
     rcases tW.mp m with m|m
     .simp[m]
     .simp[m])) l ro
    simp only[tR,Ha,hb,if_false,Aq];exact⟨x,_,L1,_,rfl,r1.le l λa m=>kk a (by simp[m]),this,by simp⟩
end
section
variable{X:Cx}{Z:Xp}{x y z f:Str}{v:Expr}{fv:FS->Out Rv}{C:Addr}{p1 p2 p3 p4 p5 p6 pos:Pos}
theorem PY(hu:X.A.units+1<cLine)(c:Cls X.K C)(n:Ba X.K C f)(i jy jz:Nat)(hx:PE X (.Name x p1) (Oz i))(hy:PE X (.Name y p3) (Oz jy))(hz:PE X (.Name z p5) (Oz jz))(hv:FE X Z v fv)(kM:attributeBase (.Name x p1) f X.env (eval (.Name x p1) X.env)=eval (.Name x p1) X.env:=by rfl)
  (hs:swapsWith v (some (.Subscript (.Subscript (.Attribute (.Name x p1) f p2) (.Name y p3) p4) (.Name z p5) p6)) pos.line X.env=pure false:=by rfl) (hn:Jbf (.Name y p3):=by exact λ_ _=>rfl) :
  GS X Z (.Assign [.Subscript (.Subscript (.Attribute (.Name x p1) f p2) (.Name y p3) p4) (.Name z p5) p6] v pos) (dput2 C f i jy jz fv):=by
 refine BM (JA hu (SI hu (Kw hx kM) hy hn) hz hv hs) λD U H ao => ?_
 obtain⟨F,B,fs,ok,s⟩:= ao;refine⟨F,B,fs,ok,Bn s λr ag F1 H1 u l q s1=>?_⟩;split at s1
 .rename_i t C' gs os yt zt eo ey ez;split at s1
  .rename_i hC;subst hC;split at s1
   .rename_i ks ds k k2 ef ek p0;split at s1
    .rename_i eV eX ed;split at s1
     .rename_i dB;have ax:=q.ok;have rt:Ar X.K F1 H1 t u:=by obtain⟨_,_,_,⟨_,rt⟩,_⟩:=q;exact rt
      obtain⟨a,dx,ah,w,L1,a1,hd,rfl,e1,r1,na,nf,rG,bk⟩:=ax.fld eo ef;simp only[Ao]at r1;obtain⟨b,aG,M2,rfl,aQ,rfl,lO,rfl⟩:=r1;obtain⟨v2,N,A,Zz,e2,r2,rfl,o4⟩:=Nm lO ed;simp only[Ao]at r2;obtain⟨c2,cN,rfl,cL,rfl,lP,rfl⟩:=r2;obtain⟨L9,o9⟩:=id ax;have slot:∀{j:Nat}{t':T}{kk:Key},ag[j]?=some (some (.val t'))->F9 t'=some kk->U[j]?=some (some (kV kk)):=λ{j t' kk} ej et=>by obtain⟨w,_,_,_,e6,_,h1,_⟩:=o9.sl.pick ej;obtain⟨uy,rfl,ry,_⟩:=h1;have:=CB et ry;subst this;exact e6
      have nR:=uG.mp rG;have jv:=tQ.mp nR.2;have rJ:=tQ.mp jv.2.1;have qv:b≠c2:=λzz=>nR.1 (by rw[zz];simp)
      have fc:=nf c2 (by simp);have lq:Le F1 H1 F1 (upd H1 c2 (.l (putK cN k2 u))):=⟨λa f=>⟨f,Aj λq=>fc.1 (q▸f)⟩,λa f=>⟨f,Aj λq=>fc.2 (q▸f)⟩⟩
      obtain⟨rQ,rR⟩:=EM rt lP;have rZ:Ao X.K F1 (upd H1 c2 (.l (putK cN k2 u))) (.l (Ea (cN.map (·.1)) eX k2 t).1 (Ea (cN.map (·.1)) eX k2 t).2) (.ref c2) [c2]:=by simp only[Ao];exact⟨c2,putK cN k2 u,rfl,Ak,rQ,Ad.le lq rR,rfl⟩
      have rO:=o4 (upd H1 c2 (.l (putK cN k2 u))) _ _ (λa m=>Aj λq=>by
       subst q;rcases tW.mp m with m|m
       .exact jv.2.2 a m a (by simp) rfl
       .exact rJ.2.2 a (by simp) a m rfl) lq rZ
      obtain⟨dJ,l'⟩:=bk (.dO (aG.map (·.1)) (Ha (aG.map (·.1)) ds k (.l (Ea (cN.map (·.1)) eX k2 t).1 (Ea (cN.map (·.1)) eX k2 t).2))) (upd H1 c2 (.l (putK cN k2 u))) (λa hb _=>Aj λq=>hb (by rw[q];simp)) (by simp only[Ao];exact⟨b,aG,_,rfl,by rw[Aj qv];exact aQ,rfl,rO,rfl⟩);exact⟨_,a1,a,C',dx,ah,.ref b,rfl,hd,c,n,e1,kV k,slot ey ek,b,.ref c2,rfl,by rw[<- e2];exact Jn.k aQ,kV k2,slot ez p0,c2,_,rfl,Mf.k cL (by rw[tZ]at dB;exact vo dB FQ),s1 F1 _ U l' dJ⟩
     .exact s1.elim
    .exact s1.elim
   .exact s1.elim
  .exact s1.elim
 .exact s1.elim
end
end FL
namespace FL
open PySem PySem.Spec L2 PyProof.Rows
section
variable{X:Cx}{Z:Xp}{x:Str}{k p:Nat}{ps:List Str}{Fn:FS->Out Rv}{e o:Expr}{es:List Expr}{fa:FS->Out (List Rv)}{fo f:FS->Out Rv}{pp pos aB np aA cp fp jp:Pos}{C:Addr}{m:Str}{v:Expr}{a:Str}{j:Nat}
theorem LV(c:YD X.K X.mg x)(l:LkD X Z)(hc:X.calm=true)(ha:FE X Z v f)(hl:a.length<=1000:=by decide)(hg:Gl X x:=by rfl)(aQ:(x==("__debug__":Str))=false:=by decide)
  (he:starEach [(.JoinedStr [.FormattedValue v 114 none fp,.Constant (.str a) j cp] jp:Expr)] X.env=[(false,eval (.JoinedStr [.FormattedValue v 114 none fp,.Constant (.str a) j cp] jp) X.env)]:=by rfl) :
  GS X Z (.Raise (some (.Call (.Name x np) [.JoinedStr [.FormattedValue v 114 none fp,.Constant (.str a) j cp] jp] [] aA)) none pos) (CW x f):=by
 obtain⟨C,h1,h2,h3⟩:=c.ex;refine BM (EN (C:=C) (Z:=EZ X.K Z) ⟨h1,h3⟩ l.d.ex hc l.k (Bs (Wk ha hl) Dj he) hg aQ he rfl) λD U H ao => ?_
 obtain⟨F,B,fs,ok,s⟩:= ao;refine⟨F,B,fs,ok,Bn s λr ag F1 H1 u l q s1=>?_⟩;split at s1
 .rename_i z;split at s1
  next hz=>have z9:=q.ok;obtain⟨L,L',_,⟨_,qu⟩,_⟩:=q;have eu:u=.str z:=qu;subst eu;exact⟨z,rfl,hz,λr'=>⟨by simp,F1,B,ag,x,C,h2,rfl,z9,s1⟩⟩
  .exact s1.elim
 .exact s1.elim
end
noncomputable def Jbv:Rv->Option Int->Option Int->FS->Out Rv:=λx lo hi fs=>match x with|.t (.str z)=>if(Txt.slice z lo hi).length<=big then okT (.str (Txt.slice z lo hi)) fs else .bad|_=>.bad
noncomputable def slS(f:FS->Out Rv)(l h:FS->Out (Option Int)):FS->Out Rv:=λfs=>(f fs).bnd λx fs=>(l fs).bind λlo fs=>(h fs).bind λhi fs=>Jbv x lo hi fs
section
variable{X:Cx}{Z:Xp}{e:Expr}{lo hi:Option Expr}{f:FS->Out Rv}{l h:FS->Out (Option Int)}{pos p2:Pos}
theorem XJ(he:FE X Z e f)(hl:FP X Z lo l)(hu:FP X Z hi h):FE X Z (.Subscript e (.Slice lo hi none p2) pos) (slS f l h):=by
 refine AJ (Kv Vz he hl hu) λU H Q ao => ?_
 obtain⟨F,B,fs,ok,s⟩:= ao;refine⟨F,B,fs,ok,Ay s λx ag F1 H1 u l1 ax rx s1=>⟨F1,B,ag,ax,Ax s1 λlo av F2 H2 lI l2 q2 s2=>?_⟩⟩;obtain⟨aO,rfl⟩:=q2;refine⟨F2,B,av,aO,Ax s2 λhi cw F3 H3 eJ l3 q3 s3=>?_⟩;obtain⟨dM,rfl⟩:=q3;have jC:=(rx.le l2).le l3;unfold Jbv at s3;split at s3
 .rename_i z;split at s3
  next hz=>have eu:u=.str z:=jC;subst eu;exact⟨z,rfl,by rw[sizeLine_eq];exact uz hz (by decide),s3 F3 H3 _ Le.refl (RR.of dM rfl)⟩
  .exact s3.elim
 .exact s3.elim
end
end FL
namespace FL
open PySem PySem.Spec L2
noncomputable def D1:Int->List T->List T
 |_,[]=>[]
 |i,t::ts=>.tup [.int i,t]::D1 (i+1) ts
noncomputable def itE(f:FS->Out Rv):FS->Out (List T):=λfs=>(f fs).bnd λr fs=>match r with
 |.t x=>match Jl x with|some xs=>.ok (D1 0 xs) fs|none=>.bad
 |_=>.bad
noncomputable def Ly(n:Nat)(h:List T->FS->Option FS):T->FS->Option FS:=λt fs=>match t with|.lst ts=>if ts.length=n then h ts fs else none|_=>none
theorem Xe{X:Cx}{es:List Expr}{h:List T->FS->Option FS}{pos:Pos}{k n:Nat}(hc:X.calm=true)(h1:GTs X es h)(hn:(assignEach es X.env).length=n:=by rfl)(dH:(assignEach es X.env).findIdx? (·.1)=none:=by rfl):GT X (.Tuple es k pos) (Ly n h):=by
 refine MS (Wa hc h1 hn dH) λv U H Q ao=>?_
 obtain⟨F,B,fs,t,ok,r,s⟩:= ao;unfold Ly at s;split at s
 .rename_i ar e;split at e
  .rename_i ts;split at e
   next hl=>simp only[Ar]at r;obtain⟨a,vs,rfl,_,hs,r⟩:=r;refine⟨a,vs,rfl,.inl (.inl hs),by rw[r.len];exact hl,F,B,fs,ts,ok,r,?_⟩;rw[e];exact s
   .cases e
  .cases e
 .exact s.elim
section
variable{X:Cx}{Z:Xp}{x a a2:Str}{v w:Expr}{f g:FS->Out Rv}{j j2:Nat}{np aA cp fp gS ic jp pos:Pos}
end
noncomputable def P8:Rv->Rv->FS->Out Rv:=gI λi j fs=>if 0<j/\j.natAbs.log2<9000 then okT (.int (i/j)) fs else .bad
theorem Pc{X:Cx}:OpR X (binaryOp .FloorDiv) (rI (λ_ j=>0<j/\j.natAbs.log2<9000) λi j=>.int (i/j)):=opI λi j _ _ _ _ _ hc q=>by have h1:(0:Int)<j:=hc.1;exact PyProof.Rows.floordiv_int (by lia) (by rw[Int.fdiv_eq_ediv_of_nonneg i (by lia)];exact q) (.inl (PyProof.noPylong_of_log2 hc.2))
theorem S5{K:Fg}{Z:Xp}:OpF K Z (rI (λ_ j=>0<j/\j.natAbs.log2<9000) λi j=>.int (i/j)) P8:=MY (t:=λi j=>.int (i/j)) (λ_ _ _ _ _=>rfl) λi j fs=>by
 by_cases h:0<j/\j.natAbs.log2<9000
 .exact .inr ⟨h,if_pos h⟩
 .exact .inl (if_neg h)
theorem Ui{X:Cx}{Z:Xp}{a b:Expr}{fa fb:FS->Out Rv}{pos:Pos}(ha:FE X Z a fa)(hb:FE X Z b fb):FE X Z (.BinOp a .FloorDiv b pos) (Af P8 fa fb):=J4 S5 Pc ha hb
mutual
noncomputable def noD:T->Bool
 |.o=>true
 |.v _=>true
 |.int _=>true
 |.str _=>true
 |.tup ts=>Rh ts
 |_=>false
noncomputable def Rh:List T->Bool
 | []=>true
 |t::ts=>noD t&&Rh ts
end
noncomputable def Lx(j:Nat)(f:FS->Out Rv):FS->Out Rv:=λfs=>match fs[j]? with|some (some (.own (.l ks ts)))=>(match f ((A0 fs).set j (some (.val (.x ks ts))))with|.ok (.t t) _=>if noD t=true then .ok (.t t) fs else .bad|_=>.bad)|_=>.bad
section
variable{K:Fg}{F F':Wd}{H H':Hp}
mutual
theorem Ar.noD(hF:∀a vs,F a->H a=some (.tup vs)->F' a/\H' a=some (.tup vs)):∀{t:T}{v:V},noD t=true->Ar K F H t v->Ar K F' H' t v
 |.o,_,_,h=>h
 |.v _,_,_,h=>h
 |.int _,_,_,h=>h
 |.str _,_,_,h=>h
 |.tup ts,_,e,h=>by simp only[FL.noD]at e;simp only[Ar]at h ⊢;obtain⟨a,vs,rfl,s,r⟩:=h;exact⟨a,vs,rfl,⟨rfl,hF a vs s.2.1 s.2.2⟩,Ad.noD hF e r⟩
 |.lst _,_,e,_=>by simp[FL.noD]at e
 |.zY _,_,e,_=>by simp[FL.noD]at e
 |.l _ _,_,e,_=>by simp[FL.noD]at e
 |.dT _ _,_,e,_=>by simp[FL.noD]at e
 |.ins _ _ _,_,e,_=>by simp[FL.noD]at e
 |.x _ _,_,e,_=>by simp[FL.noD]at e
 |.zD _,_,e,_=>by simp[FL.noD]at e
theorem Ad.noD(hF:∀a vs,F a->H a=some (.tup vs)->F' a/\H' a=some (.tup vs)):∀{ts:List T}{vs:List V},Rh ts=true->Ad K F H ts vs->Ad K F' H' ts vs
 | [],_,_,h=>h
 |t::ts,_,e,h=>by simp only[Rh,uq]at e;simp only[Ad]at h ⊢;obtain⟨v,r,rfl,h1,h2⟩:=h;exact⟨v,r,rfl,Ar.noD hF e.1 h1,Ad.noD hF e.2 h2⟩
end
end
theorem Qg{X:Cx}{Z:Xp}{e:Expr}{f:FS->Out Rv}(j:Nat)(he:FE X Z e f):FE X Z e (Lx j f):=by
 refine AJ (SE he) λU H Q ao=>?_
 obtain⟨F,B,fs,⟨L,ok⟩,s⟩:= ao;unfold Lx at s;split at s
 .rename_i ks ts es;obtain⟨v,L1,Lj,L3,e1,rfl,h1,_⟩:=ok.sl.pick es;obtain⟨u,rfl,q⟩:=h1;simp only[Ao]at q;obtain⟨a,ah,rfl,ha,hk,lP,rfl⟩:=q;have nd:=ok.nd;have ma:a∈L1++([a]++L3):=by simp
  have eF:∀b∈L1++L3,b≠a:=λb hb z=>by
   subst z;rw[tQ]at nd;rcases tW.mp hb with hb|hb
   .exact nd.2.2 b hb b (by simp) rfl
   .exact(tQ.mp nd.2.1).2.2 b (by simp) b hb rfl
  have mL:∀b,b∈L1++([a]++L3)->b∈L1++L3\/b=a:=λb h=>by
   simp only[tW,ub]at h ⊢;rcases h with h|h|h
   .exact .inl (.inl h)
   .exact .inr h
   .exact .inl (.inr h)
  have mO:∀b,b∈L1++L3->b∈L1++([a]++L3):=λb h=>by rcases tW.mp h with h|h<;>simp[h]
  have fa:∀b,F b->b≠a:=λb f z=>ok.nf b (by rw[z];exact ma) f
  have pa:∀b,F.p b->b≠a:=λb f z=>ok.pl b (by rw[z];exact ma) f
  refine⟨a,ah,ha,λo=>?_⟩;have un:∀b,b≠a->upd H a (.frz o (.l ah)) b=H b:=λb z=>by unfold upd;rw[if_neg z]
  have lF:Le F H ⟨λb=>F b\/b=a,F.p⟩ (upd H a (.frz o (.l ah))):=⟨λb f=>⟨.inl f,un b (fa b f)⟩,λb f=>⟨f,un b (pa b f)⟩⟩
  have rt:Ar X.K ⟨λb=>F b\/b=a,λb=>F.p b\/b∈L1++L3⟩ (upd H a (.frz o (.l ah))) (.x ks ts) (.ref a):=by simp only[Ar];exact⟨a,ah,rfl,.inr rfl,⟨o,Ak⟩,hk,Ad.wp (F:=⟨λb=>F b\/b=a,F.p⟩) (Ad.le lF lP)⟩
  have hj:j<fs.length:=(tX.mp es).1;have ev:(A0 fs)[j]?=some none:=by unfold A0;rw[ux,es];rfl
  have ax:Ok X.K ⟨λb=>F b\/b=a,λb=>F.p b\/b∈L1++L3⟩ B (upd H a (.frz o (.l ah))) ((A0 fs).set j (some (.val (.x ks ts)))) U []:=by
   have h0:An X.K ⟨λb=>F b\/b=a,λb=>F.p b\/b∈L1++L3⟩ (upd H a (.frz o (.l ah))) (A0 fs) U []:=by have:=(An.vals ok.sl).le lF (by simp);exact An.wp this
   obtain⟨v',M1,M2,M3,z1,z2,z3,z4⟩:=h0.pick ev;have zM:M1=[]/\M2=[]/\M3=[]:=by simpa using z2.symm
   obtain⟨rfl,rfl,rfl⟩:=zM;have z5:=z4 _ (upd H a (.frz o (.l ah))) (some (.val (.x ks ts))) (some (.ref a)) [] Le.refl (λ_ m=>nomatch m) ⟨_,rfl,rt,rfl⟩;rw[A5 e1]at z5;refine⟨z5,uF,(λ_ m=>nomatch m),λb f=>?_,λi ob e=>?_,λb f=>?_,λb f z=>?_,(λ_ m=>nomatch m)⟩
   .rcases f with f|f
    .rw[un b (fa b f)];exact ok.fd b f
    .rw[f,Ak];exact nofun
   .exfalso;by_cases dz:j=i
    .subst dz;rw[uQ (by unfold A0;rw[tZ];exact hj)]at e;cases e
    .rw[uT dz]at e;unfold A0 at e;rw[ux,uc]at e;obtain⟨x,_,ex⟩:=e;split at ex<;>cases ex
   .rcases f with f|f
    .rw[un b (pa b f)];exact ok.pd b f
    .rw[un b (eF b f)];exact ok.sl.def b (mO b f)
   .rcases f with f|f
    .rcases z with z|z
     .exact ok.pf b f z
     .exact ok.nf b (mO b z) f
    .rcases z with z|z
     .exact pa b z f
     .exact eF b z f
  refine⟨_,B,_,⟨[],ax⟩,?_⟩;cases ef:f ((A0 fs).set j (some (.val (.x ks ts))))with
  |exc c τ=>rw[ef]at s;exact s.elim
  |bad=>rw[ef]at s;exact s.elim
  |ok r τ =>
   rw[ef]at s;cases r with
   |nw t=>exact s.elim
   |n t=>exact s.elim
   |t t =>
    dsimp only at s;split at s
    .rename_i hn;intro F2 H2 w l2 q2;obtain⟨_,_,o2,⟨_,rv⟩,_⟩:=q2;have mJ:H2 a=some (.frz o (.l ah)):=(l2.f a (.inr rfl)).2.trans Ak;have eY:∀b,b≠a->upd H2 a (.l ah) b=H2 b:=λb z=>by unfold upd;rw[if_neg z]
     have kL:∀b∈L1++([a]++L3),upd H2 a (.l ah) b=H b:=λb m=>by
      rcases mL b m with m|m
      .rw[eY b (eF b m),(l2.p b (.inr m)).2,un b (eF b m)]
      .rw[m,Ak,ha]
     have lq:Le F H ⟨λb=>F2 b/\b≠a,F.p⟩ (upd H2 a (.l ah)):=⟨λb f=>⟨⟨(l2.f b (.inl f)).1,fa b f⟩,by rw[eY b (fa b f),(l2.f b (.inl f)).2,un b (fa b f)]⟩,λb f=>⟨f,by rw[eY b (pa b f),(l2.p b (.inl f)).2,un b (pa b f)]⟩⟩
     refine⟨mJ,s ⟨λb=>F2 b/\b≠a,F.p⟩ (upd H2 a (.l ah)) w lq (RR.of ⟨L1++([a]++L3),ok.sl.le lq kL,nd,λb m f=>?_,λb f=>by rw[eY b f.2];exact o2.fd b f.1,ok.bo,λb f=>by rw[(lq.p b f).2];exact ok.pd b f,λb f z=>o2.pf b f.1 (l2.p b (.inl z)).1,ok.pl⟩ (Ar.noD (F:=F2) (H:=H2) (λb vs f z=>?_) hn rv))⟩
     .rcases mL b m with m|m
      .exact o2.pf b f.1 (l2.p b (.inr m)).1
      .exact f.2 m
     .have hb:b≠a:=λx=>by rw[x,mJ]at z;cases z
      exact⟨⟨f,hb⟩,(eY b hb).trans z⟩
    .exact s.elim
 .exact s.elim
noncomputable def IM(fk fv:FS->Out Rv):FS->Out Rv:=λfs=>match fk fs with|.ok (.t x) ag=>(match fv ag with|.ok (.t y) av=>(match F9 x with|some k=>.ok (.nw (.l [k] [y])) av|none=>.bad)|_=>.bad)|_=>.bad
theorem Qj{X:Cx}{Z:Xp}{k v:Expr}{fk fv:FS->Out Rv}{pos:Pos}(hk:FE X Z k fk)(hv:FE X Z v fv):FE X Z (.Dict [some k] [v] pos) (IM fk fv):=by
 refine AJ (SH (O5 hk hv Su) rfl rfl (by simp) (by simp)) λU H Q ⟨F,B,fs,⟨L,ok⟩,s⟩ p hp=>?_
 unfold IM at s;cases ek:fk fs with
 |bad=>rw[ek]at s;exact s.elim
 |exc c τ=>rw[ek]at s;exact s.elim
 |ok r ag =>
  rw[ek]at s;cases r with
  |nw o=>exact s.elim
  |n i=>exact s.elim
  |t x =>
   dsimp only at s;cases ev:fv ag with
   |bad=>rw[ev]at s;exact s.elim
   |exc c τ=>rw[ev]at s;exact s.elim
   |ok r av =>
    rw[ev]at s;cases r with
    |nw o=>exact s.elim
    |n i=>exact s.elim
    |t y =>
     dsimp only at s;split at s
     .rename_i k hk;have un:∀b,b≠p->upd H p (.l []) b=H b:=λb z=>by unfold upd;rw[if_neg z]
      have fp:∀b,F b->b≠p:=λb f z=>ok.fd b f (by rw[z];exact hp)
      have pp:∀b,F.p b->b≠p:=λb f z=>ok.pd b f (by rw[z];exact hp)
      have Lp:∀b∈L,b≠p:=λb m z=>ok.sl.def b m (by rw[z];exact hp)
      have l0:Le F H F (upd H p (.l [])):=⟨λb f=>⟨f,un b (fp b f)⟩,λb f=>⟨f,un b (pp b f)⟩⟩
      have ok0:Ok X.K ⟨F.f,λb=>F.p b\/b=p⟩ B (upd H p (.l [])) fs U L:=by
       refine⟨An.wp (ok.sl.le l0 λb m=>un b (Lp b m)),ok.nd,ok.nf,λb f=>?_,ok.bo,λb f=>?_,λb f z=>?_,λb m z=>?_⟩
       .rw[un b (fp b f)];exact ok.fd b f
       .rcases f with f|f
        .rw[un b (pp b f)];exact ok.pd b f
        .rw[f,Ak];exact nofun
       .rcases z with z|z
        .exact ok.pf b f z
        .exact fp b f z
       .rcases z with z|z
        .exact ok.pl b m z
        .exact Lp b m z
      refine⟨_,B,fs,⟨L,ok0⟩,?_⟩;rw[ek];intro F1 H1 u1 l1 q1;obtain⟨M1,_,o1,⟨_,r1⟩,_⟩:=q1;refine⟨F1,B,ag,⟨M1,o1⟩,?_⟩;rw[ev];intro F2 H2 u2 l2 q2;obtain⟨M2,_,o2,⟨_,r2⟩,_⟩:=q2;have p1:=l1.p p (.inr rfl);have p2:=l2.p p p1.1;have qi:H2 p=some (.l []):=by rw[p2.2,p1.2,Ak]
      refine⟨qi,[(k,u2)],by rw[CB hk r1];rfl,by simp,?_⟩;have eY:∀b,b≠p->upd H2 p (.l (DP [] [(k,u2)])) b=H2 b:=λb z=>by unfold upd;rw[if_neg z]
      have f2:∀b,F2 b->b≠p:=λb f z=>o2.pf b f (by rw[z];exact p2.1)
      have m2:∀b∈M2,b≠p:=λb m z=>o2.pl b m (by rw[z];exact p2.1)
      have l3:Le ⟨F2.f,F.p⟩ H2 ⟨F2.f,F.p⟩ (upd H2 p (.l (DP [] [(k,u2)]))):=⟨λb f=>⟨f,eY b (f2 b f)⟩,λb f=>⟨f,eY b (pp b f)⟩⟩
      have lq:Le F H ⟨F2.f,F.p⟩ (upd H2 p (.l (DP [] [(k,u2)]))):=⟨λb f=>by
       have a1:=l1.f b f;have a2:=l2.f b a1.1;exact⟨a2.1,by rw[eY b (fp b f),a2.2,a1.2,un b (fp b f)]⟩,λb f=>by
       have a1:=l1.p b (.inl f);have a2:=l2.p b a1.1;exact⟨f,by rw[eY b (pp b f),a2.2,a1.2,un b (pp b f)]⟩⟩
      refine s ⟨F2.f,F.p⟩ _ (.ref p) lq ⟨M2,[p],⟨(An.wp o2.sl).le l3 λb m=>eY b (m2 b m),o2.nd,o2.nf,λb f=>?_,o2.bo,λb f=>?_,λb f z=>?_,λb m z=>?_⟩,?_,?_,?_⟩
      .rw[eY b (f2 b f)];exact o2.fd b f
      .rw[(lq.p b f).2];exact ok.pd b f
      .exact o2.pf b f ((l2.p b (l1.p b (.inl z)).1).1)
      .exact o2.pl b m ((l2.p b (l1.p b (.inl z)).1).1)
      .show Ao X.K ⟨F2.f,F.p⟩ (upd H2 p (.l (DP [] [(k,u2)]))) (.l [k] [y]) (.ref p) [p];simp only[Ao,Ad];exact⟨p,_,rfl,Ak,rfl,⟨u2,[],rfl,Ar.le l3 (Ar.wp r2),rfl⟩,rfl⟩
      .rw[tQ];refine⟨o2.nd,by simp,λa m b mb z=>?_⟩;rw[ub.mp mb]at z;exact m2 a m z
      .intro b m;rw[ub.mp m];exact⟨λf=>f2 p f rfl,λf=>pp p f rfl⟩
     .exact s.elim
section
variable{K:Fg}{F F':Wd}{H H':Hp}{xs:List V}
end
theorem N0:∀{xs:List T}{k:Int}{i:Nat}{t:T},(D1 k xs)[i]?=some t->∃x,xs[i]?=some x/\t=.tup [.int (k+i),x]
 | [],k,i,t,h=>by simp[D1]at h
 |x::xs,k,0,t,h=>by
  have:T.tup [.int k,x]=t:=by simpa[D1]using h
  exact⟨x,rfl,by rw[<- this];simp⟩
 |x::xs,k,i+1,t,h=>by
  have h:(D1 (k+1) xs)[i]?=some t:=by simpa[D1]using h
  obtain⟨y,h1,h2⟩:=N0 h;exact⟨y,by simpa using h1,by rw[h2,show k+1+(i:Int)=k+((i+1:Nat):Int) by lia]⟩
theorem K0:∀(xs:List T)(k:Int),(D1 k xs).length=xs.length
 | [],_=>rfl
 |_::xs,k=>by simp[D1,K0 xs]
theorem Py{K:Fg}{F:Wd}{H:Hp}{b:Bool}{a:Addr}{vs:List V}{xs:List T}(h1:∀(F':Wd)(H':Hp),(∀a,F a->F' a/\H' a=H a)->SqB b K H' a vs)
  (r1:Ad K F H xs vs):JOk K F H (Ite K b a) (D1 0 xs):=by
 intro F' H' l ⟨B,fs,U,ok⟩ i;have q1:=Ad.lf l r1;refine⟨λt et=>?_,λhl=>⟨vs,h1 F' H' l,by rw[r1.len];rw[K0]at hl;exact hl⟩⟩;obtain⟨x,ex,rfl⟩:=N0 et;obtain⟨v,ev,rv⟩:=q1.at ex;refine⟨⟨vs,v,h1 F' H' l,ev⟩,λz fW hy=>?_⟩;obtain⟨T,vx,hn,rfl,rfl,g1⟩:=hy;have e1:=g1 vs (h1 F' H' l);rw[ev]at e1;cases e1;refine⟨Ow F' T,⟨AN ok hn,λB fs U k=>k.alloc hn⟩,?_⟩;simp only[Ar];exact⟨T,[.int i,v],rfl,⟨rfl,.inr rfl,Ak⟩,by simp only[Ad];exact⟨.int i,[v],rfl,by simp[Ar],v,[],rfl,rv.le (AN ok hn),rfl⟩⟩
theorem Ua{X:Cx}{Z:Xp}{a:Expr}{fa:FS->Out Rv}{p pos bJ:Pos}{bz:List Expr}{k0:Nat}(hm:X.mg "enumerate"=none)(ha:FE X Z a fa)(hg:Gl X "enumerate":=by rfl)
  (hs:starEach [a] X.env=[(false,eval a X.env)]:=by rfl):FI X Z (.Tuple bz k0 bJ) (.Call (.Name "enumerate" p) [a] [] pos) (itE fa):=by
 refine Ij (Sz hg hm (Bs ha Dj hs) hs) λU H Q ao=>?_
 obtain⟨F,B,fs,ok,s⟩:= ao;refine⟨F,B,fs,ok,Ay s λr ag F1 H1 u l1 ax rx s1=>?_⟩;split at s1
 .rename_i x;split at s1
  next xs e1=>obtain⟨b1,a1,vs,rfl,q1,h1⟩:=E7 rx e1;exact⟨b1,a1,rfl,⟨vs,h1 F1 H1 λ_ f=>⟨f,rfl⟩⟩,s1 F1 H1 _ Le.refl ⟨ax,Py h1 q1⟩⟩
  .exact s1.elim
 .exact s1.elim
end FL
namespace Sy
open PySem PySem.Spec L2 FL
abbrev xrs:List Str:=["BadCount","BadKind","NoFunction","NoMaker","NoName","NotLess"]
abbrev xds:List Str:=["BadCount","BadKind","BadName","BadText","Groundless","NoFunction","NoKind","NoMaker","NoName","NoPlace","NoSaying","NotLess","NotShown","SayError","TooLong","Twice"]
noncomputable def GX(c d:Str):Bool:=c==d||d == "SayError"
noncomputable def top(i:Nat):Stmt:=PySem.Challenge.pw_stairsay_k13_kinds_of_expressions.main.body.getD i (.Pass ⟨0,0,0,0⟩)
structure Tx(K:Fg)(mg:Str->Option Value)(ak:Addr)(aj:Addr)(af:Addr):Prop where
 zw:mg "ValueError"=none
 yS:mg "all"=none
 yR:mg "any"=none
 zb:mg "dict"=none
 zp:mg "enumerate"=none
 yQ:mg "int"=none
 zT:mg "isinstance"=none
 yP:mg "len"=none
 za:mg "list"=none
 yY:mg "range"=none
 zm:mg "reversed"=none
 yO:mg "str"=none
 yN:mg "sum"=none
 zj:mg "tuple"=none
 yX:mg "zip"=none
 zf:∃t,mg "LETTERS"=some (.str ("abcdefghijklmnopqrstuvwxyz":Str) t)
 zU:∃t,mg "MOST_ARGUMENTS"=some (.int 3 t)
 zJ:∃t,mg "MOST_KINDS"=some (.int 4 t)
 zO:∃t,mg "MOST_LETTERS"=some (.int 12 t)
 zK:∃t,mg "MOST_MAKERS"=some (.int 4 t)
 zI:∃t,mg "MOST_PARTS"=some (.int 2 t)
 zW:Cls K ak
 zr:Cls K aj
 zq:Cls K af
 zG:Ba K ak "heads"
 z0:Ba K ak "rows_by_function"
 zF:Ba K ak "stock"
 zC:Ba K aj "heads"
 zQ:Ba K aj "kinds_by_name"
 zE:Ba K aj "lessers"
 zv:Ba K aj "own"
 zB:Ba K aj "stock"
 zP:Ba K af "home_by_maker"
 zS:Ba K af "makers_by_kind"
 zR:Ba K af "parts_by_maker"
 xt:Jk K mg xrs xds GX
noncomputable def Ot:FS->SO :=
  (Al (ifS (Ki (asB (Af (gEq false) (Af Cd (Aa 0) (gc (.int 2))) (gc (.int 1)))) (asB (Af gGt (Aa 0) (Af JW (gc (.int 10)) (gc (.int 30)))))) (retS (Af DD (Aa 0) (gc (.int 2)))) nxS)
  (Al (AB 2 (Af Cd (Aa 0) (Af JW (gc (.int 10)) (gc (.int 60)))))
  (Al (AB 2 (Af Cd (Af Bi (Af Av (Af Av (Af Bi (Aa 2) (Aa 2)) (Af Bi (Af Bi (gc (.int 40503)) (Aa 1)) (Aa 1))) (gc (.int 7919))) (gc (.int 1812433253982451697))) (Af Av (Af JW (gc (.int 10)) (gc (.int 18))) (gc (.int 9)))))
  (retS (Af Cd (Af Bi (Af Av (Af Bi (Aa 2) (Aa 2)) (Aa 1)) (gc (.int 739108512309184756019283746561))) (Af Av (Af JW (gc (.int 10)) (gc (.int 40))) (gc (.int 121))))))))
noncomputable def Bx:FS->Out Rv:=Bq 1 (Ot)
noncomputable def GW:FS->SO :=
  (Al (AB 2 (gc (.str ("":Str))))
  (Al (B4 (LR (Ab (Aa 1) Ai)) (tgN 3) (Al (AB 2 (Af Av (Aa 2) (Af AO (gc (.str ("abcdefghijklmnopqrstuvwxyz":Str))) (Af Cd (Aa 0) (gc (.int 26))))))
  (AB 0 (Af DD (Aa 0) (gc (.int 26))))))
  (retS (Aa 2))))
noncomputable def Cy:FS->Out Rv:=Bq 2 (GW)
noncomputable def Lg:FS->SO :=
  (Al (AB 2 (Af Cd (Aa 0) (gc (.int 8))))
  (Al (AB 3 (Ap DV Ai))
  (Al (B4 (LR (Ab (Aa 1) Ai)) (tgN 4) (Al (AB 5 (Af Av (Af DD (Aa 0) (gc (.int 8))) (Af Bi (Af Bi (Af Av (Af Bi (Aa 4) (Aa 4)) (gc (.int 1))) (Af JW (gc (.int 7919)) (gc (.int 4)))) (Ac Gm (Ab (Af gGt (Af Cd (Aa 0) (gc (.int 3))) (gc (.int 0))) Ai)))))
  (Al (AB 6 (fz (Ac (Ah 2 Cy) (Ae (fz (Aa 5)) (Ae (Af Av (Af Av (Aa 2) (gc (.int 1))) (Af Cd (Af DD (Aa 0) (gc (.int 24))) (Af JV (gc (.int 12)) (Aa 2)))) Ai)))))
  (Al (AB 7 (Af AO (gc (.str ("abcdefghijklmnopqrstuvwxyz":Str))) (Af Cd (Af Av (Aa 4) (Aa 0)) (gc (.int 26)))))
  (By (CF Hv (Aa 3) (Ab (Af Av (Af Av (slS (Aa 6) noP (BK (Aa 2))) (Aa 7)) (slS (Aa 6) (BK (Af Av (Aa 2) (gc (.int 1)))) noP)) Ai)))))))
  (retS (Aa 3)))))
noncomputable def Bm:FS->Out Rv:=Bq 6 (Lg)
noncomputable def De:FS->SO :=
  (Al (ifS (asB (Af gLt (Aa 1) (Ac AR (Ab (Aa 0) Ai)))) (retS (Af AO (Aa 0) (fz (Aa 1)))) nxS)
  (retS (gc (.int 0))))
noncomputable def Az:FS->Out Rv:=Bq 0 (De)
noncomputable def Ll:FS->SO :=
  (Al (AB 1 (Af Av (gc (.int 1)) (Af Cd (fz (Ac (Ah 2 Bx) (Ae (fz (Ac (Ah 2 Az) (Ae (fz (Aa 0)) (Ae (gc (.int 1)) Ai)))) (Ae (gc (.int 1)) Ai)))) (gc (.int 3)))))
  (Al (AB 2 (fz (Ac (Ah 2 Bm) (Ae (fz (Ac (Ah 2 Bx) (Ae (fz (Ac (Ah 2 Az) (Ae (fz (Aa 0)) (Ae (gc (.int 2)) Ai)))) (Ae (gc (.int 2)) Ai)))) (Ae (fz (Aa 1)) Ai)))))
  (Al (AB 3 (fz (Ac (Ah 2 Bm) (Ae (fz (Ac (Ah 2 Bx) (Ae (fz (Ac (Ah 2 Az) (Ae (fz (Aa 0)) (Ae (gc (.int 2)) Ai)))) (Ae (gc (.int 3)) Ai)))) (Ae (gc (.int 16)) Ai)))))
  (Al (AB 4 (Ap DV Ai))
  (Al (B4 (LR (Ab (Aa 1) Ai)) (tgN 5) (Al (AB 6 (fz (Ac (Ah 2 Bx) (Ae (fz (Ac (Ah 2 Az) (Ae (fz (Aa 0)) (Ae (Af Av (gc (.int 3)) (Aa 5)) Ai)))) (Ae (gc (.int 4)) Ai)))))
  (Al (AB 7 (Ap DV Ai))
  (Al (B4 (LR (Ab (Af Av (gc (.int 2)) (Af Cd (Aa 6) (gc (.int 3)))) Ai)) (tgN 8) (Al (AB 6 (Af DD (Aa 6) (gc (.int 3))))
  (Al (AB 9 (Ap DV Ai))
  (Al (B4 (LR (Ab (Af Bi (Af Cd (Aa 6) (gc (.int 3))) (Ac Gm (Ab (orV (Af gGt (Aa 5) (gc (.int 0))) (Af gGt (Aa 8) (gc (.int 0)))) Ai))) Ai)) (tgN 10) (Al (AB 6 (Af DD (Aa 6) (gc (.int 3))))
  (By (CF Hv (Aa 9) (Ab (Af AO (Aa 2) (Af Cd (Aa 6) (Af AO (Ap BV (Ab (fz (Aa 1)) (Ab (fz (Aa 5)) Ai))) (Ac Gm (Ab (Af (gEq false) (Aa 8) (gc (.int 0))) Ai))))) Ai)))))
  (Al (AB 6 (Af DD (Aa 6) (gc (.int 3))))
  (By (CF Hv (Aa 7) (Ab (Ap AQ (Ab (Af AO (Aa 3) (Af Av (Af Bi (gc (.int 4)) (Aa 5)) (Aa 8))) (Ab (Ac Bf (Ab (Aa 9) Ai)) Ai))) Ai))))))))
  (By (CF Hv (Aa 4) (Ab (Ap AQ (Ab (Af AO (Aa 2) (fz (Aa 5))) (Ab (fz (Aa 7)) Ai))) Ai)))))))
  (retS (Aa 4)))))))
noncomputable def DY:FS->Out Rv:=Bq 10 (Ll)
noncomputable def FZ:FS->SO :=
  (Al (AB 5 (Ap DV Ai))
  (Al (B4 (itZ (Aa 4) (Aa 3)) (AL 2 (Ag (tgN 6) (Ag (tgN 7) AG))) (ifS (asB (Af (gEq false) (Aa 7) (Aa 1))) (By (CF Hv (Aa 5) (Ab (Ap AQ (Ab (gc (.str ("call":Str))) (Ab (fz (Aa 0)) (Ab (Ap AQ (Ab (Ap AQ (Ab (gc (.str ("name":Str))) (Ab (fz (Aa 6)) Ai))) Ai)) Ai)))) Ai))) (By (CF Hv (Aa 5) (Ab (Ap AQ (Ab (gc (.str ("name":Str))) (Ab (fz (Aa 6)) Ai))) Ai)))))
  (retS (Ap AQ (Ab (Ac Bf (Ab (slF (Aa 4) noP (BK (Ac AR (Ab (Aa 3) Ai)))) Ai)) (Ab (Ap AQ (Ab (gc (.str ("make":Str))) (Ab (fz (Aa 2)) (Ab (Ac Bf (Ab (Aa 5) Ai)) Ai)))) Ai))))))
noncomputable def CL:FS->Out Rv:=Bq 3 (FZ)
noncomputable def Jf:FS->SO :=
  (Al (B4 (itU (fz (Aa 0))) (AL 2 (Ag (tgN 2) (Ag (tgN 3) AG))) (ifS (asB (Af (gEq false) (Aa 2) (Aa 1))) (retS (Aa 3)) nxS))
  (retS (Ap BV Ai)))
noncomputable def Cw:FS->Out Rv:=Bq 2 (Jf)
noncomputable def Je(rec:FS->Out Rv):FS->SO :=
  (Al (ifS (asB (Af (gEq false) (Af AO (Aa 0) (gc (.int 0))) (gc (.str ("name":Str))))) (retS (Af AO (Ap BV (Ab (fz (Aa 0)) (Ab (fz (Aa 2)) Ai))) (Ac Gm (Ab (Af (gEq false) (Af AO (Aa 0) (gc (.int 1))) (Aa 1)) Ai)))) nxS)
  (retS (Ap AQ (Ab (Af AO (Aa 0) (gc (.int 0))) (Ab (Af AO (Aa 0) (gc (.int 1))) (Ab (Ac Bf (Ab (Cr false [none,some 1,some 2] (itU (Af AO (Aa 0) (gc (.int 2)))) (tgN 0) F8 (fz (Ac (Ah 3 rec) (Ae (fz (Aa 0)) (Ae (fz (Aa 1)) (Ae (fz (Aa 2)) Ai)))))) Ai)) Ai))))))
noncomputable def Et:Nat->FS->Out Rv
 |0=>λ_=>.bad
 |n+1=>Bq 0 (Je (Et n))
noncomputable def HG(rec:FS->Out Rv):FS->SO :=
  (Al (EY (Af AO (fz (Ac (Ah 2 Cw) (Ae (fz (Aa 0)) (Ae (fz (Aa 1)) Ai)))) (gc (.int 0))) (AL 2 (Ag (tgN 2) (Ag (tgN 3) AG))))
  (retS (Ap AQ (Ab (gc (.str ("make":Str))) (Ab (fz (Aa 2)) (Ab (Ac Bf (Ab (Cr false [none,some 0] (itU (fz (Aa 3))) (tgN 0) F8 (fz (Ac (Ah 2 rec) (Ae (fz (Aa 1)) (Ae (fz (Aa 0)) Ai))))) Ai)) Ai))))))
noncomputable def Ci:Nat->FS->Out Rv
 |0=>λ_=>.bad
 |n+1=>Bq 2 (HG (Ci n))
noncomputable def FX(rec:FS->Out Rv):FS->SO :=
  (Al (AB 6 (Cr false [none,some 3,some 1] (itD (Aa 1)) (tgN 0) (asB (Af (gEq false) (Af AO (Aa 2) (fz (Aa 0))) (Aa 1))) (fz (Aa 0))))
  (Al (AB 7 (Cr false [none,some 3,some 2] (itD (Aa 2)) (tgN 0) (asB (Af (gEq false) (Af AO (Af AO (Aa 2) (fz (Aa 0))) (gc (.int 1))) (Aa 1))) (fz (Aa 0))))
  (Al (AB 8 (Af Cd (Aa 4) (gc (.int 5))))
  (Al (AB 4 (Af DD (Aa 4) (gc (.int 5))))
  (Al (ifS (Ki (asB (Af gGt (Ac AR (Ab (Aa 6) Ai)) (gc (.int 0)))) (orT (asB (Af gLe (Aa 5) (gc (.int 1)))) (asB (Af gLt (Aa 8) (gc (.int 2)))))) (retS (Ap BV (Ab (Ap AQ (Ab (gc (.str ("name":Str))) (Ab (Af AO (Aa 6) (Af Cd (Aa 4) (Ac AR (Ab (Aa 6) Ai)))) Ai))) (Ab (Af DD (Aa 4) (Ac AR (Ab (Aa 6) Ai))) Ai)))) nxS)
  (Al (ifS (asB (Af gLe (Aa 5) (gc (.int 1)))) (retS (Ap BV (Ab (fz (Ac (Ah 2 (Ci 8)) (Ae (fz (Aa 0)) (Ae (fz (Aa 3)) Ai)))) (Ab (fz (Aa 4)) Ai)))) nxS)
  (Al (AB 9 (gc (.str ("make":Str))))
  (Al (AB 10 (fz (Ac (Ah 2 Cw) (Ae (fz (Aa 0)) (Ae (fz (Aa 3)) Ai)))))
  (Al (EY (Af AO (Aa 10) (Af Cd (Aa 4) (Ac AR (Ab (Aa 10) Ai)))) (AL 2 (Ag (tgN 11) (Ag (tgN 12) AG))))
  (Al (ifS (Ki (asB (Af gGt (Ac AR (Ab (Aa 7) Ai)) (gc (.int 0)))) (asB (Af gGt (Aa 8) (gc (.int 2))))) (Al (AB 9 (gc (.str ("call":Str))))
  (Al (AB 11 (Af AO (Aa 7) (Af Cd (Aa 4) (Ac AR (Ab (Aa 7) Ai)))))
  (AB 12 (Af AO (Af AO (Aa 2) (fz (Aa 11))) (gc (.int 0)))))) nxS)
  (Al (AB 4 (Af DD (Aa 4) (gc (.int 12))))
  (Al (AB 13 (Ap DV Ai))
  (Al (B4 (itU (fz (Aa 12))) (tgN 14) (Al (EY (fz (Ac (Ah 6 rec) (Ae (fz (Aa 0)) (Ae (fz (Aa 1)) (Ae (fz (Aa 2)) (Ae (fz (Aa 14)) (Ae (fz (Aa 4)) (Ae (Af JV (Aa 5) (gc (.int 1))) Ai)))))))) (Ly 2 (Ag (tgN 15) (Ag (tgN 4) AG))))
  (By (CF Hv (Aa 13) (Ab (fz (Aa 15)) Ai)))))
  (retS (Ap BV (Ab (Ap AQ (Ab (fz (Aa 9)) (Ab (fz (Aa 11)) (Ab (Ac Bf (Ab (Aa 13) Ai)) Ai)))) (Ab (fz (Aa 4)) Ai)))))))))))))))))
noncomputable def Bw:Nat->FS->Out Rv
 |0=>λ_=>.bad
 |n+1=>Bq 10 (FX (Bw n))
noncomputable def HH:FS->SO :=
  (retS (Af AO (fz (Ac (Ah 6 (Bw 6)) (Ae (fz (Aa 0)) (Ae (fz (Aa 1)) (Ae (fz (Aa 2)) (Ae (fz (Aa 3)) (Ae (fz (Aa 4)) (Ae (fz (Aa 5)) Ai)))))))) (gc (.int 0))))
noncomputable def CK:FS->Out Rv:=Bq 0 (HH)
noncomputable def Ou:FS->SO :=
  (Al (EY (fz (Aa 2)) (AL 3 (Ag (tgN 6) (Ag (tgN 7) (Ag (tgN 8) AG)))))
  (Al (ifS (orT (asB (Af (gEq false) (Ac AR (Ab (Aa 4) Ai)) (gc (.int 0)))) (asB (Af (gEq false) (Af Cd (Aa 5) (gc (.int 4))) (gc (.int 0))))) (retS (Ac (Ah 6 CK) (Ae (fz (Aa 0)) (Ae (fz (Aa 3)) (Ae (fz (Aa 1)) (Ae (fz (Aa 8)) (Ae (Af DD (Aa 5) (gc (.int 8))) (Ae (gc (.int 3)) Ai)))))))) nxS)
  (Al (AB 9 (Ac GN (Ab (Aa 3) Ai)))
  (Al (Ca (fz (Aa 8)) (Aa 9) (gc (.str ("":Str))))
  (Al (AB 10 (Ap DV (Ab (Ap AQ (Ab (gc (.str ("name":Str))) (Ab (Af AO (Aa 4) (Af Cd (Af DD (Aa 5) (gc (.int 4))) (Ac AR (Ab (Aa 4) Ai)))) Ai))) Ai)))
  (Al (AB 5 (Af DD (Aa 5) (gc (.int 8))))
  (Al (B4 (itU (slF (Aa 7) (BK (gc (.int 1))) noP)) (tgN 11) (Al (EY (fz (Ac (Ah 6 (Bw 6)) (Ae (fz (Aa 0)) (Ae (fz (Aa 3)) (Ae (fz (Aa 1)) (Ae (fz (Aa 11)) (Ae (fz (Aa 5)) (Ae (gc (.int 2)) Ai)))))))) (Ly 2 (Ag (tgN 12) (Ag (tgN 5) AG))))
  (By (CF Hv (Aa 10) (Ab (fz (Aa 12)) Ai)))))
  (retS (Ac (Ah 3 (Et 20)) (Ae (fz (Ac (Ah 6 CK) (Ae (fz (Aa 0)) (Ae (fzD (Aa 9)) (Ae (fz (Aa 1)) (Ae (fz (Aa 8)) (Ae (fz (Aa 5)) (Ae (gc (.int 3)) Ai)))))))) (Ae (gc (.str ("":Str))) (Ae (Ap AQ (Ab (gc (.str ("call":Str))) (Ab (fz (Aa 6)) (Ab (Ac Bf (Ab (Aa 10) Ai)) Ai)))) Ai))))))))))))
noncomputable def Fz:FS->Out Rv:=Bq 7 (Ou)
noncomputable def FY:FS->SO :=
  (Al (AB 4 (fz (Ac (Ah 2 Bm) (Ae (Af DD (Aa 3) (gc (.int 11))) (Ae (gc (.int 4)) Ai)))))
  (Al (AB 5 (Cr false [none,some 0,some 3] (LR (Ab (Af Av (gc (.int 1)) (Af Cd (Aa 3) (gc (.int 3)))) Ai)) (tgN 0) F8 (Af AO (Af AO (Aa 1) (Af Cd (Af DD (Aa 2) (Af Av (gc (.int 3)) (Af Bi (gc (.int 2)) (Aa 0)))) (Ac AR (Ab (Aa 1) Ai)))) (gc (.int 0)))))
  (Al (AB 6 (Af AO (Af AO (Aa 0) (Af Cd (Af DD (Aa 3) (gc (.int 100))) (Ac AR (Ab (Aa 0) Ai)))) (gc (.int 0))))
  (Al (AB 7 (slF (Aa 4) (BK (gc (.int 2))) (BK (Af Av (gc (.int 1)) (Ac AR (Ab (Aa 5) Ai))))))
  (Al (AB 8 (Ap DV Ai))
  (Al (B4 (itE (fz (Ac (Ah 2 Cw) (Ae (fz (Aa 0)) (Ae (Af AO (Aa 5) (gc (.int 0))) Ai))))) (AL 2 (Ag (tgN 9) (Ag (AL 2 (Ag (tgN 10) (Ag (tgN 11) AG))) AG))) (Al (AB 12 (slF (Aa 4) noP (BK (Ac AR (Ab (Aa 11) Ai)))))
  (Al (AB 13 (L5 (Ab (fz (Af Av (Aa 12) (Aa 7))) (Ab (fz (Af Av (fz (Ac B3 (Ab (Aa 11) Ai))) (slF (Aa 5) (BK (gc (.int 1))) noP))) Ai))))
  (Al (AB 14 (Cr false [none,none,some 5] (itZ (Aa 12) (Aa 11)) (AL 2 (Ag (tgN 0) (Ag (tgN 1) AG))) (asB (Af (gEq false) (Aa 1) (Af AO (Aa 2) (gc (.int 0))))) (fz (Aa 0))))
  (Al (AB 15 (fz (Ac (Ah 2 Bx) (Ae (Af Cd (Aa 3) (Af JW (gc (.int 10)) (gc (.int 18)))) (Ae (Af Av (gc (.int 70)) (Aa 9)) Ai)))))
  (Al (ifS (asB (Af gGt (Aa 3) (Af JW (gc (.int 10)) (gc (.int 41))))) (Al (AB 3 (Af P8 (Aa 3) (Af JW (gc (.int 10)) (gc (.int 40)))))
  (AB 15 (fz (Aa 3)))) nxS)
  (By (CF Hv (Aa 8) (Ab (Ap AQ (Ab (Ac Bf (Ab (Aa 12) Ai)) (Ab (fz (Ac (Ah 6 Fz) (Ae (fz (Aa 0)) (Ae (fz (Aa 2)) (Ae (Ap AQ (Ab (fz (Aa 1)) (Ab (fz (Aa 5)) (Ab (fz (Aa 6)) Ai)))) (Ae (fzD (Aa 13)) (Ae (fz (Aa 14)) (Ae (fz (Aa 15)) Ai)))))))) Ai))) Ai)))))))))
  (retS (Ap AQ (Ab (fz (Aa 1)) (Ab (Ac Bf (Ab (Aa 5) Ai)) (Ab (fz (Aa 6)) (Ab (Ac Bf (Ab (Aa 7) Ai)) (Ab (Ac Bf (Ab (Aa 8) Ai)) Ai)))))))))))))
noncomputable def B5:FS->Out Rv:=Bq 12 (FY)
noncomputable def Ey:FS->SO :=
  (Al (AB 2 (slF (fz (Ac (Ah 2 Bm) (Ae (fz (Ac (Ah 2 Bx) (Ae (fz (Ac (Ah 2 Az) (Ae (fz (Aa 0)) (Ae (gc (.int 2)) Ai)))) (Ae (gc (.int 3)) Ai)))) (Ae (gc (.int 16)) Ai)))) (BK (gc (.int 12))) noP))
  (Al (AB 3 (fz (Ac (Ah 2 Bx) (Ae (fz (Ac (Ah 2 Az) (Ae (fz (Aa 0)) (Ae (gc (.int 6)) Ai)))) (Ae (gc (.int 5)) Ai)))))
  (Al (EY (Af AO (Aa 1) (Af Cd (Aa 3) (Ac AR (Ab (Aa 1) Ai)))) (AL 2 (Ag (tgN 4) (Ag (tgN 5) AG))))
  (Al (AB 6 (fz (Ac (Ah 2 Bm) (Ae (Af DD (Aa 3) (gc (.int 5))) (Ae (gc (.int 2)) Ai)))))
  (Al (AB 7 (Cr false [none,none,some 4,some 6,some 2] (itU (fz (Aa 5))) (AL 2 (Ag (tgN 0) (Ag (tgN 1) AG))) F8 (fz (Ac (Ah 5 CL) (Ae (Af AO (Aa 4) (gc (.int 0))) (Ae (fz (Aa 2)) (Ae (fz (Aa 0)) (Ae (fz (Aa 1)) (Ae (fz (Aa 3)) Ai)))))))))
  (Al (AB 8 (Ap DV (Ab (Ap AQ (Ab (Af AO (Aa 2) (gc (.int 0))) (Ab (Ap AQ (Ab (fz (Aa 4)) Ai)) (Ab (fz (Aa 4)) (Ab (Ap AQ Ai) (Ab (Ac Bf (Ab (Aa 7) Ai)) Ai)))))) Ai)))
  (Al (AB 9 (IM (Af AO (Aa 2) (gc (.int 0))) (Ap AQ (Ab (Ap AQ (Ab (fz (Aa 4)) Ai)) (Ab (fz (Aa 4)) Ai)))))
  (Al (B4 (LR (Ab (Af Cd (Af DD (Aa 3) (gc (.int 3))) (gc (.int 4))) Ai)) (tgN 10) (Al (AB 11 (fz (Lx 9 (Ac (Ah 4 B5) (Ae (fz (Aa 1)) (Ae (Af AO (Aa 2) (Af Av (gc (.int 1)) (Aa 10))) (Ae (Aa 9) (Ae (fz (Ac (Ah 2 Bx) (Ae (fz (Ac (Ah 2 Az) (Ae (fz (Aa 0)) (Ae (Af Av (gc (.int 7)) (Aa 10)) Ai)))) (Ae (gc (.int 7)) Ai)))) Ai))))))))
  (Al (By (CF Hv (Aa 8) (Ab (fz (Aa 11)) Ai)))
  (Ca (Ap AQ (Ab (Af AO (Aa 11) (gc (.int 1))) (Ab (Af AO (Aa 11) (gc (.int 2))) Ai))) (Aa 9) (Af AO (Aa 11) (gc (.int 0)))))))
  (retS (Aa 8))))))))))
noncomputable def BP:FS->Out Rv:=Bq 10 (Ey)
noncomputable def Lm:FS->SO :=
  (Al (AB 1 EE)
  (Al (B4 (itU (fz (Aa 0))) (tgN 2) (Ca (Ap AQ (Ab (Af AO (Aa 2) (gc (.int 1))) (Ab (Af AO (Aa 2) (gc (.int 2))) Ai))) (Aa 1) (Af AO (Aa 2) (gc (.int 0)))))
  (retS (Aa 1))))
noncomputable def DZ:FS->Out Rv:=Bq 2 (Lm)
noncomputable def Lh:FS->SO :=
  (Al (B4 (itU (fz (Aa 0))) (AL 2 (Ag (tgN 2) (Ag (tgN 3) AG))) (B4 (itU (fz (Aa 3))) (AL 2 (Ag (tgN 4) (Ag (tgN 5) AG))) (ifS (asB (Af (gEq false) (Aa 4) (Aa 1))) (retS (Ap AQ (Ab (fz (Aa 2)) (Ab (fz (Aa 5)) Ai)))) nxS)))
  (retS (gc .o)))
noncomputable def EU:FS->Out Rv:=Bq 4 (Lh)
noncomputable def DA(rec:FS->Out Rv):FS->SO :=
  (Al (EY (slF (Aa 5) noP (BK (gc (.int 2)))) (AL 2 (Ag (tgN 6) (Ag (tgN 7) AG))))
  (Al (ifS (asB (Af (gEq false) (Aa 6) (gc (.str ("name":Str))))) (Al (ifS (asB (Af (Dh false) (fz (Aa 7)) (Aa 1))) (retS (Af AO (Aa 1) (fz (Aa 7)))) nxS)
  (retS (gc (.str ("NoName":Str))))) nxS)
  (Al (AB 8 (fz (Ac (Ah 2 EU) (Ae (fz (Aa 0)) (Ae (fz (Aa 7)) Ai)))))
  (Al (ifS (asB (Af (gEq false) (Aa 6) (gc (.str ("make":Str))))) (Al (ifS (asB (Af (Rn false) (Aa 8) (gc .o))) (retS (gc (.str ("NoMaker":Str)))) nxS)
  (EY (fz (Aa 8)) (AL 2 (Ag (tgN 9) (Ag (tgN 10) AG))))) (Al (ifS (asB (Af (Dh true) (fz (Aa 7)) (Aa 2))) (retS (gc (.str ("NoFunction":Str)))) nxS)
  (EY (Af AO (Aa 2) (fz (Aa 7))) (AL 2 (Ag (tgN 10) (Ag (tgN 9) AG))))))
  (Al (ifS (asB (Af (gEq true) (Ac AR (Ab (Af AO (Aa 5) (gc (.int 2))) Ai)) (Ac AR (Ab (Aa 10) Ai)))) (retS (gc (.str ("BadCount":Str)))) nxS)
  (Al (ifS (Ki (asB (Af (gEq false) (Aa 6) (gc (.str ("call":Str))))) (asB (Af (gEq false) (Aa 7) (Aa 3)))) (ifS (orT (asB (Af (gEq true) (Af AO (Af AO (Af AO (Aa 5) (gc (.int 2))) (gc (.int 0))) (gc (.int 0))) (gc (.str ("name":Str))))) (asB (Af (Dh true) (Af AO (Af AO (Af AO (Aa 5) (gc (.int 2))) (gc (.int 0))) (gc (.int 1))) (Aa 4)))) (retS (gc (.str ("NotLess":Str)))) nxS) nxS)
  (Al (B4 (itZ (Aa 10) (Af AO (Aa 5) (gc (.int 2)))) (AL 2 (Ag (tgN 11) (Ag (tgN 12) AG))) (Al (AB 13 (fz (Ac (Ah 6 rec) (Ae (fz (Aa 0)) (Ae (fz (Aa 1)) (Ae (fz (Aa 2)) (Ae (fz (Aa 3)) (Ae (fz (Aa 4)) (Ae (fz (Aa 12)) Ai)))))))))
  (Al (ifS (asB (Af (Dh false) (fz (Aa 13)) (Ap BV (Ab (gc (.str ("NoName":Str))) (Ab (gc (.str ("NoMaker":Str))) (Ab (gc (.str ("NoFunction":Str))) (Ab (gc (.str ("BadCount":Str))) (Ab (gc (.str ("NotLess":Str))) (Ab (gc (.str ("BadKind":Str))) Ai))))))))) (retS (Aa 13)) nxS)
  (ifS (asB (Af (gEq true) (Aa 13) (Aa 11))) (retS (gc (.str ("BadKind":Str)))) nxS))))
  (retS (Aa 9)))))))))
noncomputable def Dw:Nat->FS->Out Rv
 |0=>λ_=>.bad
 |n+1=>Bq 8 (DA (Dw n))
noncomputable def FU:FS->SO :=
  (Al (ifS (GF (asB (chain gLe gLe (gc (.int 1)) (Ac AR (Ab (Aa 0) Ai)) (gc (.int 12))))) (retS (gc (.v false))) nxS)
  (retS (Ac Xt (Ab (Cr false [none] (itU (fz (Aa 0))) (tgN 0) F8 (Af (Dh false) (fz (Aa 0)) (gc (.str ("abcdefghijklmnopqrstuvwxyz":Str))))) Ai))))
noncomputable def A2:FS->Out Rv:=Bq 0 (FU)
noncomputable def Dr(af:Addr):FS->SO :=
  (Al (ifS (asB (Af (Dh true) (fz (Aa 1)) (EF af "makers_by_kind" (Aa 0)))) (λ_=>.bad) nxS)
  (retS (Ac B3 (Ab (Af AO (EF af "makers_by_kind" (Aa 0)) (fz (Aa 1))) Ai))))
noncomputable def AV(af:Addr):FS->Out Rv:=Bq 0 (Dr af)
noncomputable def D8(af:Addr):FS->SO :=
  (retS (Ac B3 (Ab (EF af "makers_by_kind" (Aa 0)) Ai)))
noncomputable def Bd(af:Addr):FS->Out Rv:=Bq 0 (D8 af)
noncomputable def GV(af:Addr):FS->SO :=
  (retS (Ac US (Ab (Cr false [none,some 1,some 0] (itU (fz (LN af "kinds" 1 (Bd af) (fz (Aa 0)) Ai))) (tgN 0) F8 (Af (Dh false) (fz (Aa 1)) (fz (EC af "makers" 2 (AV af) (fz (Aa 2)) (Ae (fz (Aa 0)) Ai))))) Ai)))
noncomputable def Dc(af:Addr):FS->Out Rv:=Bq 0 (GV af)
noncomputable def Eu(af:Addr):FS->SO :=
  (Al (EY (fz (Aa 2)) (AL 5 (Ag (tgN 3) (Ag (tgN 4) (Ag (tgN 5) (Ag (tgN 6) (Ag (tgN 7) AG)))))))
  (Al (ifS (GF (Mx (fz (Ac (Ah 1 A2) (Ae (fz (Aa 3)) Ai))))) (λ_=>.bad) nxS)
  (Al (ifS (orT (asB (Af (Dh false) (fz (Aa 3)) (Aa 1))) (Mx (fz (Ac (Ah 2 (Dc af)) (Ae (fz (Aa 0)) (Ae (fz (Aa 3)) Ai)))))) (λ_=>.bad) nxS)
  (Al (ifS (GF (asB (chain gLe gLe (gc (.int 1)) (Ac AR (Ab (Aa 4) Ai)) (gc (.int 3))))) (λ_=>.bad) nxS)
  (Al (B4 (itU (fz (Af Av (fz (Ac B3 (Ab (Aa 4) Ai))) (Ap BV (Ab (fz (Aa 5)) Ai))))) (tgN 8) (ifS (asB (Af (Dh true) (fz (Aa 8)) (fz (LN af "kinds" 1 (Bd af) (fz (Aa 0)) Ai)))) (λ_=>.bad) nxS))
  (Al (ifS (asB (Af (gEq true) (Ac AR (Ab (Aa 6) Ai)) (Af JV (Ac AR (Ab (Aa 4) Ai)) (gc (.int 1))))) (λ_=>.bad) nxS)
  (ifS (asB (Af (gEq true) (Ac AR (Ab (Aa 7) Ai)) (Ac AR (Ab (fz (EC af "makers" 2 (AV af) (fz (Aa 0)) (Ae (Af AO (Aa 4) (gc (.int 0))) Ai))) Ai)))) (λ_=>.bad) nxS)))))))
noncomputable def Ce(af:Addr):FS->Out Rv:=Bq 6 (Eu af)
noncomputable def CM(af:Addr):FS->SO :=
  (Al (ifS (asB (Af (Dh true) (fz (Aa 1)) (EF af "parts_by_maker" (Aa 0)))) (CW "NoMaker" (Aa 1)) nxS)
  (retS (Af AO (EF af "parts_by_maker" (Aa 0)) (fz (Aa 1)))))
noncomputable def Bb(af:Addr):FS->Out Rv:=Bq 0 (CM af)
noncomputable def D5:FS->SO :=
  (Al (AB 1 EE)
  (B4 (itU (fz (Aa 0))) (tgN 2) (Al (ifS (GF (Mx (fz (Ac (Ah 1 A2) (Ae (fz (Aa 2)) Ai))))) (λ_=>.bad) nxS)
  (Al (ifS (asB (Af (Dh false) (fz (Aa 2)) (Aa 1))) (λ_=>.bad) nxS)
  (Ca (gc (.v true)) (Aa 1) (fz (Aa 2)))))))
noncomputable def BW:FS->Out Rv:=Bq 2 (D5)
noncomputable def Ck(af:Addr):FS->SO :=
  (Al (ifS (asB (Af (Dh true) (fz (Aa 1)) (EF af "home_by_maker" (Aa 0)))) (CW "NoMaker" (Aa 1)) nxS)
  (retS (Af AO (EF af "home_by_maker" (Aa 0)) (fz (Aa 1)))))
noncomputable def Cg(af:Addr):FS->Out Rv:=Bq 0 (Ck af)
noncomputable def AM(aj:Addr)(af:Addr):FS->SO :=
  (Al (ifS (asB (Af (gEq false) (Aa 1) (gc (.str ("make":Str))))) (retS (Ap AQ (Ab (fz (EC af "parts" 2 (Bb af) (EF aj "stock" (Aa 0)) (Ae (fz (Aa 2)) Ai))) (Ab (fz (EC af "home" 2 (Cg af) (EF aj "stock" (Aa 0)) (Ae (fz (Aa 2)) Ai))) Ai)))) nxS)
  (Al (ifS (asB (Af (Dh true) (fz (Aa 2)) (EF aj "heads" (Aa 0)))) (CW "NoFunction" (Aa 2)) nxS)
  (retS (Af AO (EF aj "heads" (Aa 0)) (fz (Aa 2))))))
noncomputable def As(aj:Addr)(af:Addr):FS->Out Rv:=Bq 0 (AM aj af)
noncomputable def BI(aj:Addr):FS->SO :=
  (Al (ifS (asB (Af (Dh true) (fz (Aa 1)) (EF aj "kinds_by_name" (Aa 0)))) (CW "NoName" (Aa 1)) nxS)
  (retS (Af AO (EF aj "kinds_by_name" (Aa 0)) (fz (Aa 1)))))
noncomputable def A4(aj:Addr):FS->Out Rv:=Bq 0 (BI aj)
noncomputable def AI(aj:Addr)(af:Addr)(rec:FS->Out Rv):FS->SO :=
  (Al (ifS (asB (Af (gEq false) (Af AO (Aa 1) (gc (.int 0))) (gc (.str ("name":Str))))) (retS (Ac (Ah 2 (A4 aj)) (Ae (fz (Aa 0)) (Ae (Af AO (Aa 1) (gc (.int 1))) Ai)))) nxS)
  (Al (EY (fz (Aa 1)) (AL 3 (Ag (tgN 2) (Ag (tgN 3) (Ag (tgN 4) AG)))))
  (Al (EY (fz (Ac (Ah 3 (As aj af)) (Ae (fz (Aa 0)) (Ae (fz (Aa 2)) (Ae (fz (Aa 3)) Ai))))) (AL 2 (Ag (tgN 5) (Ag (tgN 6) AG))))
  (Al (ifS (asB (Af (gEq true) (Ac AR (Ab (Aa 4) Ai)) (Ac AR (Ab (Aa 5) Ai)))) (CW "BadCount" (Aa 3)) nxS)
  (Al (ifS (Ki (asB (Af (gEq false) (Aa 2) (gc (.str ("call":Str))))) (Ki (asB (Af (gEq false) (Aa 3) (EF aj "own" (Aa 0)))) (asB (Af LY (Af AO (Aa 4) (gc (.int 0))) (EF aj "lessers" (Aa 0)))))) (CW "NotLess" (Aa 3)) nxS)
  (Al (B4 (itZ (Aa 4) (Aa 5)) (AL 2 (Ag (tgN 7) (Ag (tgN 8) AG))) (ifS (asB (Af (gEq true) (fz (Ac (Ah 2 rec) (Ae (fz (Aa 0)) (Ae (fz (Aa 7)) Ai)))) (Aa 8))) (Hb "BadKind" (Aa 3) (Aa 8)) nxS))
  (retS (Aa 6))))))))
noncomputable def Au(aj:Addr)(af:Addr):Nat->FS->Out Rv
 |0=>λ_=>.bad
 |n+1=>Bq 7 (AI aj af (Au aj af n))
noncomputable def Ex(aj:Addr):FS->SO :=
  (Al (IJ aj "stock" 0 (fz (Aa 1)))
  (Al (IJ aj "heads" 0 (fz (Aa 2)))
  (Al (IJ aj "kinds_by_name" 0 (fz (Aa 3)))
  (Al (IJ aj "own" 0 (fz (Aa 4)))
  (IJ aj "lessers" 0 (fz (Aa 5)))))))
noncomputable def BO(aj:Addr):FS->Out Rv:=Bq 0 (Ex aj)
noncomputable def FV(aj:Addr)(af:Addr):FS->SO :=
  (Al (EY (fz (Aa 2)) (AL 5 (Ag (tgN 5) (Ag (tgN 6) (Ag (tgN 7) (Ag (tgN 8) (Ag (tgN 9) AG)))))))
  (Al (EY (fz (Aa 4)) (AL 2 (Ag (tgN 10) (Ag (tgN 11) AG))))
  (Al (AB 12 (fz (EC af "parts" 2 (Bb af) (fz (Aa 0)) (Ae (fz (Aa 3)) Ai))))
  (Al (ifS (asB (Af (gEq true) (Ac AR (Ab (Aa 10) Ai)) (Ac AR (Ab (Aa 12) Ai)))) (λ_=>.bad) nxS)
  (Al (By (Ac (Ah 1 BW) (Ae (fz (Af Av (fz (Ac B3 (Ab (Aa 10) Ai))) (fz (Ac B3 (Ab (Aa 8) Ai))))) Ai)))
  (Al (AB 13 (fz (L5 (Ab (fz (Af Av (fz (Ac B3 (Ab (Aa 10) Ai))) (fz (Ac B3 (Ab (Aa 8) Ai))))) (Ab (fz (Af Av (fz (Ac B3 (Ab (Aa 12) Ai))) (fz (Ac B3 (Ab (slF (Aa 6) (BK (gc (.int 1))) noP) Ai))))) Ai)))))
  (Al (AB 14 (Cr false [none,some 13,some 6] (itU (fz (Aa 10))) (tgN 0) (asB (Af (gEq false) (Af AO (Aa 1) (fz (Aa 0))) (Af AO (Aa 2) (gc (.int 0))))) (Ap AQ (Ab (gc (.str ("name":Str))) (Ab (fz (Aa 0)) Ai)))))
  (ifS (asB (Af (gEq true) (fz (Ac (Ah 2 (Au aj af 20)) (Ae (fz (Ac (DR aj 6 (BO aj)) (Ae (fz (Aa 0)) (Ae (fz (Aa 1)) (Ae (fz (Aa 13)) (Ae (fz (Aa 5)) (Ae (fz (Aa 14)) Ai))))))) (Ae (fz (Aa 11)) Ai)))) (Aa 7))) (λ_=>.bad) nxS))))))))
noncomputable def CJ(aj:Addr)(af:Addr):FS->Out Rv:=Bq 10 (FV aj af)
noncomputable def Ds(ak:Addr)(aj:Addr)(af:Addr):FS->SO :=
  (Al (IJ ak "stock" 0 (fz (Aa 1)))
  (Al (IJ ak "heads" 0 EE)
  (Al (IJ ak "rows_by_function" 0 EE)
  (B4 (itU (fz (Aa 2))) (tgN 3) (Al (By (JB 0 (Ac (Ah 3 (Ce af)) (Ae (fz (Aa 1)) (Ae (EF ak "heads" (Aa 0)) (Ae (fz (Aa 3)) Ai))))))
  (Al (EY (fz (Aa 3)) (AL 5 (Ag (tgN 4) (Ag (tgN 5) (Ag (tgN 6) (Ag (tgN 7) (Ag (tgN 8) AG)))))))
  (Al (C4 ak "heads" 0 4 (Ap AQ (Ab (Ac Bf (Ab (Aa 5) Ai)) (Ab (fz (Aa 6)) Ai))))
  (Al (J7 ak "rows_by_function" 0 4)
  (B4 (itZ (fz (EC af "makers" 2 (AV af) (fz (Aa 1)) (Ae (Af AO (Aa 5) (gc (.int 0))) Ai))) (Aa 8)) (AL 2 (Ag (tgN 9) (Ag (tgN 10) AG))) (Al (By (JB 0 (Ac (Ah 5 (CJ aj af)) (Ae (fz (Aa 1)) (Ae (EF ak "heads" (Aa 0)) (Ae (fz (Aa 3)) (Ae (fz (Aa 9)) (Ae (fz (Aa 10)) Ai))))))))
  (dput2 ak "rows_by_function" 0 4 9 (Ap AQ (Ab (Af Av (Ac Bf (Ab (Af AO (Aa 10) (gc (.int 0))) Ai)) (Ac Bf (Ab (Aa 7) Ai))) (Ab (Af AO (Aa 10) (gc (.int 1))) Ai))))))))))))))
noncomputable def BH(ak:Addr)(aj:Addr)(af:Addr):FS->Out Rv:=Bq 8 (Ds ak aj af)
noncomputable def Cm(rec:FS->Out Rv):FS->SO :=
  (Al (AB 3 (Af Cd (Aa 1) (gc (.int 6))))
  (Al (AB 1 (Af DD (Aa 1) (gc (.int 6))))
  (Al (ifS (asB (Af (gEq false) (Af AO (Aa 0) (gc (.int 0))) (gc (.str ("name":Str))))) (retS (Af AO (Ap BV (Ab (Ap AQ (Ab (gc (.str ("name":Str))) (Ab (Af AO (Aa 2) (Af Cd (Aa 1) (Ac AR (Ab (Aa 2) Ai)))) Ai))) (Ab (Ap AQ (Ab (gc (.str ("call":Str))) (Ab (Af AO (Aa 2) (Af Cd (Aa 1) (Ac AR (Ab (Aa 2) Ai)))) (Ab (Ap AQ Ai) Ai)))) Ai))) (Ac Gm (Ab (Af gGt (Aa 3) (gc (.int 4))) Ai)))) nxS)
  (Al (EY (fz (Aa 0)) (AL 3 (Ag (tgN 4) (Ag (tgN 5) (Ag (tgN 6) AG)))))
  (Al (AB 7 (Af Cd (Aa 1) (Af Av (Ac AR (Ab (Aa 6) Ai)) (gc (.int 1)))))
  (Al (ifS (asB (Af (gEq false) (Aa 3) (gc (.int 0)))) (retS (Ap AQ (Ab (fz (Aa 4)) (Ab (Af AO (Aa 2) (Af Cd (Af DD (Aa 1) (gc (.int 4))) (Ac AR (Ab (Aa 2) Ai)))) (Ab (fz (Aa 6)) Ai))))) nxS)
  (Al (ifS (asB (Af (gEq false) (Aa 3) (gc (.int 1)))) (retS (Ap AQ (Ab (fz (Aa 4)) (Ab (fz (Aa 5)) (Ab (Af Av (slF (Aa 6) noP (BK (Aa 7))) (slF (Aa 6) (BK (Af Av (Aa 7) (gc (.int 1)))) noP)) Ai))))) nxS)
  (Al (ifS (asB (Af (gEq false) (Aa 3) (gc (.int 2)))) (retS (Ap AQ (Ab (fz (Aa 4)) (Ab (fz (Aa 5)) (Ab (Af Av (Af Av (slF (Aa 6) noP (BK (Aa 7))) (Ap AQ (Ab (Ap AQ (Ab (gc (.str ("name":Str))) (Ab (Af AO (Aa 2) (Af Cd (Af DD (Aa 1) (gc (.int 4))) (Ac AR (Ab (Aa 2) Ai)))) Ai))) Ai))) (slF (Aa 6) (BK (Aa 7)) noP)) Ai))))) nxS)
  (Al (ifS (asB (Af (gEq false) (Aa 3) (gc (.int 3)))) (retS (Ap AQ (Ab (Af AO (Ap BV (Ab (gc (.str ("make":Str))) (Ab (gc (.str ("call":Str))) Ai))) (Af Cd (Af DD (Aa 1) (gc (.int 4))) (gc (.int 2)))) (Ab (fz (Aa 5)) (Ab (YF (Aa 6)) Ai))))) nxS)
  (Al (ifS (asB (Af gLt (Aa 7) (Ac AR (Ab (Aa 6) Ai)))) (retS (Ap AQ (Ab (fz (Aa 4)) (Ab (fz (Aa 5)) (Ab (Af Av (Af Av (slF (Aa 6) noP (BK (Aa 7))) (Ap AQ (Ab (fz (Ac (Ah 3 rec) (Ae (Af AO (Aa 6) (fz (Aa 7))) (Ae (Af DD (Aa 1) (gc (.int 4))) (Ae (fz (Aa 2)) Ai))))) Ai))) (slF (Aa 6) (BK (Af Av (Aa 7) (gc (.int 1)))) noP)) Ai))))) nxS)
  (retS (Ap AQ (Ab (fz (Aa 4)) (Ab (Af AO (Aa 2) (Af Cd (Af DD (Aa 1) (gc (.int 4))) (Ac AR (Ab (Aa 2) Ai)))) (Ab (fz (Aa 6)) Ai)))))))))))))))
noncomputable def AS:Nat->FS->Out Rv
 |0=>λ_=>.bad
 |n+1=>Bq 5 (Cm (AS n))
noncomputable def D7:FS->SO :=
  (Al (ifS (GF (asB (chain gLe gLe (gc (.int 1)) (Ac AR (Ab (Aa 0) Ai)) (gc (.int 4))))) (QY "BadCount" (Ab (gc (.str ("a stock has one to four kinds":Str))) Ai)) nxS)
  (Al (AB 1 EE)
  (B4 (itU (fz (Aa 0))) (AL 2 (Ag (tgN 2) (Ag (tgN 3) AG))) (Al (ifS (GF (Mx (fz (Ac (Ah 1 A2) (Ae (fz (Aa 2)) Ai))))) (λ_=>.bad) nxS)
  (Al (ifS (asB (Af (Dh false) (fz (Aa 2)) (Aa 1))) (λ_=>.bad) nxS)
  (Al (ifS (GF (asB (chain gLe gLe (gc (.int 1)) (Ac AR (Ab (Aa 3) Ai)) (gc (.int 4))))) (λ_=>.bad) nxS)
  (Ca (gc (.v true)) (Aa 1) (fz (Aa 2)))))))))
noncomputable def BX:FS->Out Rv:=Bq 3 (D7)
noncomputable def D6:FS->SO :=
  (Al (ifS (GF (Mx (fz (Ac (Ah 1 A2) (Ae (fz (Aa 0)) Ai))))) (λ_=>.bad) nxS)
  (Al (ifS (asB (Af (Dh false) (fz (Aa 0)) (Aa 2))) (λ_=>.bad) nxS)
  (Al (ifS (asB (Af gGt (Ac AR (Ab (Aa 1) Ai)) (gc (.int 2)))) (λ_=>.bad) nxS)
  (B4 (itU (fz (Aa 1))) (tgN 4) (ifS (asB (Af (Dh true) (fz (Aa 4)) (Aa 3))) (λ_=>.bad) nxS)))))
noncomputable def Bv:FS->Out Rv:=Bq 1 (D6)
noncomputable def Dq:FS->SO :=
  (B4 (itU (fz (Aa 1))) (tgN 3) (ifS (asB (Af (Dh true) (fz (Aa 3)) (Aa 2))) (λ_=>.bad) nxS))
noncomputable def Bj:FS->Out Rv:=Bq 1 (Dq)
noncomputable def Dp:FS->SO :=
  (Al (AB 1 (Cr false [none,none] (itU (fz (Aa 0))) (AL 2 (Ag (tgN 0) (Ag (tgN 1) AG))) F8 (fz (Aa 0))))
  (Al (AB 2 (Ap DV Ai))
  (Al (AB 3 EE)
  (B4 (itU (fz (Aa 0))) (AL 2 (Ag (tgN 4) (Ag (tgN 5) AG))) (Al (AB 6 (Af AO (Af AO (Aa 5) (gc (.int 0))) (gc (.int 0))))
  (Al (B4 (itU (fz (Aa 5))) (AL 2 (Ag (tgN 7) (Ag (tgN 8) AG))) (Al (By (Ac (Ah 4 Bv) (Ae (fz (Aa 7)) (Ae (fz (Aa 8)) (Ae (Aa 3) (Ae (fz (Aa 1)) Ai))))))
  (Al (ifS (asB (Af (gEq false) (Aa 7) (Aa 6))) (By (Ac (Ah 3 Bj) (Ae (fz (Aa 7)) (Ae (fz (Aa 8)) (Ae (Aa 2) Ai))))) nxS)
  (Ca (gc (.v true)) (Aa 3) (fz (Aa 7))))))
  (By (CF Hv (Aa 2) (Ab (fz (Aa 4)) Ai)))))))))
noncomputable def BG:FS->Out Rv:=Bq 8 (Dp)
noncomputable def Ew(af:Addr):FS->SO :=
  (Al (By (Ac (Ah 1 BX) (Ae (fz (Aa 1)) Ai)))
  (Al (By (Ac (Ah 1 BG) (Ae (fz (Aa 1)) Ai)))
  (Al (IJ af "makers_by_kind" 0 EE)
  (Al (IJ af "parts_by_maker" 0 EE)
  (Al (IJ af "home_by_maker" 0 EE)
  (B4 (itU (fz (Aa 1))) (AL 2 (Ag (tgN 2) (Ag (tgN 3) AG))) (Al (C4 af "makers_by_kind" 0 2 (Cr false [none,none] (itU (fz (Aa 3))) (AL 2 (Ag (tgN 0) (Ag (tgN 1) AG))) F8 (fz (Aa 0))))
  (B4 (itU (fz (Aa 3))) (AL 2 (Ag (tgN 4) (Ag (tgN 5) AG))) (Al (C4 af "parts_by_maker" 0 4 (Ac Bf (Ab (Aa 5) Ai)))
  (C4 af "home_by_maker" 0 4 (fz (Aa 2))))))))))))
noncomputable def Cf(af:Addr):FS->Out Rv:=Bq 4 (Ew af)
noncomputable def FR(ak:Addr)(aj:Addr)(af:Addr):FS->SO :=
  (retS (Ac (Ah 2 (Au aj af 20)) (Ae (fz (Ac (DR aj 6 (BO aj)) (Ae (EF ak "stock" (Aa 0)) (Ae (EF ak "heads" (Aa 0)) (Ae (fz (Aa 1)) (Ae (gc .o) (Ae (Ap BV Ai) Ai))))))) (Ae (fz (Aa 2)) Ai))))
noncomputable def C3(ak:Addr)(aj:Addr)(af:Addr):FS->Out Rv:=Bq 0 (FR ak aj af)
noncomputable def Dt:FS->SO :=
  (Al (AB 1 (Ap DV Ai))
  (Al (B4 (itU (fz (Aa 0))) (AL 2 (Ag (tgN 2) (Ag (tgN 3) AG))) (B4 (itU (fz (Aa 3))) (AL 2 (Ag (tgN 4) (Ag (tgN 5) AG))) (By (CF Hv (Aa 1) (Ab (fz (Aa 4)) Ai)))))
  (retS (Aa 1))))
noncomputable def Bk:FS->Out Rv:=Bq 5 (Dt)
noncomputable def QI:FS->SO :=
  (Al (AB 1 (Ap BV (Ab (isX xrs GX "BadCount" (Aa 0)) (Ab (isX xrs GX "BadKind" (Aa 0)) (Ab (isX xrs GX "BadName" (Aa 0)) Ai)))))
  (Al (AB 1 (fz (Af Av (Aa 1) (Ap BV (Ab (isX xrs GX "BadText" (Aa 0)) (Ab (isX xrs GX "Groundless" (Aa 0)) (Ab (isX xrs GX "NoFunction" (Aa 0)) Ai)))))))
  (Al (AB 1 (fz (Af Av (Aa 1) (Ap BV (Ab (isX xrs GX "NoKind" (Aa 0)) (Ab (isX xrs GX "NoMaker" (Aa 0)) (Ab (isX xrs GX "NoName" (Aa 0)) Ai)))))))
  (Al (AB 1 (fz (Af Av (Aa 1) (Ap BV (Ab (isX xrs GX "NoPlace" (Aa 0)) (Ab (isX xrs GX "NoSaying" (Aa 0)) (Ab (isX xrs GX "NotLess" (Aa 0)) Ai)))))))
  (Al (AB 1 (fz (Af Av (Aa 1) (Ap BV (Ab (isX xrs GX "NotShown" (Aa 0)) (Ab (isX xrs GX "TooLong" (Aa 0)) (Ab (isX xrs GX "Twice" (Aa 0)) Ai)))))))
  (Al (ifS (orT (GF (Mx (isX xrs GX "SayError" (Aa 0)))) (orT (GF (Mx (isV xrs (Aa 0)))) (asB (Af (gEq true) (Ac YG (Ab (Cr false [none] (itU (fz (Aa 1))) (tgN 0) F8 (Ac Gm (Ab (Aa 0) Ai))) Ai)) (gc (.int 1)))))) (retS (gc (.str ("":Str)))) nxS)
  (Al (AB 2 (Ap BV (Ab (gc (.str ("BadCount":Str))) (Ab (gc (.str ("BadKind":Str))) (Ab (gc (.str ("BadName":Str))) (Ab (gc (.str ("BadText":Str))) (Ab (gc (.str ("Groundless":Str))) (Ab (gc (.str ("NoFunction":Str))) (Ab (gc (.str ("NoKind":Str))) (Ab (gc (.str ("NoMaker":Str))) Ai))))))))))
  (Al (AB 2 (fz (Af Av (Aa 2) (Ap BV (Ab (gc (.str ("NoName":Str))) (Ab (gc (.str ("NoPlace":Str))) (Ab (gc (.str ("NoSaying":Str))) (Ab (gc (.str ("NotLess":Str))) (Ab (gc (.str ("NotShown":Str))) (Ab (gc (.str ("TooLong":Str))) (Ab (gc (.str ("Twice":Str))) Ai)))))))))))
  (retS (Af AO (Aa 2) (fz (CF JaE (Aa 1) (Ab (gc (.v true)) Ai)))))))))))))
noncomputable def EV:FS->Out Rv:=Bq 2 (QI)
noncomputable def Yx(ak:Addr)(aj:Addr)(af:Addr):FS->SO :=
  (Al (AB 1 (fz (Ac (Ah 2 Bx) (Ae (fz (Ac (Ah 2 Az) (Ae (fz (Aa 0)) (Ae (gc (.int 0)) Ai)))) (Ae (gc (.int 0)) Ai)))))
  (Al (AB 2 (fz (Ac (Ah 1 DY) (Ae (fz (Aa 0)) Ai))))
  (Al (AB 3 (fz (Ac (Ah 2 BP) (Ae (fz (Aa 0)) (Ae (fz (Aa 2)) Ai)))))
  (Al (AB 4 (Ac (Ah 1 DZ) (Ae (fz (Aa 3)) Ai)))
  (Al (AB 5 (slF (fz (Ac (Ah 2 Bm) (Ae (fz (Ac (Ah 2 Bx) (Ae (fz (Ac (Ah 2 Az) (Ae (fz (Aa 0)) (Ae (gc (.int 13)) Ai)))) (Ae (gc (.int 1)) Ai)))) (Ae (gc (.int 4)) Ai)))) noP (BK (Af Cd (Aa 1) (gc (.int 5))))))
  (Al (AB 6 EE)
  (Al (B4 (itE (fz (Aa 5))) (AL 2 (Ag (tgN 7) (Ag (tgN 8) AG))) (Ca (Af AO (Af AO (Aa 2) (Af Cd (fz (Ac (Ah 2 Bx) (Ae (fz (Ac (Ah 2 Az) (Ae (fz (Aa 0)) (Ae (Af Av (gc (.int 14)) (Aa 7)) Ai)))) (Ae (gc (.int 2)) Ai)))) (Ac AR (Ab (Aa 2) Ai)))) (gc (.int 0))) (Aa 6) (fz (Aa 8))))
  (Al (AB 9 (Af AO (Af AO (Aa 2) (Af Cd (Af DD (Aa 1) (gc (.int 5))) (Ac AR (Ab (Aa 2) Ai)))) (gc (.int 0))))
  (Al (AB 10 (fz (Ac (Ah 6 CK) (Ae (fz (Aa 2)) (Ae (fzD (Aa 6)) (Ae (fzD (Aa 4)) (Ae (fz (Aa 9)) (Ae (fz (Ac (Ah 2 Bx) (Ae (fz (Ac (Ah 2 Az) (Ae (fz (Aa 0)) (Ae (gc (.int 18)) Ai)))) (Ae (gc (.int 3)) Ai)))) (Ae (gc (.int 4)) Ai)))))))))
  (Al (AB 11 (fz (Af Av (fz (Af Av (fz (Af Av (fz (Ac GL (Ab (Aa 6) Ai))) (fz (Ac GL (Ab (Aa 4) Ai))))) (fz (Ac (Ah 1 Bk) (Ae (fz (Aa 2)) Ai))))) (Ap BV (Ab (gc (.str ("zzzzzz":Str))) Ai)))))
  (Al (B4 (LR (Ab (Af Cd (Af DD (Aa 1) (gc (.int 15))) (gc (.int 3))) Ai)) (tgN 7) (AB 10 (fz (Ac (Ah 3 (AS 20)) (Ae (fz (Aa 10)) (Ae (fz (Ac (Ah 2 Bx) (Ae (fz (Ac (Ah 2 Az) (Ae (fz (Aa 0)) (Ae (Af Av (gc (.int 19)) (Aa 7)) Ai)))) (Ae (gc (.int 4)) Ai)))) (Ae (fz (Aa 11)) Ai)))))))
  (Al (AB 12 (fz (Ac (Ah 6 (Dw 20)) (Ae (fz (Aa 2)) (Ae (fz (Aa 6)) (Ae (fz (Aa 4)) (Ae (gc (.str ("":Str))) (Ae (Ap BV Ai) (Ae (fz (Aa 10)) Ai)))))))))
  (Al (AB 13 (gc .o))
  (Al (AB 14 (gc .o))
  (Al (AB 15 (fz (Ac (DR ak 3 (BH ak aj af)) (Ae (fz (Ac (DR af 2 (Cf af)) (Ae (fz (Ac B3 (Ab (Aa 2) Ai))) Ai))) (Ae (fz (Ac B3 (Ab (Aa 3) Ai))) Ai)))))
  (Al (AB 16 (fz (Ac GN (Ab (Aa 6) Ai))))
  (Al (QS 17 (λc=>xrs.contains c&&GX c "SayError") (AB 13 (fz (Ac (Ah 3 (C3 ak aj af)) (Ae (fz (Aa 15)) (Ae (fz (Aa 16)) (Ae (fz (Aa 10)) Ai)))))) (AB 14 (fz (Aa 17))))
  (Al (ifS (asB (Af (JaG true) (Aa 16) (Aa 6))) (retS (gc (.v false))) nxS)
  (Al (ifS (asB (Af (Dh false) (fz (Aa 12)) (Ap BV (Ab (gc (.str ("NoName":Str))) (Ab (gc (.str ("NoMaker":Str))) (Ab (gc (.str ("NoFunction":Str))) (Ab (gc (.str ("BadCount":Str))) (Ab (gc (.str ("NotLess":Str))) (Ab (gc (.str ("BadKind":Str))) Ai))))))))) (retS (Af (gEq false) (fz (Ac (Ah 1 EV) (Ae (fz (Aa 14)) Ai))) (Aa 12))) nxS)
  (retS (YB (Af (Rn false) (Aa 14) (gc .o)) (YB (isF "str" (Aa 13)) (Af (gEq false) (Aa 13) (Aa 12))))))))))))))))))))))))
noncomputable def Ye(ak:Addr)(aj:Addr)(af:Addr):FS->Out Rv:=Bq 17 (Yx ak aj af)
theorem Jw{g h:FS->SO}{fs ar:FS}(e:g fs=.nx ar):Al g h fs=h ar:=by unfold Al;rw[e]
abbrev vl(t:T):Option Sl:=some (.val t)
abbrev iv(i:Int):Option Sl:=some (.val (.int i))
def Fre:Option Sl->Prop
 |some (.bor _)=>False
 |_=>True
theorem Hw:Fre none:=True.intro
theorem Am{t:T}:Fre (vl t):=True.intro
theorem Kp{fs:FS}{i:Nat}{t:T}{x:Option Sl}(e:fs[i]?=some x)(h:Fre x):Ju i (.t t) fs=some (fs.set i (vl t)):=by unfold Ju;rw[e];cases x with|none=>rfl|some s=>cases s with|val t=>rfl|own o=>rfl|bor o=>exact h.elim
theorem NR{gt:T->FS->Option FS}{body:FS->SO}(P:List T->FS->Prop)(step:∀t ts fs,P (t::ts) fs->∃ag av,gt t fs=some ag/\body ag=.nx av/\P ts av):∀(ts:List T)(fs:FS),P ts fs->∃ar,ES gt body ts fs=.nx ar/\P [] ar
 | [],fs,h=>⟨fs,rfl,h⟩
 |t::ts,fs,h=>by obtain⟨ag,av,e1,e2,h2⟩:=step t ts fs h;obtain⟨ar,e,hp⟩:=NR P step ts av h2;exact⟨ar,by simp only[ES,e1,e2,e],hp⟩
def IsI(t:T)(ns:List Int):Prop:=t=.zY (ns.map T.int)\/t=.lst (ns.map T.int)
theorem IsI.seq{t:T}{ns:List Int}(h:IsI t ns)(fs:FS):Df fs (.t t)=some (ns.map T.int):=by rcases h with rfl|rfl<;>rfl
section
variable{i j:Int}{fs:FS}
theorem Eh:Av (.t (.int i)) (.t (.int j)) fs=.ok (.t (.int (i+j))) fs:=rfl
theorem Xn:JV (.t (.int i)) (.t (.int j)) fs=.ok (.t (.int (i-j))) fs:=rfl
theorem GK(h:0<j):Cd (.t (.int i)) (.t (.int j)) fs=.ok (.t (.int (i%j))) fs:=if_pos h
theorem NM(h:0<j/\j<1073741824):DD (.t (.int i)) (.t (.int j)) fs=.ok (.t (.int (i/j))) fs:=if_pos h
theorem JY(h:-(2^64)<i/\i<2^64):Bi (.t (.int i)) (.t (.int j)) fs=.ok (.t (.int (i*j))) fs:=by have e:Xo (.t (.int i)) (.t (.int j)) fs=.ok (.t (.int (i*j))) fs:=if_pos (by rw[uE h];rfl);unfold Bi orG;rw[e]
theorem JZ(h:Builtin.Int.intBits i<=2^26/\Builtin.Int.intBits j<=2^26):Bi (.t (.int i)) (.t (.int j)) fs=.ok (.t (.int (i*j))) fs:=by have e:Xo (.t (.int i)) (.t (.int j)) fs=.ok (.t (.int (i*j))) fs:=if_pos (by rw[uE h.1,uE h.2];simp);unfold Bi orG;rw[e]
end
theorem KQ{x:Rv}{ts:List T}{i:Int}{t:T}{fs:FS}(h:Df fs x=some ts)(e:atI ts i=some t):AO x (.t (.int i)) fs=.ok (.t t) fs:=by
 have e':gIx x (.t (.int i)) fs=.ok (.t t) fs:=by simp only[gIx,h,e,okT]
 unfold AO orG;rw[e']
theorem Xq{t:T}{ns:List Int}{i:Int}{fs:FS}(h:IsI t ns)(h0:0<=i)(h1:i<ns.length):AO (.t t) (.t (.int i)) fs=.ok (.t (.int (ns.getD i.toNat 0))) fs:=by
 refine KQ (h.seq fs) ?_;have e:(ns.map T.int)[i.toNat]?=some (T.int (ns.getD i.toNat 0)):=by
  have:i.toNat<ns.length:=by lia
  simp[this]
 have:=BF e;rwa[Int.toNat_of_nonneg h0]at this
theorem GB{fs:FS}{j:Nat}:∀{is:List Ini}{k:Nat},(∀i∈is,A8 fs i=none)->FL.placeOf fs j is k=none
 | [],_,_=>rfl
 |i::is,k,h=>by simp only[FL.placeOf];rw[h i uj,if_neg (by simp)];exact GB λi' m=>h i' (tV _ m)
theorem GU{fs:FS}{is:List Ini}{τ:FS}(h:∀i∈is,A8 fs i=none):∀(gs:FS)(j:Nat),Gp fs is τ j gs=some gs
 | [],_=>rfl
 |g::gs,j=>by simp only[Gp,Kc,GB h,GU h gs (j+1)]
theorem B9{fs:FS}{is:List Ini}{τ:FS}(h:DC fs is=[]):Dz is τ fs=some fs:=GU (List.filterMap_eq_nil_iff.mp h) fs 0
theorem Uz{src:List (Option Nat)}{fi:FS->Out (List T)}{gt:T->FS->Option FS}{ft:FS->Out Bool}{fe:FS->Out Rv}{fs ar:FS}{ts vs:List T}{τ:FS}(h1:fi fs=.ok ts fs)(h2:(DC fs (src.map λo=>o.elim Ini.no Ini.slot)).Nodup/\(src.all λo=>o.elim true λj=>decide (j<fs.length))=true)
  (h3:Bl gt ft fe ts (BU fs (src.map λo=>o.elim Ini.no Ini.slot)) []=some (vs,τ)) (h4:Dz (src.map λo=>o.elim Ini.no Ini.slot) τ fs=some ar):Cr false src fi gt ft fe fs=.ok (.t (.lst vs)) ar:=by
 unfold Cr;rw[h1];simp only[Out.bind];rw[if_pos h2,h3];dsimp only;rw[h4];rfl
theorem Sf{x y:Str}(h:x.cps.toList=y.cps.toList):x=y:=by
 obtain⟨a⟩:=x;obtain⟨b⟩:=y;have:a=b:=by simpa using h
 rw[this]
theorem N4:Str.ofString ""=(⟨#[]⟩:Str):=by decide +kernel
theorem JX{i j:Int}{fs:FS}(h:-(2^64)<j/\j<2^64):Bi (.t (.int i)) (.t (.int j)) fs=.ok (.t (.int (i*j))) fs:=by have e:Xo (.t (.int i)) (.t (.int j)) fs=.ok (.t (.int (i*j))) fs:=if_pos (by rw[uE h];simp);unfold Bi orG;rw[e]
theorem J1{x y:Str}{fs:FS}(h:x.length+y.length<=big):Av (.t (.str x)) (.t (.str y)) fs=.ok (.t (.str (x++y))) fs:=by have e:P9 (.t (.str x)) (.t (.str y)) fs=.ok (.t (.str (x++y))) fs:=if_pos h;have e2:JaH (.t (.str x)) (.t (.str y)) fs=.bad:=rfl;unfold Av orG;rw[e2];dsimp only;rw[e]
theorem FG{xs:List T}{v:Int}(h0:0<=v)(h1:v.toNat<=xs.length):K4 xs none (some v)=xs.take v.toNat:=by show(xs.drop 0).take ((if v<0 then(v+(xs.length:Int)).toNat else min v.toNat xs.length)-0)=_;rw[if_neg (by lia),Nat.min_eq_left h1];simp
theorem FH{xs:List T}{v:Int}(h0:0<=v)(h1:v.toNat<=xs.length):K4 xs (some v) none=xs.drop v.toNat:=by show(xs.drop (if v<0 then(v+(xs.length:Int)).toNat else min v.toNat xs.length)).take (xs.length-(if v<0 then(v+(xs.length:Int)).toNat else min v.toNat xs.length))=_;rw[if_neg (by lia),Nat.min_eq_left h1];exact vm (by rw[vg];lia)
theorem AH{g:Rv->Rv->FS->Out Rv}{fa fb:FS->Out Rv}{fs:FS}{x y:T}{r:Out Rv}(h1:fa fs=.ok (.t x) fs)(h2:fb fs=.ok (.t y) fs)(h3:g (.t x) (.t y) fs=r):Af g fa fb fs=r:=by unfold Af;rw[h1];show(fb fs).bnd _=r;rw[h2];exact h3
theorem AA{i:Nat}{fs:FS}{t:T}(h:fs[i]?=some (vl t)):Aa i fs=.ok (.t t) fs:=by unfold Aa;rw[h]
theorem Dg{t:T}{fs:FS}:gc t fs=.ok (.t t) fs:=rfl
theorem MD{i:Nat}{f:FS->Out Rv}{fs ar:FS}{t:T}(h:f fs=.ok (.t t) fs)(hs:Ju i (.t t) fs=some ar):AB i f fs=.nx ar:=by unfold AB;rw[h];show(match Ju i (.t t) fs with|some fs=>SO.nx fs|none=>.bad)=_;rw[hs]
theorem K5{f:FS->Out Rv}{g:FS->Out (List Rv)}{fs:FS}{t:T}{rs:List Rv}(h1:f fs=.ok (.t t) fs)(h2:g fs=.ok rs fs):Ab f g fs=.ok (.t t::rs) fs:=by unfold Ab;rw[h1];show(g fs).bind _=_;rw[h2];rfl
theorem NQ{f:FS->Out Rv}{fs:FS}{t:T}(h:f fs=.ok (.t t) fs):fz f fs=.ok (.t t) fs:=by unfold fz;rw[h];rfl
theorem Ld{g:List Rv->FS->Out Rv}{fa:FS->Out (List Rv)}{fs:FS}{rs:List Rv}{r:Out Rv}(h:fa fs=.ok rs fs)(h2:g rs fs=r):Ac g fa fs=r:=by unfold Ac;rw[h];exact h2
theorem PH{c:FS->Out Bool}{g h:FS->SO}{fs:FS}{r:SO}(hc:c fs=.ok true fs)(e:g fs=r):ifS c g h fs=r:=by unfold ifS;rw[hc];exact e
theorem ND{c:FS->Out Bool}{g h:FS->SO}{fs:FS}{r:SO}(hc:c fs=.ok false fs)(e:h fs=r):ifS c g h fs=r:=by unfold ifS;rw[hc];exact e
theorem Rz{fa fb:FS->Out Rv}{fs:FS}{i j:Int}(h1:fa fs=.ok (.t (.int i)) fs)(h2:fb fs=.ok (.t (.int j)) fs):asB (Af (gEq false) fa fb) fs=.ok (decide (i=j)) fs:=by
 have e:gEq false (.t (.int i)) (.t (.int j)) fs=.ok (.t (.v (decide (i=j)))) fs:=by
  have q:decide (V.int i=V.int j)=decide (i=j):=by
   by_cases h:i=j
   .subst h;simp
   .rw[uA h,uA (by intro z;cases z;exact h rfl)]
  show(if QW (V.int i) (V.int j)=true then okT (.v (if false=true then _ else decide (V.int i=V.int j))) fs else .bad)=_;rw[if_pos (show QW (V.int i) (V.int j)=true from rfl),q];rfl
 unfold asB;rw[AH h1 h2 e];rfl
theorem B7(ns:List Int)(k:Nat):Az [vl (.zY (ns.map T.int)),iv k]=.ok (.t (.int (ns.getD k 0))) [vl (.zY (ns.map T.int)),iv k]:=by
 have hl:asB (Af gLt (Aa 1) (Ac AR (Ab (Aa 0) Ai))) [vl (.zY (ns.map T.int)),iv k]=.ok (decide ((k:Int)<((ns.map T.int).length:Int))) [vl (.zY (ns.map T.int)),iv k]:=rfl;unfold Az Bq;show(match De [vl (.zY (ns.map T.int)),iv k]with|.nx τ=>_|.ret (.t t) τ=>_|.ret (.nw o) τ=>_|.ret (.n i) τ=>_|.exc c τ=>_|_=>_)=_;have e:De [vl (.zY (ns.map T.int)),iv k]=.ret (.t (.int (ns.getD k 0))) [vl (.zY (ns.map T.int)),iv k]:=by
  unfold De;by_cases h:(k:Int)<((ns.map T.int).length:Int)
  .rw[uE h]at hl;have h':k<ns.length:=by rw[tZ]at h;lia
   have e2:retS (Af AO (Aa 0) (fz (Aa 1))) [vl (.zY (ns.map T.int)),iv k]=.ret (.t (.int (ns.getD k 0))) [vl (.zY (ns.map T.int)),iv k]:=by have:=AH (g:=AO) (fa:=Aa 0) (fb:=fz (Aa 1)) (fs:=[vl (.zY (ns.map T.int)),iv k]) (AA rfl) (NQ (AA rfl)) (Xq (ns:=ns) (i:=(k:Int)) (.inl rfl) (by lia) (by lia));unfold retS;rw[this,uO];rfl
   unfold Al;rw[PH hl e2]
  .rw[uA h]at hl;have h':ns.length<=k:=by rw[tZ]at h;lia
   rw[Jw (ND (h:=nxS) (fs:=[vl (.zY (ns.map T.int)),iv k]) (r:=.nx [vl (.zY (ns.map T.int)),iv k]) hl rfl)];have:ns.getD k 0=0:=by simp[List.getD,h']
   rw[this];rfl
 rw[e];rfl
theorem BY{f:FS->Out Rv}{g:FS->Out (List Rv)}{fs ag av:FS}{t:T}{rs:List Rv}(h1:f fs=.ok (.t t) ag)(h2:g ag=.ok rs av):Ab f g fs=.ok (.t t::rs) av:=by unfold Ab;rw[h1];show(g ag).bind _=_;rw[h2];rfl
theorem Uw{g:List T->FS->Out Rv}{fa:FS->Out (List Rv)}{fs ag:FS}{rs:List Rv}{ts:List T}{r:Out Rv}(h:fa fs=.ok rs ag)(h2:Mc rs=some ts)(h3:ts.length<=big)(e:g ts ag=r):Ap g fa fs=r:=by unfold Ap;rw[h];show(match Mc rs with|some ts=>_|none=>_)=_;rw[h2];exact(if_pos h3).trans e
theorem CD{f:FS->Out Rv}{fs ag:FS}{r:Rv}(h:f fs=.ok r ag):retS f fs=.ret r ag:=by unfold retS;rw[h];rfl
theorem EL{g h:FS->SO}{fs ar:FS}{r:Rv}(e:g fs=.ret r ar):Al g h fs=.ret r ar:=by unfold Al;rw[e]
theorem F0:∀bs:List Bool,CQ (bs.map T.v)=some bs
 | []=>rfl
 |b::bs=>by simp[CQ,F0 bs]
theorem Qs{f:FS->Out Rv}{g:FS->Out (List Rv)}{fs ag av:FS}{r:Rv}{rs:List Rv}(h1:f fs=.ok r ag)(h2:g ag=.ok rs av):Ae f g fs=.ok (r::rs) av:=by unfold Ae;rw[h1];show(g ag).bind _=_;rw[h2];rfl
theorem Lc{p:Nat}{Fn:FS->Out Rv}{fa:FS->Out (List Rv)}{fs ag ar τ:FS}{rs:List Rv}{t:T}(ha:fa fs=.ok rs ag)(hp:rs.length=p)(hn:(DC ag (rs.map AW)).Nodup)(hf:Fn (BU ag (rs.map AW))=.ok (.t t) τ)(hb:Dz (rs.map AW) τ ag=some ar) :
  Ac (Ah p Fn) fa fs=.ok (.t t) ar:=by
 unfold Ac;rw[ha];show Ah p Fn rs ag=_;unfold Ah;rw[if_pos hp];unfold GR;rw[if_pos hn,hf];dsimp only;rw[hb]
theorem QG{p:Nat}{Fn:FS->Out Rv}{fa:FS->Out (List Rv)}{fs ag ar τ:FS}{rs:List Rv}{o:FO}(ha:fa fs=.ok rs ag)(hp:rs.length=p)(hn:(DC ag (rs.map AW)).Nodup)(hf:Fn (BU ag (rs.map AW))=.ok (.nw o) τ)(hb:Dz (rs.map AW) τ ag=some ar) :
  Ac (Ah p Fn) fa fs=.ok (.nw o) ar:=by
 unfold Ac;rw[ha];show Ah p Fn rs ag=_;unfold Ah;rw[if_pos hp];unfold GR;rw[if_pos hn,hf];dsimp only;rw[hb]
theorem YA{i:Nat}{f:FS->Out Rv}{fs ag ar:FS}{t:T}{us ts:List T}(h0:fs[i]?=some (some (.own (.lst us))))(h:f fs=.ok (.t t) ag)(jO:ag[i]?=some (some (.own (.lst ts))))(hl:ts.length<big)(e:ag.set i (some (.own (.lst (ts++[t]))))=ar):By (CF Hv (Aa i) (Ab f Ai)) fs=.nx ar:=by
 have h1:Aa i fs=.ok (.n i) fs:=by unfold Aa;rw[h0]
 have h2:FL.AD fs i=some (.lst us):=by unfold FL.AD;rw[h0]
 have kE:FL.AD ag i=some (.lst ts):=by unfold FL.AD;rw[jO]
 have h3:Df fs (.n i)=some us:=by simp only[Df,h2]
 have h4:Ab f Ai fs=.ok [.t t] ag:=BY h rfl;have h5:Hv (.n i) [.t t] ag=.ok (.t .o) ar:=by
  simp only[Hv,kE];rw[if_pos hl];have:FL.putAt ag i (.lst (ts++[t]))=ar:=by unfold FL.putAt;rw[jO];exact e
  rw[this]
 have h6:CF Hv (Aa i) (Ab f Ai) fs=.ok (.t .o) ar:=by unfold CF;rw[h1];show(if(Df fs (.n i)).isSome=true then _ else _)=_;rw[h3,if_pos (show(some us).isSome=true from rfl),h4];exact h5
 unfold By;rw[h6];rfl
noncomputable def EA:Str×List Str->T:=λr=>.tup [.str r.1,.tup (r.2.map T.str)]
noncomputable def A9:Str×List (Str×List Str)->T:=λk=>.tup [.str k.1,.lst (k.2.map EA)]
theorem MI{j:Int}{fs ag:FS}{fa:FS->Out (List Rv)}(e:fa fs=.ok [.t (.int j)] ag)(h:-(2^62)<=j/\j<2^62):LR fa fs=.ok (FL.upTo 0 j.toNat) ag:=by unfold LR;rw[e];simp only[Out.bind];exact if_pos h
abbrev Kd:=List (Str×List (Str×List Str))
theorem VZ{fv fi:FS->Out Rv}{o:Nat}{fs ar:FS}{v:T}{k:Str}{ks:List Key}{ts:List T}(h0:fs[o]?=some (some (.own (.l ks ts))))(hv:fv fs=.ok (.t v) fs)(hi:fi fs=.ok (.t (.str k)) fs)(hn:(ks.any λk'=>decide (k'=(.inr k:Key)))=false)(hl:ks.length<big)
  (e:fs.set o (some (.own (.l (ks++[.inr k]) (ts++[v]))))=ar):Ca fv (Aa o) fi fs=.nx ar:=by
 have h1:Aa o fs=.ok (.n o) fs:=by unfold Aa;rw[h0]
 have h2:FL.AD fs o=some (.l ks ts):=by unfold FL.AD;rw[h0]
 have h3:Ea ks ts (.inr k:Key) v=(ks++[.inr k],ts++[v]):=by unfold Ea;rw[hn];rfl
 have h4:FL.putAt fs o (.l (ks++[.inr k]) (ts++[v]))=ar:=by unfold FL.putAt;rw[h0];exact e
 have h5:P4 (.n o) (.t (.str k)) (.t v) fs=.bad:=rfl;have h6:NJ (.n o) (.t (.str k)) (.t v) fs=.nx ar:=by simp only[NJ,h2,F9,hl,if_true,h3,h4]
 unfold Ca;rw[hv];simp only[Out.bnd,Out.bind];rw[h1];simp only;rw[hi];simp only[SO.of];unfold TQ;rw[h5];exact h6
theorem Mr{i j:Nat}{fs ag av:FS}{x y:T}(h1:tgN i x fs=some ag)(h2:tgN j y ag=some av):AL 2 (Ag (tgN i) (Ag (tgN j) AG)) (.tup [x,y]) fs=some av:=by have e:AL 2 (Ag (tgN i) (Ag (tgN j) AG)) (.tup [x,y]) fs=Ag (tgN i) (Ag (tgN j) AG) [x,y] fs:=rfl;rw[e];simp only[Ag,h1,h2,uZ,AG]
noncomputable def ED(K:Kd):List Key:=K.map λkd=>(.inr kd.1:Key)
theorem any_false{ks:List Key}{k:Key}(h:k∉ks):(ks.any λk'=>decide (k'=k))=false:=by rw[vZ];intro x hx;rw[decide_eq_true_eq];intro e;exact h (e▸hx)
theorem sq{g h:FS->SO}{fs ar:FS}{r:SO}(e:g fs=.nx ar)(e2:h ar=r):Al g h fs=r:=(Jw e).trans e2
theorem Ln{f:FS->Out Rv}{fs ag:FS}{b:Bool}(h:f fs=.ok (.t (.v b)) ag):asB f fs=.ok b ag:=by unfold asB;rw[h];rfl
theorem Tb{f:FS->Out Bool}{fs ag:FS}{b:Bool}(h:f fs=.ok b ag):GF f fs=.ok (!b) ag:=by unfold GF;rw[h];rfl
theorem R7{f:FS->Out Rv}{fs ag:FS}{b:Bool}(h:f fs=.ok (.t (.v b)) ag):Mx f fs=.ok b ag:=by unfold Mx;rw[h];rfl
theorem Xc{c:FS->Out Bool}{g h:FS->SO}{fs ag:FS}{r:SO}(hc:c fs=.ok false ag)(e:h ag=r):ifS c g h fs=r:=by unfold ifS;rw[hc];exact e
theorem Xb{c:FS->Out Bool}{g h:FS->SO}{fs ag:FS}{r:SO}(hc:c fs=.ok true ag)(e:g ag=r):ifS c g h fs=r:=by unfold ifS;rw[hc];exact e
theorem Ht{i:Nat}{fs:FS}{o:FO}(h:fs[i]?=some (some (.own o))):Aa i fs=.ok (.n i) fs:=by unfold Aa;rw[h]
theorem PM{i:Nat}{fs:FS}{o:FO}(h:fs[i]?=some (some (.bor o))):Aa i fs=.ok (.n i) fs:=by unfold Aa;rw[h]
theorem Jbs{i:Nat}{fs:FS}{o:FO}(h:fs[i]?=some (some (.own o))):FL.AD fs i=some o:=by unfold FL.AD;rw[h]
theorem Ta{i:Nat}{fs:FS}{o:FO}(h:fs[i]?=some (some (.bor o))):FL.AD fs i=some o:=by unfold FL.AD;rw[h]
theorem N6{f:FS->Out Rv}{fs ag:FS}{r:Rv}(h:f fs=.ok r ag):By f fs=.nx ag:=by unfold By;rw[h];rfl
theorem BJ{κ:Type}[DecidableEq κ]:∀{ks:List κ}{ts:List T}{k:κ},k∉ks->BR ks ts k=none
 | [],_,_,_=>by unfold BR;rfl
 |k'::ks,[],k,_=>by unfold BR;rfl
 |k'::ks,t::ts,k,h=>by
  have h1:k'≠k:=λe=>h (e▸uj)
  have h2:k∉ks:=λm=>h (tV _ m)
  simp only[BR,if_neg h1,BJ h2]
theorem Cu{κ α:Type}[DecidableEq κ]{f:α->κ}{g:α->T}:∀{xs:List α}{x:α},x∈xs->(xs.map f).Nodup->BR (xs.map f) (xs.map g) (f x)=some (g x)
 |y::ys,x,m,nd=>by
  rw[tR,tR];unfold BR;rw[tR,uG]at nd;by_cases e:f y=f x
  .rw[if_pos e];rcases uk.mp m with rfl|m
   .rfl
   .exact(nd.1 (ug.mpr ⟨x,m,e.symm⟩)).elim
  .rw[if_neg e];rcases uk.mp m with rfl|m
   .exact(e rfl).elim
   .exact Cu m nd.2
theorem Xa{neg:Bool}{k:Str}{i:Nat}{ks:List Key}{ts:List T}{fs:FS}(h:FL.AD fs i=some (.l ks ts)):Dh neg (.t (.str k)) (.n i) fs=.ok (.t (.v (if neg then !(BR ks ts (.inr k:Key)).isSome else(BR ks ts (.inr k:Key)).isSome))) fs:=by
 unfold Dh orG;have e:TY neg (.t (.str k)) (.n i) fs=.ok (.t (.v (if neg then !(BR ks ts (.inr k:Key)).isSome else(BR ks ts (.inr k:Key)).isSome))) fs:=by simp only[TY,RD,h,F9,vO];rfl
 rw[e]
theorem Jbt{neg:Bool}{k:Str}{ks:List Key}{ts:List T}{fs:FS}:Dh neg (.t (.str k)) (.t (.l ks ts)) fs=.ok (.t (.v (if neg then !(BR ks ts (.inr k:Key)).isSome else(BR ks ts (.inr k:Key)).isSome))) fs:=rfl
theorem He:∀xs:List Str,Sx (xs.map T.str)=some (xs.map V.str)
 | []=>rfl
 |x::xs=>by simp only[tR,Sx,plV,uZ,He xs,vO]
theorem JU(k:Str):∀xs:List Str,inV (.str k) (xs.map V.str)=decide (k∈xs)
 | []=>by simp[inV]
 |x::xs=>by
  have:=JU k xs;unfold inV at this ⊢;rw[tR,vL,this];have e:eqV (.str x) (.str k)=decide (k=x):=by
   by_cases h:k=x
   .subst h;simp[eqV]
   .have h':x≠k:=λe=>h e.symm
    simp[eqV,h,h']
  rw[e,vc];simp
theorem Rl{neg:Bool}{k:Str}{xs:List Str}{fs:FS}:Dh neg (.t (.str k)) (.t (.lst (xs.map T.str))) fs=.ok (.t (.v (if neg then !decide (k∈xs)else decide (k∈xs)))) fs:=by
 have e:gIn neg (.t (.str k)) (.t (.lst (xs.map T.str))) fs=.ok (.t (.v (if neg then !decide (k∈xs)else decide (k∈xs)))) fs:=by simp only[gIn,plV,Df,He,okT,JU]
 exact e
theorem W9{neg:Bool}{k:Str}{xs:List Str}{i:Nat}{fs:FS}(h:FL.AD fs i=some (.lst (xs.map T.str))):Dh neg (.t (.str k)) (.n i) fs=.ok (.t (.v (if neg then !decide (k∈xs)else decide (k∈xs)))) fs:=by
 have e:gIn neg (.t (.str k)) (.n i) fs=.ok (.t (.v (if neg then !decide (k∈xs)else decide (k∈xs)))) fs:=by simp only[gIn,plV,Df,h,He,okT,JU]
 have e1:TY neg (.t (.str k)) (.n i) fs=.bad:=by simp only[TY,RD,h]
 unfold Dh orG;rw[e1];exact e
theorem Qv{fa fb fc:FS->Out Rv}{fs:FS}{a b c:Int}(ha:fa fs=.ok (.t (.int a)) fs)(hb:fb fs=.ok (.t (.int b)) fs)(hc:fc fs=.ok (.t (.int c)) fs)(h1:a<=b)(h2:b<=c):GF (asB (chain gLe gLe fa fb fc)) fs=.ok false fs:=by
 have e1:gLe (.t (.int a)) (.t (.int b)) fs=.ok (.t (.v true)) fs:=by show okT (.v (decide (a<=b))) _=_;rw[uE h1];rfl
 have e2:gLe (.t (.int b)) (.t (.int c)) fs=.ok (.t (.v true)) fs:=by show okT (.v (decide (b<=c))) _=_;rw[uE h2];rfl
 simp only[GF,asB,chain,Out.bnd,Out.bind,ha,hb,hc,e1,e2,Bool.not_true]
theorem Ti{x:T}{ts:List T}{f:FS->Out Rv}{fs ag:FS}(h:f fs=.ok (.t x) ag)(hs:x=.lst ts\/x=.tup ts):Ac AR (Ab f Ai) fs=.ok (.t (.int ts.length)) ag:=by unfold Ac;rw[BY h (show Ai ag=.ok [] ag from rfl)];rcases hs with rfl|rfl<;>rfl
theorem DN{fs:FS}:Ai fs=.ok [] fs:=rfl
theorem TV{x y:Str}{fs:FS}:gEq false (.t (.str x)) (.t (.str y)) fs=.ok (.t (.v (decide (x=y)))) fs:=by
 have q:decide (V.str x=V.str y)=decide (x=y):=by
  by_cases h:x=y
  .subst h;simp
  .rw[uA h,uA (by intro z;cases z;exact h rfl)]
 show(if QW (V.str x) (V.str y)=true then okT (.v (if false=true then _ else decide (V.str x=V.str y))) fs else .bad)=_;rw[if_pos (show QW (V.str x) (V.str y)=true from rfl),q];rfl
theorem Ry{fa fb:FS->Out Rv}{fs:FS}{x y:Str}(h1:fa fs=.ok (.t (.str x)) fs)(h2:fb fs=.ok (.t (.str y)) fs):asB (Af (gEq false) fa fb) fs=.ok (decide (x=y)) fs:=Ln (AH h1 h2 TV)
noncomputable def mks(K:Kd):List Str:=K.flatMap λkd=>kd.2.map (·.1)
noncomputable def Bt(K:Kd):List Key:=(mks K).map λm=>(.inr m:Key)
structure Well(K:Kd):Prop where
 lo:1<=K.length
 hi:K.length<=4
 nd:(K.map (·.1)).Nodup
 nm:∀kd∈K,A2 [vl (.str kd.1)]=.ok (.t (.v true)) [vl (.str kd.1)]
 rw:∀kd∈K,1<=kd.2.length/\kd.2.length<=4
 yM:(mks K).Nodup
 yI:∀m∈mks K,A2 [vl (.str m)]=.ok (.t (.v true)) [vl (.str m)]
 yG:∀m∈mks K,m.length<=12
 two:∀kd∈K,∀r∈kd.2,r.2.length<=2
 zd:∀kd∈K,∀r∈kd.2,∀x∈r.2,x∈K.map (·.1)
 gr:∀D kd R,K=D++kd::R->∀r,kd.2[0]?=some r->∀x∈r.2,x∈D.map (·.1)
theorem JM{K:Kd}{kd:Str×List (Str×List Str)}{r:Str×List Str}(h1:kd∈K)(h2:r∈kd.2):r.1∈mks K:=u0.mpr ⟨kd,h1,ug.mpr ⟨r,h2,rfl⟩⟩
theorem JJ{K:Kd}(h4:K.length<=4)(hr:∀kd∈K,kd.2.length<=4):(mks K).length<=16:=by
 have:∀K:Kd,(∀kd∈K,kd.2.length<=4)->(mks K).length<=4*K.length:=by
  intro K
  induction K with
  |nil=>intro _;simp[mks]
  |cons kd K ih =>
   intro h;have:=ih λkd m=>h kd (tV _ m)
   have h1:=h kd uj;unfold mks at this ⊢;rw[List.flatMap_cons,uH,tZ,uC]
   lia
 have:=this K hr
 lia
theorem Fm(D R:Kd):mks (D++R)=mks D++mks R:=by unfold mks;rw[List.flatMap_append]
theorem DO(kd:Str×List (Str×List Str))(R:Kd):mks (kd::R)=kd.2.map (·.1)++mks R:=by unfold mks;rw[List.flatMap_cons]
theorem OT{rs:List (Str×List Str)}(h:(rs.map (·.1)).Nodup){r r':Str×List Str}(m:r∈rs)(m':r'∈rs)(e:r.1=r'.1):r=r':=by
 induction rs with
 |nil=>cases m
 |cons a rs ih =>
  rw[tR,uG]at h;rcases uk.mp m with q|q
  .rcases uk.mp m' with q'|q'
   .rw[q,q']
   .exact(h.1 (ug.mpr ⟨r',q',by rw[<- e,q]⟩)).elim
  .rcases uk.mp m' with q'|q'
   .exact(h.1 (ug.mpr ⟨r,q,by rw[e,q']⟩)).elim
   .exact ih h.2 q q'
noncomputable def KI(r:Str×List Str):Key:=.inr r.1
theorem Ed(D:Kd)(kd:Str×List (Str×List Str)):Bt (D++[kd])=Bt D++kd.2.map KI:=by unfold Bt;rw[Fm,DO,tU,tU,uD];simp[mks,KI,Function.comp_def]
theorem B2{xs:List Str}(h:xs.Nodup):(xs.map λm=>(.inr m:Key)).Nodup:=by
 induction xs with
 |nil=>simp
 |cons x xs ih =>
  rw[uG]at h;rw[tR,uG];refine⟨λm=>?_,ih h.2⟩;rw[ug]at m;obtain⟨y,my,e⟩:=m;have:y=x:=by simpa using e
  exact h.1 (this▸my)
theorem Well.part{K:Kd}(W:Well K){D R:Kd}{kd:Str×List (Str×List Str)}(e:D++kd::R=K):(Bt D++kd.2.map KI).Nodup/\(Bt D).length+kd.2.length<1000/\kd∈K/\(kd.2.map (·.1)).Nodup:=by
 have h:=W.yM;have hl:=JJ W.hi λkd m=>(W.rw kd m).2
 rw[<- e,Fm,DO]at h hl;refine⟨?_,?_,by rw[<- e];simp,?_⟩
 .rw[<- Ed];refine B2 ?_;rw[Fm,DO];simp only[mks,List.flatMap_nil,uK];rw[<- uL]at h;exact(tQ.mp h).1
 .unfold Bt;rw[tZ];simp at hl
  lia
 .exact(tQ.mp (tQ.mp h).2.1).1
theorem Uv{C:Addr}{f:Str}{i j:Nat}{fv:FS->Out Rv}{fs ag ar:FS}{gs:List Str}{os:List FO}{ks:List Key}{ts:List T}{k:Str}{t:T}(hv:fv fs=.ok (.t t) ag)(h0:ag[i]?=some (some (.bor (.ins C gs os))))(hj:ag[j]?=some (vl (.str k)))(hf:Bh gs os f=some (.l ks ts))(hn:(.inr k:Key)∉ks)(hl:ks.length<big)
  (e:ag.set i (some (.bor (.ins C gs (BB gs os f (.l (ks++[.inr k]) (ts++[t]))))))=ar):C4 C f i j fv fs=.nx ar:=by
 have h3:Ea ks ts (.inr k:Key) t=(ks++[.inr k],ts++[t]):=by unfold Ea;rw[any_false hn];rfl
 unfold C4;rw[hv];simp only[SO.of,Ta h0,hj,F9,hf,if_true,hl,h3];unfold FL.putAt;rw[h0];simp only[Sl.put,e]
noncomputable def UR(rows:List (Str×List Str)):List T:=rows.map λr=>T.tup (r.2.map T.str)
noncomputable def MO(K:Kd):List T:=K.flatMap λkd=>UR kd.2
noncomputable def LU(k:Str)(rows:List (Str×List Str)):List T:=rows.map λ_=>T.str k
noncomputable def CP(K:Kd):List T:=K.flatMap λkd=>LU kd.1 kd.2
noncomputable def IA(K:Kd):List T:=K.map λkd=>T.lst ((kd.2.map (·.1)).map T.str)
theorem MN(D:Kd)(kd:Str×List (Str×List Str)):MO (D++[kd])=MO D++UR kd.2:=by unfold MO;simp
theorem Pn:("makers_by_kind":Str)≠("parts_by_maker":Str)/\("makers_by_kind":Str)≠("home_by_maker":Str)/\("parts_by_maker":Str)≠("home_by_maker":Str):=by decide +kernel
noncomputable def QT(C:Addr)(K:Kd)(hs:List T):FO:=.ins C ["makers_by_kind","parts_by_maker","home_by_maker"] [.l (ED K) (IA K),.l (Bt K) (MO K),.l (Bt K) hs]
noncomputable def B1(C:Addr)(K:Kd)(hs:List T):T:=.ins C ["makers_by_kind","parts_by_maker","home_by_maker"] [.l (ED K) (IA K),.l (Bt K) (MO K),.l (Bt K) hs]
theorem JR{K:Kd}(W:Well K):(K.map λkd=>(.inr kd.1:Key)).Nodup:=by have:=B2 W.nd;rwa[uD]at this
theorem val_mk{K:Kd}(W:Well K){kd:Str×List (Str×List Str)}(m:kd∈K):BR (ED K) (IA K) (.inr kd.1:Key)=some (.lst ((kd.2.map (·.1)).map T.str)) :=
 Cu (f:=λkd:Str×List (Str×List Str)=>(.inr kd.1:Key)) (g:=λkd:Str×List (Str×List Str)=>T.lst ((kd.2.map (λr:Str×List Str=>r.1)).map T.str)) m (JR W)
noncomputable def allR(K:Kd):List (Str×List Str):=K.flatMap (·.2)
theorem Fo(K:Kd):Bt K=(allR K).map KI:=by unfold Bt mks allR;rw[vB,vB];simp only[uD];rfl
theorem O3(K:Kd):MO K=(allR K).map λr=>T.tup (r.2.map T.str):=by unfold MO UR allR;rw[vB]
theorem Mq{K:Kd}(W:Well K){kd:Str×List (Str×List Str)}{r:Str×List Str}(m:kd∈K)(m2:r∈kd.2):BR (Bt K) (MO K) (.inr r.1:Key)=some (.tup (r.2.map T.str)):=by have h:=B2 W.yM;have h2:=Fo K;unfold Bt at h2;rw[h2]at h;rw[Fo,O3];exact Cu (f:=KI) (g:=λr=>T.tup (r.2.map T.str)) (x:=r) (u0.mpr ⟨kd,m,m2⟩) h
theorem Xm{k:Str}{ks:List Key}{ts:List T}{t:T}{fs:FS}(h:BR ks ts (.inr k:Key)=some t):AO (.t (.l ks ts)) (.t (.str k)) fs=.ok (.t t) fs:=by
 have e:J0 (.t (.l ks ts)) (.t (.str k)) fs=.ok (.t t) fs:=by simp only[J0,RD,F9,vO,h,okT]
 exact e
theorem PC{C:Addr}{mt:Str}{fs:FS}{K:Kd}{hs:List T}(h:(["makers_by_kind","parts_by_maker","home_by_maker"]:List Str).any (·==mt)=false):Hs C mt fs (.t (B1 C K hs))=true:=by unfold Hs B1;simp only[h];simp
theorem Rp{gt:T->FS->Option FS}{body:FS->SO}{t:T}{ts:List T}{fs ag av:FS}(h1:gt t fs=some ag)(h2:body ag=.nx av):ES gt body (t::ts) fs=ES gt body ts av:=by simp only[ES,h1,h2]
theorem T4{gt:T->FS->Option FS}{body:FS->SO}{t:T}{ts:List T}{fs ag av:FS}{r:Rv}(h1:gt t fs=some ag)(h2:body ag=.ret r av):ES gt body (t::ts) fs=.ret r av:=by simp only[ES,h1,h2]
theorem Cj{g:List Rv->FS->Out Rv}{fa:FS->Out (List Rv)}{fs ag:FS}{rs:List Rv}{r:Out Rv}(h:fa fs=.ok rs ag)(h2:g rs ag=r):Ac g fa fs=r:=by unfold Ac;rw[h];exact h2
theorem K7{gt:T->FS->Option FS}{fe:FS->Out Rv}{t v:T}{ts ay:List T}{τ jH cS:FS}(h1:gt t τ=some jH)(h2:fe jH=.ok (.t v) cS)(hl:ay.length<big):Bl gt F8 fe (t::ts) τ ay=Bl gt F8 fe ts cS (ay++[v]):=by simp only[Bl,h1,F8,h2,if_pos hl]
theorem VD{fs:FS}{i:Nat}{ts:List T}(h:fs[i]?=some (some (.own (.lst ts)))):Df fs (.n i)=some ts:=by simp only[Df,Jbs h]
theorem Kh{f g:FS->Out Bool}{fs:FS}{a b:Bool}(h1:f fs=.ok a fs)(h2:g fs=.ok b fs):Ki f g fs=.ok (a&&b) fs:=by
 unfold Ki;rw[h1];cases a
 .rfl
 .show g fs=_;rw[h2];rfl
theorem Yu{ps us:List T}{fs:FS}(h:ps.length+us.length<=big):Av (.t (.tup ps)) (.t (.tup us)) fs=.ok (.t (.tup (ps++us))) fs:=by cases ps with|nil=>rfl|cons p ps =>have:NO (.t (.tup (p::ps))) (.t (.tup us)) fs=.ok (.t (.tup (p::ps++us))) fs:=if_pos ⟨by simp,h⟩;show(match NO (.t (.tup (p::ps))) (.t (.tup us)) fs with|.bad=>_|o=>o)=_;rw[this]
open PySem.Builtin.Int (intBits)
theorem Kb{x:Int}{n:Nat}:intBits x<=n↔x.natAbs<2^n:=by
 unfold intBits;by_cases h:x=0
 .subst h;simp[Nat.two_pow_pos]
 .have h':(x==0)=false:=by simpa using h
  rw[h'];have hn:x.natAbs≠0:=by lia
  have:=Nat.log2_lt hn (k:=n);simp only[uJ,if_false]
  lia
theorem bits_add{x y:Int}{n:Nat}(h1:intBits x<=n)(h2:intBits y<=n):intBits (x+y)<=n+1:=by
 rw[Kb]at h1 h2 ⊢;rw[Nat.pow_succ];generalize 2^n=m at *
 lia
theorem bits_mul{x y:Int}{n m:Nat}(h1:intBits x<=n)(h2:intBits y<=m):intBits (x*y)<=n+m:=by
 rw[Kb]at h1 h2 ⊢;rw[Int.natAbs_mul,Nat.pow_add];have hp:0<2^n:=Nat.two_pow_pos n
 calc x.natAbs*y.natAbs<=2^n*y.natAbs:=Nat.mul_le_mul_right _ (by lia)
  _<2^n*2^m:=Nat.mul_lt_mul_of_pos_left h2 hp
theorem Ek{x:Int}{n:Nat}(h:x.natAbs<2^n):intBits x<=n:=Kb.mpr h
theorem JP{C:Addr}{p:Nat}{Fn:FS->Out Rv}{fa:FS->Out (List Rv)}{fs ag τ:FS}{rs:List Rv}{o:FO}(ha:fa fs=.ok rs ag)(hp:rs.length+1=p)(hl:DC ag (rs.map AW)=[])(hf:Fn (some (.bor (.ins C [] []))::BU ag (rs.map AW))=.ok (.t .o) (some (.bor o)::τ)):Ac (DR C p Fn) fa fs=.ok (.nw o) ag:=by unfold Ac;rw[ha];show DR C p Fn rs ag=_;unfold DR;rw[if_pos ⟨by rw[hl];exact uF,hp⟩,hf];dsimp only;rw[B9 hl]
theorem UI{xs ys:List T}{fs:FS}(h:xs.length+ys.length<=big):Av (.t (.lst xs)) (.t (.lst ys)) fs=.ok (.nw (.lst (xs++ys))) fs:=by
 have:LZ (.t (.lst xs)) (.t (.lst ys)) fs=.ok (.nw (.lst (xs++ys))) fs:=by simp only[LZ,exL];exact if_pos h
 show(match LZ (.t (.lst xs)) (.t (.lst ys)) fs with|.bad=>_|o=>o)=_;rw[this]
theorem QU{fs:FS}{i:Nat}{o:FO}{x:Option Sl}(e:fs[i]?=some x)(h:Fre x):Ju i (.nw o) fs=some (fs.set i (some (.own o))):=by unfold Ju;rw[e];cases x with|none=>rfl|some s=>cases s with|val t=>rfl|own o=>rfl|bor o=>exact h.elim
theorem HZ{n:Nat}{g:FS->SO}{args τ:FS}{t:T}(h:g (args++List.replicate n none)=.ret (.t t) τ):Bq n g args=.ok (.t t) (τ.take args.length):=by unfold Bq;rw[h]
theorem Tw{f:FS->Out Rv}{fs:FS}{ts:List T}(h:f fs=.ok (.t (.lst ts)) fs):itU f fs=.ok ts fs:=by unfold itU;rw[h];rfl
theorem OR{n:Nat}{g:FS->SO}{args τ:FS}{i:Nat}{o:FO}(h:g (args++List.replicate n none)=.ret (.n i) τ)(hi:τ[i]?=some (some (.own o))):Bq n g args=.ok (.nw o) ((τ.set i none).take args.length):=by unfold Bq;rw[h];simp only[hi]
theorem Si{n:Nat}{g:FS->SO}{args τ:FS}{o:FO}(h:g (args++List.replicate n none)=.ret (.nw o) τ):Bq n g args=.ok (.nw o) (τ.take args.length):=by unfold Bq;rw[h]
noncomputable def exN(s:Str):T:=.tup [.str "name",.str s]
noncomputable def exP(h s:Str)(ts:List T):T:=.tup [.str h,.str s,.tup ts]
theorem NY(m:Nat)(a b:Str):eqT m (.str a) (.str b)=some (a==b):=by cases m<;>rfl
theorem Uo(m:Nat)(xs ys:List T):eqT (m+1) (.tup xs) (.tup ys)=(KW (eqT m) xs ys).map (·&&xs.length==ys.length):=rfl
theorem Kr{g h:FS->SO}{fs ar:FS}{c:Str}(e:g fs=.exc c ar):Al g h fs=.exc c ar:=by unfold Al;rw[e]
theorem OS{n:Nat}{g:FS->SO}{args τ:FS}{c:Str}(h:g (args++List.replicate n none)=.exc c τ):Bq n g args=.exc c (τ.take args.length):=by unfold Bq;rw[h]
theorem FK{p:Nat}{Fn:FS->Out Rv}{fa:FS->Out (List Rv)}{fs ag τ:FS}{rs:List Rv}{c:Str}(ha:fa fs=.ok rs ag)(hp:rs.length=p)(hn:DC ag (rs.map AW)=[])(hf:Fn (BU ag (rs.map AW))=.exc c τ):Ac (Ah p Fn) fa fs=.exc c ag:=by have hb:Dz (rs.map AW) τ ag=some ag:=B9 hn;unfold Ac;rw[ha];show Ah p Fn rs ag=_;unfold Ah;rw[if_pos hp];unfold GR;rw[if_pos (by rw[hn];exact uF),hf];simp only[hb]
def Nn:Rv->Prop
 |.nw _=>False
 |_=>True
section
variable{α:Type}{f fa fb:FS->Out Rv}{ga:FS->Out (List Rv)}{c ct:FS->Out Bool}{it:FS->Out (List T)}{s s' h:FS->SO}{fs ag av ar τ:FS}{x y r:Rv}{rs:List Rv}{o:Out Rv}{so:SO}{b b':Bool}{t u:T}{ts us:List T}{i j p:Nat}{g:Rv->Rv->FS->Out Rv}{gt:T->FS->Option FS}{gs:List T->FS->Option FS}{Fn:FS->Out Rv}{C:Addr}{m:Str}
theorem BS{k:Rv->FS->Out α}(n:Nn x):(Out.ok x fs).bnd k=k x fs:=by cases x<;>first|rfl|exact n.elim
theorem Zw(h1:fa fs=.ok x ag)(n1:Nn x)(h2:fb ag=.ok y av)(n2:Nn y)(h3:g x y av=o):Af g fa fb fs=o:=by unfold Af;rw[h1,BS n1];show(fb ag).bnd _=_;rw[h2,BS n2];exact h3
theorem Ml(h1:f fs=.ok x ag)(n1:Nn x)(h2:ga ag=.ok rs av):Ab f ga fs=.ok (x::rs) av:=by unfold Ab;rw[h1,BS n1];show(ga ag).bind _=_;rw[h2];rfl
noncomputable def fzR:Rv->FS->Out Rv
 |.t t,fs=>.ok (.t t) fs
 |.nw o,fs=>.ok (.t (toT o)) fs
 |.n i,fs=>match fs[i]? with|some (some (.own o))=>.ok (.t (toT o)) (fs.set i (some (.val (toT o))))|_=>.bad
theorem JbH(h:f fs=.ok r ag)(e:fzR r ag=o):fz f fs=o:=by unfold fz;rw[h];show _=_;cases r<;>exact e
theorem x_call(h0:ga fs=.ok rs ag)(hp:rs.length=p)(hl:DC ag (rs.map AW)=[])(hf:Fn (BU ag (rs.map AW))=.ok r τ)(hr:r=.t t\/∃o,r=.nw o):Ac (Ah p Fn) ga fs=.ok r ag:=by
 rcases hr with rfl|⟨o,rfl⟩
 .exact Lc h0 hp (by rw[hl];exact uF) hf (B9 hl)
 .exact QG h0 hp (by rw[hl];exact uF) hf (B9 hl)
theorem R4(h0:ga fs=.ok rs ag)(hp:rs.length=p)(hl:DC ag (rs.map AW)=[])(hf:Fn (BU ag (rs.map AW))=.ok (.t t) τ):Ac (Ah p Fn) ga fs=.ok (.t t) ag:=x_call (t:=t) h0 hp hl hf (.inl rfl)
theorem R0{o:FO}(h0:ga fs=.ok rs ag)(hp:rs.length=p)(hl:DC ag (rs.map AW)=[])(hf:Fn (BU ag (rs.map AW))=.ok (.nw o) τ):Ac (Ah p Fn) ga fs=.ok (.nw o) ag:=x_call (t:=.o) h0 hp hl hf (.inr ⟨o,rfl⟩)
theorem Zy(h:f fs=.ok (.t (.v b)) ag):asB f fs=.ok b ag:=Ln h
theorem Y5(e:s fs=.nx ag)(e2:h ag=so):Al s h fs=so:=sq e e2
theorem RT(hc:c fs=.ok b ag)(e:(bif b then Al s h ag else Al s' h ag)=so):Al (ifS c s s') h fs=so:=by unfold Al ifS;rw[hc];cases b<;>exact e
theorem JbG(hc:c fs=.ok b ag)(e:(bif b then s ag else s' ag)=so):ifS c s s' fs=so:=by unfold ifS;rw[hc];cases b<;>exact e
theorem Vj(hc:c fs=.ok b ag)(hb:b=false)(e:s' ag=so):ifS c (λ_=>.bad) s' fs=so:=by subst hb;unfold ifS;rw[hc];exact e
theorem YY:Al nxS h fs=h fs:=rfl
theorem QN(e:f fs=.ok r ag):Al (retS f) h fs=.ret r ag:=EL (CD e)
theorem Y4(h:f fs=.ok r ag)(e:Ju i r ag=some av):AB i f fs=.nx av:=by unfold AB;rw[h];show(match Ju i r ag with|some fs=>SO.nx fs|none=>.bad)=_;rw[e]
theorem Zx(h:f fs=.ok (.t t) ag)(e:gt t ag=some av):EY f gt fs=.nx av:=by unfold EY;rw[h];show(match gt t ag with|some fs=>SO.nx fs|none=>.bad)=_;rw[e]
theorem YR(h:ts.length=i)(e:gs ts fs=some ar):AL i gs (.tup ts) fs=some ar:=(if_pos h).trans e
theorem U0(h:ts.length=i)(e:gs ts fs=some ar):Ly i gs (.lst ts) fs=some ar:=(if_pos h).trans e
theorem YU(e:gt t fs=some ag)(e2:gs ts ag=some av):Ag gt gs (t::ts) fs=some av:=by show(gt t fs).bind _=_;rw[e];exact e2
theorem Ga{z:Option Sl}(e:fs[i]?=some z)(h:Fre z):tgN i t fs=some (fs.set i (vl t)):=by unfold tgN;exact Kp e h
theorem HM(h:it fs=.ok ts ag)(e:ES gt s ts ag=so):B4 it gt s fs=so:=by unfold B4;rw[h];exact e
theorem Vd(h:f fs=.ok (.t t) ag)(e:t=.lst ts\/t=.tup ts\/t=.zY ts):itU f fs=.ok ts ag:=by unfold itU;rw[h];rcases e with rfl|rfl|rfl<;>rfl
theorem Zh(h1:fa fs=.ok (.t t) ag)(e1:Jl t=some ts)(h2:fb ag=.ok (.t u) av)(e2:Jl u=some us):itZ fa fb fs=.ok (FL.pairs ts us) av:=by unfold itZ;rw[h1,BS (x:=.t t) True.intro];show(fb ag).bnd _=_;rw[h2,BS (x:=.t u) True.intro];show(match Jl t,Jl u with|some xs,some ys=>Out.ok (FL.pairs xs ys) av|_,_=>.bad)=_;rw[e1,e2]
theorem Zj(h1:fa fs=.ok (.t t) ag)(e1:Jl t=some ts):itE fa fs=.ok (D1 0 ts) ag:=by unfold itE;rw[h1,BS (x:=.t t) True.intro];show(match Jl t with|some xs=>Out.ok (D1 0 xs) ag|none=>.bad)=_;rw[e1]
theorem Vh{d:List T->FS->Out Rv}(h:ga fs=.ok rs ag)(h2:Mc rs=some ts)(h3:ts.length<=big)(e:d ts ag=o):Ap d ga fs=o:=Uw h h2 h3 e
theorem Ze(h:f fs=.ok (.t t) ag)(e:t=.lst ts\/t=.tup ts):Ac AR (Ab f Ai) fs=.ok (.t (.int ts.length)) ag:=Ti h e
theorem Mn(h1:c fs=.ok b ag)(h2:b=true->ct ag=.ok b' ag):Ki c ct fs=.ok (b&&b') ag:=by unfold Ki;rw[h1];cases b with|true=>exact h2 rfl|false=>rfl
theorem Mo(h1:c fs=.ok b ag)(hb:b=false):Ki c ct fs=.ok false ag:=by subst hb;exact Mn (b':=false) h1 (λh=>by cases h)
theorem Mm{ar:FS}(h1:c fs=.ok b ag)(hb:b=true)(h2:ct ag=.ok b' ar):Ki c ct fs=.ok b' ar:=by subst hb;unfold Ki;rw[h1];exact h2
theorem U9{ar:FS}(h1:c fs=.ok b ag)(hb:b=false)(h2:ct ag=.ok b' ar):orT c ct fs=.ok b' ar:=by subst hb;unfold orT;rw[h1];exact h2
theorem Y7(h1:c fs=.ok b ag)(h2:b=false->ct ag=.ok b' ag):orT c ct fs=.ok (b||b') ag:=by unfold orT;rw[h1];cases b with|false=>exact h2 rfl|true=>rfl
theorem JaB{i j:Int}:gLt (.t (.int i)) (.t (.int j)) fs=.ok (.t (.v (decide (i<j)))) fs:=rfl
theorem JaD{i j:Int}:gLe (.t (.int i)) (.t (.int j)) fs=.ok (.t (.v (decide (i<=j)))) fs:=rfl
theorem Jbw{i j:Int}:gEq false (.t (.int i)) (.t (.int j)) fs=.ok (.t (.v (decide (i=j)))) fs:=by
 have:=Rz (fa:=gc (.int i)) (fb:=gc (.int j)) (fs:=fs) Dg Dg;unfold asB at this;show gEq false (.t (.int i)) (.t (.int j)) fs=_;rw[show Af (gEq false) (gc (.int i)) (gc (.int j)) fs=gEq false (.t (.int i)) (.t (.int j)) fs from rfl]at this;cases e:gEq false (.t (.int i)) (.t (.int j)) fs with
 |ok r av =>rw[e]at this;cases r with|t t=>cases t<;>simp_all[Out.bind]|nw o=>simp[Out.bind]at this|n i=>simp[Out.bind]at this
 |exc c av=>rw[e]at this;simp[Out.bind]at this
 |bad=>rw[e]at this;simp[Out.bind]at this
theorem QO(hc:c fs=.ok b ag)(hb:b=false)(e:Al s' h ag=so):Al (ifS c (λ_=>.bad) s') h fs=so:=by subst hb;exact RT hc e
def Rt:Rv->Prop
 |.n _=>False
 |_=>True
theorem RZ{as:FS}(h0:ga fs=.ok rs ag)(hp:rs.length=p)(hl:DC ag (rs.map AW)=[])(ha:BU ag (rs.map AW)=as)(hf:Fn as=.ok r τ)(hr:Rt r):Ac (Ah p Fn) ga fs=.ok r ag:=by subst ha;cases r with|t t=>exact R4 h0 hp hl hf|nw o=>exact R0 h0 hp hl hf|n i=>exact hr.elim
theorem JbQ{a1:T}(h0:ga fs=.ok [.t a1] ag)(hf:Fn [vl a1]=.ok r τ)(hr:Rt r):Ac (Ah 1 Fn) ga fs=.ok r ag:=RZ h0 rfl rfl rfl hf hr
theorem JbP{a1 a2:T}(h0:ga fs=.ok [.t a1,.t a2] ag)(hf:Fn [vl a1,vl a2]=.ok r τ)(hr:Rt r):Ac (Ah 2 Fn) ga fs=.ok r ag:=RZ h0 rfl rfl rfl hf hr
theorem JbO{a1 a2 a3:T}(h0:ga fs=.ok [.t a1,.t a2,.t a3] ag)(hf:Fn [vl a1,vl a2,vl a3]=.ok r τ)(hr:Rt r):Ac (Ah 3 Fn) ga fs=.ok r ag:=RZ h0 rfl rfl rfl hf hr
theorem JbN{a1 a2 a3 a4:T}(h0:ga fs=.ok [.t a1,.t a2,.t a3,.t a4] ag)(hf:Fn [vl a1,vl a2,vl a3,vl a4]=.ok r τ)(hr:Rt r):Ac (Ah 4 Fn) ga fs=.ok r ag:=RZ h0 rfl rfl rfl hf hr
theorem JbM{a1 a2 a3 a4 a5:T}(h0:ga fs=.ok [.t a1,.t a2,.t a3,.t a4,.t a5] ag)(hf:Fn [vl a1,vl a2,vl a3,vl a4,vl a5]=.ok r τ)(hr:Rt r):Ac (Ah 5 Fn) ga fs=.ok r ag:=RZ h0 rfl rfl rfl hf hr
theorem JbL{a1 a2 a3 a4 a5 a6:T}(h0:ga fs=.ok [.t a1,.t a2,.t a3,.t a4,.t a5,.t a6] ag)(hf:Fn [vl a1,vl a2,vl a3,vl a4,vl a5,vl a6]=.ok r τ)(hr:Rt r):Ac (Ah 6 Fn) ga fs=.ok r ag:=RZ h0 rfl rfl rfl hf hr
theorem JbC{a0 a1:T}(h1:f fs=.ok (.t a0) ag)(h2:ga ag=.ok [.t a1] av)(hf:Fn [vl a0,vl a1]=.ok r τ)(hr:Rt r)(hi:Hs C m ag (.t a0)=true):EC C m 2 Fn f ga fs=.ok r av:=by unfold EC;rw[h1,BS (x:=.t a0) True.intro];show(if _ then _ else _)=_;rw[if_pos hi,h2];exact RZ (ga:=λfs=>.ok [.t a0,.t a1] fs) rfl rfl rfl rfl hf hr
theorem JbD{a0:T}{o:FO}(h1:f fs=.ok (.t a0) ag)(hf:Fn [vl a0]=.ok (.nw o) τ)(hi:Hs C m ag (.t a0)=true):LN C m 1 Fn f Ai fs=.ok (.nw o) ag:=by unfold LN;rw[h1,BS (x:=.t a0) True.intro];show(if _ then _ else _)=_;rw[if_pos hi];show Om 1 Fn [.t a0] ag=_;unfold Om QF;rw[if_pos (show [Rv.t a0].length=1 from rfl),show DC ag ([Rv.t a0].map AW)=[]from rfl,if_pos uF,show BU ag ([Rv.t a0].map AW)=[vl a0]from rfl,hf];show(match Dz ([Rv.t a0].map AW) τ ag with|some ar=>Out.ok (Rv.nw o) ar|none=>.bad)=_;rw[B9 rfl]
theorem Zv{n:Str}{gs:List Str}{ts:List T}(h:f fs=.ok (.t (.ins C gs ts)) ag)(hv:EI gs ts n=some t):EF C n f fs=.ok (.t t) ag:=by unfold EF;rw[h,BS (x:=.t (.ins C gs ts)) True.intro];show(if _ then _ else _)=_;rw[if_pos rfl,hv];rfl
theorem gNe{x y:Rv}(h:gEq false x y fs=.ok (.t (.v b)) fs):gEq true x y fs=.ok (.t (.v (!b))) fs:=by unfold gEq at *;split at h<;>simp_all;split at h<;>simp_all[okT];split at h<;>simp_all
theorem Jaz{x y:Str}:gEq true (.t (.str x)) (.t (.str y)) fs=.ok (.t (.v (!decide (x=y)))) fs:=gNe TV
theorem JaA{x y:Int}:gEq true (.t (.int x)) (.t (.int y)) fs=.ok (.t (.v (!decide (x=y)))) fs:=gNe Jbw
theorem Zm:fzR (.t t) fs=.ok (.t t) fs:=rfl
theorem Zo:fzR (.nw (.lst ts)) fs=.ok (.t (.lst ts)) fs:=rfl
theorem Zn(h:fs[i]?=some (some (.own (.lst ts)))):fzR (.n i) fs=.ok (.t (.lst ts)) (fs.set i (vl (.lst ts))):=by simp only[fzR,h];rfl
theorem U3:nxS fs=.nx fs:=rfl
theorem YV:AG [] fs=some fs:=rfl
theorem JbI:AQ ts fs=.ok (.t (.tup ts)) fs:=rfl
theorem JbK:BV ts fs=.ok (.t (.lst ts)) fs:=rfl
theorem JbJ:DV ts fs=.ok (.nw (.lst ts)) fs:=rfl
theorem ZE:Mc []=some []:=rfl
theorem ZD(h:Mc rs=some ts):Mc (.t t::rs)=some (t::ts):=by unfold Mc;rw[h];rfl
theorem YX:Jl (.tup ts)=some ts:=rfl
theorem Zf{k:Int}(h:atI ts k=some t):AO (.t (.tup ts)) (.t (.int k)) fs=.ok (.t t) fs:=by
 have e:gIx (.t (.tup ts)) (.t (.int k)) fs=.ok (.t t) fs:=by simp only[gIx,Df,h];rfl
 show(match gIx (.t (.tup ts)) (.t (.int k)) fs with|.bad=>_|o=>o)=_;rw[e]
theorem Zg{k:Int}(h:atI ts k=some t):AO (.t (.lst ts)) (.t (.int k)) fs=.ok (.t t) fs:=KQ rfl h
end
def Sat(Q:SO->Prop)(so:SO):Prop:=Q so
section
variable{Q:SO->Prop}{f:FS->Out Rv}{c:FS->Out Bool}{it:FS->Out (List T)}{s s' h:FS->SO}{fs ag:FS}{r:Rv}{b:Bool}{ts:List T}{gt:T->FS->Option FS}{P:List T->FS->Prop}{R:FS->SO->Prop}{n:Nat}{args τ:FS}{A:Rv->Prop}
theorem E8(e:s fs=.nx ag)(k:Sat Q (h ag)):Sat Q (Al s h fs):=by unfold Sat;rw[Jw e];exact k
theorem LC(hc:c fs=.ok b ag)(k1:b=true->Sat Q (Al s h ag))(k2:b=false->Sat Q (Al s' h ag)):Sat Q (Al (ifS c s s') h fs):=by unfold Sat;rw[RT hc rfl];cases b;exact k2 rfl;exact k1 rfl
theorem q_if(hc:c fs=.ok b ag)(k1:b=true->Sat Q (s ag))(k2:b=false->Sat Q (s' ag)):Sat Q (ifS c s s' fs):=by unfold Sat;rw[JbG hc rfl];cases b;exact k2 rfl;exact k1 rfl
theorem VP(hc:c fs=.ok b ag)(hb:b=false)(k:Sat Q (Al s' h ag)):Sat Q (Al (ifS c (λ_=>.bad) s') h fs):=by unfold Sat;rw[QO hc hb rfl];exact k
theorem Z1(hc:c fs=.ok b ag)(hb:b=false)(k:Sat Q (s' ag)):Sat Q (ifS c (λ_=>.bad) s' fs):=by unfold Sat;rw[Vj hc hb rfl];exact k
theorem VS(e:f fs=.ok r ag)(k:Sat Q (.ret r ag)):Sat Q (retS f fs):=by unfold Sat;rw[CD e];exact k
theorem VN(e:f fs=.ok r ag)(k:Sat Q (.ret r ag)):Sat Q (Al (retS f) h fs):=by unfold Sat;rw[QN e];exact k
theorem Sj(k:Sat Q (h fs)):Sat Q (Al nxS h fs):=k
theorem q_ss(k:Sat Q (Al s (Al s' h) fs)):Sat Q (Al (Al s s') h fs):=by unfold Sat at *;unfold Al at *;cases e:s fs<;>simp only[e]at k ⊢<;>exact k
theorem VU(e:s fs=.nx ag)(k:Sat Q (.nx ag)):Sat Q (s fs):=by unfold Sat;rw[e];exact k
theorem J2(st:∀t ts fs,P (t::ts) fs->∃ag,gt t fs=some ag/\Sat (λso=>∃av,so=.nx av/\P ts av) (s ag)):∀(ts:List T)(fs:FS),P ts fs->∃ar,ES gt s ts fs=.nx ar/\P [] ar :=
 NR P λt ts fs p=>let⟨ag,a,av,b,c⟩:=st t ts fs p;⟨ag,av,a,b,c⟩
theorem VO(hi:it fs=.ok ts ag)(P:List T->FS->Prop)(h0:P ts ag)(st:∀t ts fs,P (t::ts) fs->∃ag,gt t fs=some ag/\Sat (λso=>∃av,so=.nx av/\P ts av) (s ag))(k:∀ar,P [] ar->Sat Q (h ar)):Sat Q (Al (B4 it gt s) h fs):=by obtain⟨ar,e,p⟩:=J2 st ts ag h0;exact E8 (HM hi e) (k ar p)
theorem Z0(hi:it fs=.ok ts ag)(P:List T->FS->Prop)(h0:P ts ag)(st:∀t ts fs,P (t::ts) fs->∃ag,gt t fs=some ag/\Sat (λso=>∃av,so=.nx av/\P ts av) (s ag))(k:∀ar,P [] ar->Sat Q (.nx ar)):Sat Q (B4 it gt s fs):=by obtain⟨ar,e,p⟩:=J2 st ts ag h0;unfold Sat;rw[HM hi e];exact k ar p
theorem MK(hi:it fs=.ok ts ag)(Pe:T->Prop)(I:FS->Prop)(h0:∀u∈ts,Pe u)(h1:I ag)(st:∀t fs,Pe t->I fs->∃ag,gt t fs=some ag/\Sat (λso=>∃av,so=.nx av/\I av) (s ag))(k:∀ar,I ar->Sat Q (h ar)):Sat Q (Al (B4 it gt s) h fs) :=
 VO hi (λus fs=>(∀u∈us,Pe u)/\I fs) ⟨h0,h1⟩ (λt us fs ⟨a,b⟩=>let⟨ag,e,av,e2,i⟩:=st t fs (a t uj) b;⟨ag,e,av,e2,λu m=>a u (tV _ m),i⟩) (λfs p=>k fs p.2)
theorem Q3(hi:it fs=.ok ts ag)(Pe:T->Prop)(I:FS->Prop)(h0:∀u∈ts,Pe u)(h1:I ag)(st:∀t fs,Pe t->I fs->∃ag,gt t fs=some ag/\Sat (λso=>∃av,so=.nx av/\I av) (s ag))(k:∀ar,I ar->Sat Q (.nx ar)):Sat Q (B4 it gt s fs) :=
 Z0 hi (λus fs=>(∀u∈us,Pe u)/\I fs) ⟨h0,h1⟩ (λt us fs ⟨a,b⟩=>let⟨ag,e,av,e2,i⟩:=st t fs (a t uj) b;⟨ag,e,av,e2,λu m=>a u (tV _ m),i⟩) (λfs p=>k fs p.2)
theorem Xz{α:Type}{p:α->T}{xs:List α}{I:List α->FS->Prop}(h0:I [] fs)(st:∀D a R fs,D++a::R=xs->I D fs->∃ag,gt (p a) fs=some ag/\Sat (λso=>∃av,so=.nx av/\I (D++[a]) av) (s ag)):∃ar,ES gt s (xs.map p) fs=.nx ar/\I xs ar:=by
 obtain⟨ar,e,D,R,h1,h2,h3⟩:=J2 (P:=λus fs=>∃D R,D++R=xs/\us=R.map p/\I D fs) (gt:=gt) (s:=s) (λt us fs ⟨D,R,h1,h2,h3⟩=>by cases R with|nil=>cases h2|cons a R =>obtain⟨rfl,rfl⟩:=List.cons.inj h2;obtain⟨ag,e,av,e2,i⟩:=st D a R fs h1 h3;exact⟨ag,e,av,e2,D++[a],R,by rw[<- h1];simp,rfl,i⟩) (xs.map p) fs ⟨[],xs,rfl,rfl,h0⟩;have:R=[]:=by cases R with|nil=>rfl|cons a R=>cases h2
 subst this;rw[uK]at h1;exact⟨ar,e,h1▸h3⟩
theorem Bo{α:Type}{p:α->T}{xs:List α}(hi:it fs=.ok (xs.map p) ag)(I:List α->FS->Prop)(h0:I [] ag)(st:∀D a R fs,D++a::R=xs->I D fs->∃ag,gt (p a) fs=some ag/\Sat (λso=>∃av,so=.nx av/\I (D++[a]) av) (s ag))(k:∀ar,I xs ar->Sat Q (h ar)):Sat Q (Al (B4 it gt s) h fs):=by obtain⟨ar,e,p⟩:=Xz h0 st;exact E8 (HM hi e) (k ar p)
theorem Ep{α:Type}{p:α->T}{xs:List α}(hi:it fs=.ok (xs.map p) ag)(I:List α->FS->Prop)(h0:I [] ag)(st:∀D a R fs,D++a::R=xs->I D fs->∃ag,gt (p a) fs=some ag/\Sat (λso=>∃av,so=.nx av/\I (D++[a]) av) (s ag))(k:∀ar,I xs ar->Sat Q (.nx ar)):Sat Q (B4 it gt s fs):=by obtain⟨ar,e,p⟩:=Xz h0 st;unfold Sat;rw[HM hi e];exact k ar p
theorem Jbq{t:T}{R:SO->Prop}(e:gt t fs=some ag)(k:Sat R (s ag)):∃ag,gt t fs=some ag/\Sat R (s ag):=⟨ag,e,k⟩
def Rr(A:Rv->Prop)(so:SO):Prop:=∃r τ,so=.ret r τ/\Rt r/\A r
theorem Ib(k:Sat (Rr A) (s (args++List.replicate n none))):∃r τ,Bq n s args=.ok r τ/\A r:=by obtain⟨r,τ,e,hr,a⟩:=k;cases r with|t t=>exact⟨_,_,HZ e,a⟩|nw o=>exact⟨_,_,Si e,a⟩|n i=>exact hr.elim
theorem VQ(hr:Rt r)(a:A r):Sat (Rr A) (.ret r fs):=⟨r,fs,rfl,hr,a⟩
theorem Sk{P:FS->Prop}(p:P fs):Sat (λso=>∃av,so=.nx av/\P av) (.nx fs):=⟨fs,rfl,p⟩
theorem ZX:Sat (λso=>∃τ,so=.nx τ) (.nx fs):=⟨fs,rfl⟩
theorem AX{t:T}(k:Sat (Rr (·=.t t)) (s (args++List.replicate n none))):∃τ,Bq n s args=.ok (.t t) τ:=by obtain⟨r,τ,e,rfl⟩:=Ib k;exact⟨τ,e⟩
theorem Ia(k:Sat (λso=>∃τ,so=.nx τ) (s (args++List.replicate n none))):∃τ,Bq n s args=.ok (.t .o) τ:=by obtain⟨τ,e⟩:=k;exact⟨τ.take args.length,by unfold Bq;rw[e]⟩
end
theorem keys_map:∀xs:List Str,Gb (xs.map T.str)=some (xs.map λx=>(.inr x:Key))
 | []=>rfl
 |x::xs=>by simp only[tR,Gb,keys_map xs,F9,uZ,vO]
section
variable{α:Type}{f fv fi:FS->Out Rv}{ga:FS->Out (List Rv)}{it:FS->Out (List T)}{ft:FS->Out Bool}{fs ag av cw τ rest:FS}{x:Option Sl}{p q p1 p2:α->T}{b:α->Bool}{xs:List α}{ts us:List T}{t u:T}{i:Nat}{gt:T->FS->Option FS}{src:List (Option Nat)}{fe:FS->Out Rv}{ks:List Key}{k:Str}{r:Rv}{o:Out Rv}{lo hi:Option Int}{l h:FS->Out (Option Int)}
noncomputable def Cq(p:α->T):List α->Option Sl->Option Sl
 | [],x=>x
 |a::xs,_=>Cq p xs (vl (p a))
theorem Yo:∀(xs:List α)(x:Option Sl)(ay:List T),Fre x->(∀a∈xs,ft (vl (p a)::rest)=.ok (b a) (vl (p a)::rest))->(∀a∈xs,b a=true->fe (vl (p a)::rest)=.ok (.t (q a)) (vl (p a)::rest))->ay.length+xs.length<=big->Bl (tgN 0) ft fe (xs.map p) (x::rest) ay=some (ay++(xs.filter b).map q,Cq p xs x::rest)
 | [],x,ay,_,_,_,_=>by simp[Bl,Cq]
 |a::xs,x,ay,hx,ht,he,hl=>by
  rw[uC]at hl;have h1:tgN 0 (p a) (x::rest)=some (vl (p a)::rest):=Ga rfl hx;have h2:=ht a uj;have h3:=he a uj;have g:=λay hl=>Yo xs (vl (p a)) ay Am (λa m=>ht a (tV _ m)) (λa m=>he a (tV _ m)) hl
  cases e:b a with|true =>rw[e]at h2;simp only[tR,Bl,h1,h2,h3 e,if_pos (show ay.length<big by lia),g (ay++[q a]) (by simp;lia),v9,e,Cq];simp|false =>rw[e]at h2;simp only[tR,Bl,h1,h2,g ay (by lia),v9,e,Cq];simp
theorem K9(hx:Fre x)(ht:∀a∈xs,ft (vl (p a)::rest)=.ok (b a) (vl (p a)::rest))(he:∀a∈xs,b a=true->fe (vl (p a)::rest)=.ok (.t (q a)) (vl (p a)::rest))(hl:xs.length<=1000):Bl (tgN 0) ft fe (xs.map p) (x::rest) []=some ((xs.filter b).map q,Cq p xs x::rest):=Yo xs x [] hx ht he (by show 0+_<=1000000;lia)
theorem Yn(hx:Fre x)(he:∀a∈xs,fe (vl (p a)::rest)=.ok (.t (q a)) (vl (p a)::rest))(hl:xs.length<=1000):Bl (tgN 0) F8 fe (xs.map p) (x::rest) []=some (xs.map q,Cq p xs x::rest):=by have:=K9 (ft:=F8) (b:=λ_=>true) hx (λ_ _=>rfl) (λa m _=>he a m) hl;rwa[List.filter_eq_self.mpr λ_ _=>rfl]at this
theorem RH:∀(xs:List α)(x y:Option Sl)(ay:List T),Fre x->Fre y->(∀a,p a=.tup [p1 a,p2 a])->(∀a∈xs,ft (vl (p1 a)::vl (p2 a)::rest)=.ok (b a) (vl (p1 a)::vl (p2 a)::rest))->(∀a∈xs,b a=true->fe (vl (p1 a)::vl (p2 a)::rest)=.ok (.t (q a)) (vl (p1 a)::vl (p2 a)::rest))->ay.length+xs.length<=big->Bl (AL 2 (Ag (tgN 0) (Ag (tgN 1) AG))) ft fe (xs.map p) (x::y::rest) ay=some (ay++(xs.filter b).map q,Cq p1 xs x::Cq p2 xs y::rest)
 | [],x,y,ay,_,_,_,_,_,_=>by simp[Bl,Cq]
 |a::xs,x,y,ay,hx,hy,hp,ht,he,hl=>by
  rw[uC]at hl;have h1:AL 2 (Ag (tgN 0) (Ag (tgN 1) AG)) (p a) (x::y::rest)=some (vl (p1 a)::vl (p2 a)::rest):=by rw[hp];exact Mr (Ga rfl hx) (Ga rfl hy)
  have h2:=ht a uj;have h3:=he a uj;have g:=λay hl=>RH xs (vl (p1 a)) (vl (p2 a)) ay Am Am hp (λa m=>ht a (tV _ m)) (λa m=>he a (tV _ m)) hl
  cases e:b a with|true =>rw[e]at h2;simp only[tR,Bl,h1,h2,h3 e,if_pos (show ay.length<big by lia),g (ay++[q a]) (by simp;lia),v9,e,Cq];simp|false =>rw[e]at h2;simp only[tR,Bl,h1,h2,g ay (by lia),v9,e,Cq];simp
theorem Og{y:Option Sl}(hx:Fre x)(hy:Fre y)(hp:∀a,p a=.tup [p1 a,p2 a])(ht:∀a∈xs,ft (vl (p1 a)::vl (p2 a)::rest)=.ok (b a) (vl (p1 a)::vl (p2 a)::rest))(he:∀a∈xs,b a=true->fe (vl (p1 a)::vl (p2 a)::rest)=.ok (.t (q a)) (vl (p1 a)::vl (p2 a)::rest))(hl:xs.length<=1000):Bl (AL 2 (Ag (tgN 0) (Ag (tgN 1) AG))) ft fe (xs.map p) (x::y::rest) []=some ((xs.filter b).map q,Cq p1 xs x::Cq p2 xs y::rest):=RH xs x y [] hx hy hp ht he (by show 0+_<=1000000;lia)
theorem J9{y:Option Sl}(hx:Fre x)(hy:Fre y)(hp:∀a,p a=.tup [p1 a,p2 a])(he:∀a∈xs,fe (vl (p1 a)::vl (p2 a)::rest)=.ok (.t (q a)) (vl (p1 a)::vl (p2 a)::rest))(hl:xs.length<=1000):Bl (AL 2 (Ag (tgN 0) (Ag (tgN 1) AG))) F8 fe (xs.map p) (x::y::rest) []=some (xs.map q,Cq p1 xs x::Cq p2 xs y::rest):=by have:=Og (ft:=F8) (b:=λ_=>true) hx hy hp (λ_ _=>rfl) (λa m _=>he a m) hl;rwa[List.filter_eq_self.mpr λ_ _=>rfl]at this
theorem at0:atI (t::ts) 0=some t:=BF (j:=0) rfl
theorem at1:atI (t::u::ts) 1=some u:=BF (j:=1) rfl
theorem at2{v:T}:atI (t::u::v::ts) 2=some v:=BF (j:=2) rfl
theorem Jby:K4 (t::ts) (some 1) none=ts:=FH (by decide) (by simp)
def Src(fs:FS)(src:List (Option Nat)):Prop:=DC fs (src.map λo=>o.elim Ini.no Ini.slot)=[]/\(src.all λo=>o.elim true λj=>decide (j<fs.length))=true
theorem so0:Src fs []:=⟨rfl,rfl⟩
theorem so1(h:Src fs src):Src fs (none::src):=h
theorem so2{j:Nat}(h0:fs[j]?=some (vl t))(h:Src fs src):Src fs (some j::src):=by
 refine⟨?_,?_⟩
 .show List.filterMap (A8 fs) (Ini.slot j::src.map _)=[];rw[List.filterMap_cons_none (by show(if(FL.AD fs j).isSome=true then some j else none)=none;unfold FL.AD;rw[h0];rfl)];exact h.1
 .rw[v7,h.2,Bool.and_true];exact uE (tX.mp h0).1
theorem Vi(h1:it fs=.ok ts ag)(hs:Src ag src)(hc:Bl gt ft fe ts (BU ag (src.map λo=>o.elim Ini.no Ini.slot)) []=some (us,τ)):Cr false src it gt ft fe fs=.ok (.t (.lst us)) ag:=by unfold Cr;rw[h1];show(if _ then _ else _)=_;rw[if_pos ⟨by rw[hs.1];exact uF,hs.2⟩,hc];show(match Dz _ τ ag with|some ar=>_|none=>_)=_;rw[B9 hs.1];rfl
theorem Y6{o:Nat}(hv:fv fs=.ok (.t t) fs)(h0:fs[o]?=some (some (.own (.l ks ts))))(hi:fi fs=.ok (.t (.str k)) fs)(hn:(.inr k:Key)∉ks)(hl:ks.length<1000000):Ca fv (Aa o) fi fs=.nx (fs.set o (some (.own (.l (ks++[.inr k]) (ts++[t]))))):=VZ h0 hv hi (any_false hn) hl rfl
theorem Va:EE fs=.ok (.nw (.l [] [])) fs:=rfl
theorem Zq:fzR (.nw (.l ks ts)) fs=.ok (.t (.l ks ts)) fs:=rfl
theorem RX{xs:List Str}(h:ga fs=.ok [.t t,.t u] ag)(hx:Jl t=some (xs.map T.str))(hy:Jl u=some us)(nd:xs.Nodup)(hl:xs.length=us.length):L5 ga fs=.ok (.nw (.l (xs.map λx=>(.inr x:Key)) us)) ag:=by unfold L5;rw[h];simp only[Out.bind,hx,hy,keys_map];rw[if_pos ⟨B2 nd,by rw[tZ];exact hl⟩]
theorem Zc(h:f fs=.ok (.t t) ag)(e:t=.lst ts\/t=.tup ts):Ac B3 (Ab f Ai) fs=.ok (.nw (.lst ts)) ag:=by refine Cj (BY h DN) ?_;rcases e with rfl|rfl<;>rfl
theorem Vc(h:f fs=.ok (.t (.l ks ts)) ag):Ac B3 (Ab f Ai) fs=.ok (.nw (.lst (ks.map KH))) ag:=Cj (BY h DN) rfl
theorem YT(h:f fs=.ok (.t t) ag)(e:t=.lst ts\/t=.tup ts):Ac Bf (Ab f Ai) fs=.ok (.t (.tup ts)) ag:=by refine Cj (BY h DN) ?_;rcases e with rfl|rfl<;>rfl
theorem ZC(h:f fs=.ok (.t (.lst us)) ag)(e:us=xs.map λa=>T.v (b a)):Ac US (Ab f Ai) fs=.ok (.t (.v (xs.any b))) ag:=by subst e;refine Cj (BY h DN) ?_;have:=F0 (xs.map b);rw[uD]at this;simp only[US,Df,uZ];rw[show(λa=>T.v (b a))=T.v∘b from rfl,this];show okT _ ag=_;rw[List.any_map];rfl
theorem UZ(h:fs[i]?=some (some (.own (.lst ts)))):Ac Bf (Ab (Aa i) Ai) fs=.ok (.t (.tup ts)) fs:=by refine Cj (Ml (Ht h) True.intro DN) ?_;simp only[Bf,VD h];rfl
theorem Y3{r:Rv}{o:Out Rv}(h1:f fs=.ok r ag)(n:Nn r)(h2:l ag=.ok lo av)(h3:h av=.ok hi cw)(e:Jm r lo hi cw=o):slF f l h fs=o:=by unfold slF;rw[h1,BS n];show(l ag).bind _=_;rw[h2];show(h av).bind _=_;rw[h3];exact e
theorem Y8:noP fs=.ok none fs:=rfl
theorem RQ{j:Int}(h:f fs=.ok (.t (.int j)) ag):BK f fs=.ok (some j) ag:=by unfold BK;rw[h];rfl
theorem U5:Jm (.t (.tup (t::ts))) (some 1) none fs=.ok (.t (.tup ts)) fs:=congrArg (λl=>Out.ok (Rv.t (.tup l)) fs) Jby
theorem U6:Jm (.t (.lst (t::ts))) (some 1) none fs=.ok (.t (.lst ts)) fs:=congrArg (λl=>Out.ok (Rv.t (.lst l)) fs) Jby
theorem ZA(h0:fs[i]?=some (some (.own (.lst us))))(h:f fs=.ok (.t t) ag)(jO:ag[i]?=some (some (.own (.lst ts))))(hl:ts.length<1000000):By (CF Hv (Aa i) (Ab f Ai)) fs=.nx (ag.set i (some (.own (.lst (ts++[t]))))):=YA h0 h jO hl rfl
end
theorem Ie{o:FO}:∀{gs:List Str}{os:List FO}{f:Str},gs.length=os.length->f∉gs->Hc gs os f o=some (gs++[f],os++[o])
 | [],[],f,_,_=>rfl
 |g::gs,o'::os,f,hl,hn=>by
  have h1:¬g=f:=λe=>hn (e▸uj)
  have:=Ie (o:=o) (gs:=gs) (os:=os) (f:=f) (by simpa using hl) (λm=>hn (tV _ m));simp[Hc,h1,this]
section
variable{f fv:FS->Out Rv}{fs ag τ:FS}{t:T}{i j z:Nat}{C:Addr}{n:Str}{gs:List Str}{os dN ds:List FO}{o:FO}{ks eV:List Key}{ts eX:List T}{k k2:Str}{s:FS->SO}{args:FS}{m:Nat}{a:Option Sl}
theorem Vf{r:Rv}(hv:fv fs=.ok r ag)(ha:Jbd r=some o)(h0:ag[i]?=some (some (.bor (.ins C gs os))))(hl:gs.length=os.length/\gs.length<900)(hn:n∉gs):IJ C n i fv fs=.nx (ag.set i (some (.bor (.ins C (gs++[n]) (os++[o]))))):=by unfold IJ;rw[hv];simp only[SO.of,ha,Ta h0];rw[if_pos ⟨True.intro,hl.2⟩,Ie hl.1 hn];unfold FL.putAt;rw[h0];rfl
theorem ZZ(k:Sat (λso=>∃τ,so=.nx (some (.bor o)::τ)) (s ((a::args)++List.replicate m none))):∃τ,Bq m s (a::args)=.ok (.t .o) (some (.bor o)::τ):=by obtain⟨τ,e⟩:=k;exact⟨τ.take args.length,by unfold Bq;rw[e];rfl⟩
theorem VT:Sat (λso=>∃τ,so=.nx (some (.bor o)::τ)) (.nx (some (.bor o)::fs)):=⟨fs,rfl⟩
theorem Zb{Fn:FS->Out Rv}{fa:FS->Out (List Rv)}{a1:T}(ha:fa fs=.ok [.t a1] ag)(hf:Fn [some (.bor (.ins C [] [])),vl a1]=.ok (.t .o) (some (.bor o)::τ)):Ac (DR C 2 Fn) fa fs=.ok (.nw o) ag:=JP ha rfl rfl hf
theorem Za{Fn:FS->Out Rv}{fa:FS->Out (List Rv)}{a1 a2:T}(ha:fa fs=.ok [.t a1,.t a2] ag)(hf:Fn [some (.bor (.ins C [] [])),vl a1,vl a2]=.ok (.t .o) (some (.bor o)::τ)):Ac (DR C 3 Fn) fa fs=.ok (.nw o) ag:=JP ha rfl rfl hf
theorem Y9{Fn:FS->Out Rv}{fa:FS->Out (List Rv)}{a1 a2 a3 a4 a5:T}(ha:fa fs=.ok [.t a1,.t a2,.t a3,.t a4,.t a5] ag)(hf:Fn [some (.bor (.ins C [] [])),vl a1,vl a2,vl a3,vl a4,vl a5]=.ok (.t .o) (some (.bor o)::τ)):Ac (DR C 6 Fn) fa fs=.ok (.nw o) ag:=JP ha rfl rfl hf
theorem Zs{a1 a2 a3 a4 a5:T}:fzR (.nw (.ins C gs [.val a1,.val a2,.val a3,.val a4,.val a5])) fs=.ok (.t (.ins C gs [a1,a2,a3,a4,a5])) fs:=rfl
theorem QP(h0:fs[j]?=some (some (.bor o)))(hf:f ((A0 fs).set j (vl (toT o)))=.ok (.t .o) τ):By (JB j f) fs=.nx fs:=by refine N6 (r:=.t .o) ?_;unfold JB;rw[Ta h0];simp only[hf];rfl
theorem Vg(hv:fv fs=.ok (.t t) ag)(h0:ag[i]?=some (some (.bor (.ins C gs os))))(hj:ag[j]?=some (vl (.str k)))(hf:Bh gs os n=some (.l ks ts))(hn:(.inr k:Key)∉ks)(hl:ks.length<1000000)(hs:BB gs os n (.l (ks++[.inr k]) (ts++[t]))=dN):C4 C n i j fv fs=.nx (ag.set i (some (.bor (.ins C gs dN)))):=Uv hv h0 hj hf hn hl (by rw[hs])
theorem RU(h0:fs[i]?=some (some (.bor (.ins C gs os))))(hj:fs[j]?=some (vl (.str k)))(hf:Bh gs os n=some o)(ho:Yz o=some (ks,ds))(hn:(.inr k:Key)∉ks)(hl:ks.length<1000000)(hs:BB gs os n (.dO (ks++[.inr k]) (ds++[.l [] []]))=dN):J7 C n i j fs=.nx (fs.set i (some (.bor (.ins C gs dN)))):=by subst hs;unfold J7;simp only[Ta h0,hj,hf,if_true,F9,ho];rw[if_pos ⟨hl,any_false hn⟩];unfold FL.putAt;rw[h0];rfl
theorem Gr{d:FO}{kk:Key}:∀{ks:List Key}{ds:List FO},ks.length=ds.length->kk∉ks->GY (ks++[kk]) (ds++[d]) kk=some d
 | [],[],_,_=>by simp[GY]
 |a::ks,b::ds,h,n=>by simp only[vC,GY];rw[if_neg λz=>n (by simp[z])];exact Gr (by simpa using h) λm=>n (tV _ m)
theorem Gw{d x:FO}{kk:Key}:∀{ks:List Key}{ds:List FO},ks.length=ds.length->kk∉ks->Ha (ks++[kk]) (ds++[d]) kk x=ds++[x]
 | [],[],_,_=>by simp[Ha]
 |a::ks,b::ds,h,n=>by simp only[vC,Ha];rw[if_neg λz=>n (by simp[z]),Gw (by simpa using h) λm=>n (tV _ m)]
theorem RV(hv:fv fs=.ok (.t t) ag)(h0:ag[i]?=some (some (.bor (.ins C gs os))))(hj:ag[j]?=some (vl (.str k)))(hz:ag[z]?=some (vl (.str k2)))(hf:Bh gs os n=some (.dO (ks++[.inr k]) (ds++[.l eV eX])))(hl:ks.length=ds.length)(hn:(.inr k:Key)∉ks)(gf:(.inr k2:Key)∉eV)(dB:eV.length<1000000)(hs:BB gs os n (.dO (ks++[.inr k]) (ds++[.l (eV++[.inr k2]) (eX++[t])]))=dN):dput2 C n i j z fv fs=.nx (ag.set i (some (.bor (.ins C gs dN)))):=by
 subst hs;have h3:Ea eV eX (.inr k2:Key) t=(eV++[.inr k2],eX++[t]):=by unfold Ea;rw[any_false gf];rfl
 unfold dput2;rw[hv];simp only[SO.of,Ta h0,hj,hz,hf,if_true,F9,Gr hl hn,Gw hl hn,h3];rw[if_pos (show eV.length<big from dB)];unfold FL.putAt;rw[h0];rfl
end
section
variable{Q:SO->Prop}{f:FS->Out Rv}{c ct:FS->Out Bool}{s s' h:FS->SO}{fs ag:FS}{b b':Bool}{α β:Type}{ks:List Key}{ts:List T}{t:T}{k:Str}
theorem Q2{J:β->FS}{P:β->Prop}(hc:c fs=.ok b ag)(h1:b=true->∃x,P x/\s ag=.nx (J x))(h2:b=false->∃x,P x/\s' ag=.nx (J x))(k:∀x,P x->Sat Q (h (J x))):Sat Q (Al (ifS c s s') h fs):=by cases b with|true=>obtain⟨x,p,e⟩:=h1 rfl;exact E8 (Xb hc e) (k x p)|false=>obtain⟨x,p,e⟩:=h2 rfl;exact E8 (Xc hc e) (k x p)
theorem Ra(h1:c fs=.ok b fs)(h2:ct fs=.ok b' fs):orT c ct fs=.ok (b||b') fs:=Y7 h1 λ_=>h2
theorem Zk{p:α->Str}{N:List α}(h:f fs=.ok (.t (.x (N.map λa=>(.inr (p a):Key)) ts)) ag):itD f fs=.ok (N.map λa=>.str (p a)) ag:=by unfold itD;rw[h,BS (x:=.t (.x _ ts)) True.intro];show Out.ok _ ag=_;rw[uD];rfl
theorem Jax{t:T}(h:BR ks ts (.inr k:Key)=some t):AO (.t (.x ks ts)) (.t (.str k)) fs=.ok (.t t) fs:=by show(match J0 (.t (.x ks ts)) (.t (.str k)) fs with|o=>o)=_;unfold J0;simp only[RD,F9,vO,h];rfl
theorem CG{L:List α}(hL:L≠[])(p:α->T)(x:Int):∃a∈L,atI (L.map p) (x%((L.map p).length:Int))=some (p a):=by
 have hl:0<L.length:=vd.mpr hL;rw[tZ];have h1:=vQ x (show(L.length:Int)≠0 by lia);have h2:=vM x (show(0:Int)<L.length by lia);have hi:(x%(L.length:Int)).toNat<L.length:=by lia
 refine⟨L[(x%(L.length:Int)).toNat],v8 hi,?_⟩;have:=BF (xs:=L.map p) (j:=(x%(L.length:Int)).toNat) (by rw[ux,tO hi];rfl);rwa[show(((x%(L.length:Int)).toNat:Nat):Int)=x%(L.length:Int) by lia]at this
inductive F2(R:α->β->Prop):List α->List β->Prop
 |nil:F2 R [] []
 |cons {a b as bs}:R a b->F2 R as bs->F2 R (a::as) (b::bs)
section
variable{R S:α->β->Prop}{as:List α}{bs:List β}
theorem F2.len(h:F2 R as bs):as.length=bs.length:=by induction h with|nil=>rfl|cons _ _ i=>simp[i]
theorem F2.imp(h:F2 R as bs)(i:∀a b,R a b->S a b):F2 S as bs:=by induction h with|nil=>exact .nil|cons h _ ih=>exact .cons (i _ _ h) ih
theorem F2.flip(h:F2 R as bs):F2 (λb a=>R a b) bs as:=by induction h with|nil=>exact .nil|cons h _ ih=>exact .cons h ih
theorem F2.snoc{a:α}{b:β}(h:F2 R as bs)(r:R a b):F2 R (as++[a]) (bs++[b]):=by induction h with|nil=>exact .cons r .nil|cons h _ ih=>exact .cons h ih
theorem Ul:∀{as:List α},(∀a∈as,∃b,R a b)->∃bs,F2 R as bs
 | [],_=>⟨[],.nil⟩
 |a::as,h=>let⟨b,r⟩:=h a uj;let⟨bs,rs⟩:=Ul λa m=>h a (tV _ m);⟨b::bs,.cons r rs⟩
end
theorem UA{fe:FS->Out Rv}{p:α->T}{xs:List α}{vs:List T}{rest:FS}{x:Option Sl}(hx:Fre x)(hv:F2 (λa v=>fe (vl (p a)::rest)=.ok (.t v) (vl (p a)::rest)) xs vs)(hl:xs.length<=1000):Bl (tgN 0) F8 fe (xs.map p) (x::rest) []=some (vs,Cq p xs x::rest):=by
 have go:∀(xs:List α)(vs:List T)(x:Option Sl)(ay:List T),Fre x->F2 (λa v=>fe (vl (p a)::rest)=.ok (.t v) (vl (p a)::rest)) xs vs->ay.length+xs.length<=big->Bl (tgN 0) F8 fe (xs.map p) (x::rest) ay=some (ay++vs,Cq p xs x::rest):=by
  intro xs vs x ay hx h
  induction h generalizing x ay with|nil=>intro _;simp[Bl,Cq]|@cons a v xs vs h _ ih =>intro hl;rw[uC]at hl;rw[tR,K7 (Ga (z:=x) rfl hx) h (by lia),ih (vl (p a)) (ay++[v]) Am (by simp;lia)];simp[Cq]
 exact go xs vs x [] hx hv (by show 0+_<=1000000;lia)
end
section
variable{f:FS->Out Rv}{fs ag:FS}{b:Bool}{ts:List T}{n:Nat}{ks:List Key}
theorem Ve(h:f fs=.ok (.t (.v b)) ag):Ac Gm (Ab f Ai) fs=.ok (.t (.int (if b=true then 1 else 0))) ag:=Cj (BY h DN) rfl
theorem RS(h:n<=ts.length):Jm (.t (.lst ts)) none (some (n:Int)) fs=.ok (.t (.lst (ts.take n))) fs:=by have:=FG (xs:=ts) (v:=(n:Int)) (by lia) (by simpa using h);rw[uO]at this;show Out.ok (Rv.t (.lst (K4 ts none (some (n:Int))))) fs=_;rw[this]
theorem Yp{fe:FS->Out Rv}{vs:List T}{rest:FS}{x:Option Sl}(hx:Fre x)(hv:F2 (λa v=>fe (vl a::rest)=.ok (.t v) (vl a::rest)) ts vs)(hl:ts.length<=1000):Bl (tgN 0) F8 fe ts (x::rest) []=some (vs,Cq id ts x::rest):=by have:=UA (p:=id) hx hv hl;rwa[List.map_id]at this
theorem RY(h:f fs=.ok (.t (.x ks ts)) ag):Ac GN (Ab f Ai) fs=.ok (.nw (.l ks ts)) ag:=Cj (BY h DN) rfl
theorem Zu{i:Nat}(h:fs[i]?=some (some (.own (.l ks ts)))):fzD (Aa i) fs=.ok (.t (.x ks ts)) (fs.set i (vl (.x ks ts))):=by unfold fzD;rw[Ht h,BS (x:=.n i) True.intro];simp only[h]
end
section
variable{f:FS->Out Rv}{ga:FS->Out (List Rv)}{fs ag:FS}{ts:List T}{n m:Nat}{a b j:Int}{α β γ:Type}
theorem Zi(h:ga fs=.ok [.t (.int j)] ag)(hj:j=(n:Int))(hn:n<1000):LR ga fs=.ok ((List.range n).map λi=>T.int (i:Nat)) ag:=by subst hj;rw[MI h ⟨by lia,by lia⟩,uO];unfold FL.upTo;simp
theorem YZ(ha:a=(n:Int))(hb:b=(m:Int))(h:n<=m/\m<=ts.length):Jm (.t (.lst ts)) (some a) (some b) fs=.ok (.t (.lst ((ts.drop n).take (m-n)))) fs:=by subst ha hb;show Out.ok (Rv.t (.lst (K4 ts (some (n:Int)) (some (m:Int))))) fs=_;unfold K4;rw[HT.Jx,HT.Jx,Nat.min_eq_left h.2,Nat.min_eq_left (by lia)]
theorem TX(h:0<b/\b.natAbs.log2<9000):P8 (.t (.int a)) (.t (.int b)) fs=.ok (.t (.int (a/b))) fs:=if_pos h
theorem F2.Jah{S:α->β->Prop}{f:γ->β}{as:List α}{cs:List γ}(h:F2 (λa c=>S a (f c)) as cs):F2 S as (cs.map f):=by induction h with|nil=>exact .nil|cons h _ ih=>exact .cons h ih
theorem Hx(p:α->T):∀(L:List α)(i:Nat),D1 (i:Int) (L.map p)=(L.zipIdx i).map λq=>.tup [.int q.2,p q.1]
 | [],_=>rfl
 |a::L,i=>by have:=Hx p L (i+1);simp only[tR,D1,List.zipIdx_cons];rw[<- this];simp
end
theorem GI{k:Str}{xs:List Str}(h:k∉xs):(.inr k:Key)∉xs.map λm=>(.inr m:Key):=λm=>by obtain⟨x,hm,e⟩:=ug.mp m;exact h (Sum.inr.inj e▸hm)
theorem OV{c:Str}{i:Nat}{z:Str}{fs:FS}(h:fs[i]?=some (vl (.str z)))(hz:CO z=true):CW c (Aa i) fs=.exc c fs:=by unfold CW;rw[AA h];show(if CO z=true then SO.exc c fs else .bad)=_;rw[if_pos hz]
section
variable{f fk fv:FS->Out Rv}{fs ag av τ:FS}{ts:List T}{t u:T}{n j:Nat}{a:Int}{ks:List Key}{k:Str}{s:FS->SO}{args:FS}{A:FO->Prop}{o:FO}{r:Rv}
theorem Y2(h:n<=ts.length)(ha:a=(n:Int)):Jm (.t (.lst ts)) (some a) none fs=.ok (.t (.lst (ts.drop n))) fs:=by subst ha;have:=FH (xs:=ts) (v:=(n:Int)) (by lia) (by simpa using h);rw[uO]at this;unfold Jm;simp only[Df,this];rfl
theorem RW(hk:fk fs=.ok (.t (.str k)) ag)(hv:fv ag=.ok (.t u) av):IM fk fv fs=.ok (.nw (.l [.inr k] [u])) av:=by unfold IM;rw[hk];show(match fv ag with|.ok (.t y) av=>_|_=>_)=_;rw[hv];rfl
theorem RN(h0:fs[j]?=some (some (.own (.l ks ts))))(hf:f ((A0 fs).set j (vl (.x ks ts)))=.ok (.t t) τ)(hn:noD t=true):Lx j f fs=.ok (.t t) fs:=by unfold Lx;rw[h0];simp only[hf,hn,if_true]
def Ro(A:FO->Prop)(so:SO):Prop:=∃i τ o,so=.ret (.n i) τ/\τ[i]?=some (some (.own o))/\A o
theorem H0(k:Sat (Ro A) (s (args++List.replicate n none))):∃o τ,Bq n s args=.ok (.nw o) τ/\A o:=by unfold Sat at k;obtain⟨i,τ,o,e,h,a⟩:=k;exact⟨o,_,OR e h,a⟩
theorem VR{i:Nat}(h:fs[i]?=some (some (.own o)))(a:A o):Sat (Ro A) (.ret (.n i) fs):=by unfold Sat;exact⟨i,fs,o,rfl,h,a⟩
end
section
variable{Q:SO->Prop}{f:FS->Out Rv}{ga:FS->Out (List Rv)}{s g h:FS->SO}{fs ag av cw args τ:FS}{i j n p:Nat}{c z y m:Str}{C:Addr}{Fn:FS->Out Rv}{a0 a1 a2 t:T}{dq:Str->Bool}{neg:Bool}{xs ts:List T}{r:Rv}
theorem DI(k:Sat (λso=>∃τ,so=.exc c τ) (s (args++List.replicate n none))):∃τ,Bq n s args=.exc c τ:=by obtain⟨τ,e⟩:=k;exact⟨_,OS e⟩
theorem VM:Sat (λso=>∃τ,so=.exc c τ) (.exc c fs):=⟨fs,rfl⟩
theorem q_rf(h0:fs[i]?=some (vl (.str z)))(hz:CO z=true)(k:Sat Q (.exc c fs)):Sat Q (Al (CW c (Aa i)) h fs):=by unfold Sat;rw[Kr (OV h0 hz)];exact k
theorem YS(hg:g fs=.exc c ag)(hc:dq c=true)(hs:Ju i (.t (.zD c)) ag=some av)(hh:h av=.nx cw)(hv:cw[i]?=some (vl t)):QS i dq g h fs=.nx (cw.set i none):=by unfold QS;rw[hg];show UQ i dq h c ag=_;unfold UQ;rw[if_pos hc,hs];simp only[hh,hv]
end
section
variable{f:FS->Out Rv}{fs τ:FS}{i j:Nat}{ts:List T}{o:FO}{C:Addr}{K:Kd}{hs:List T}{G:List Fd}
theorem Zr:fzR (.nw (QT C K hs)) fs=.ok (.t (B1 C K hs)) fs:=rfl
end
theorem ZY{Q:SO->Prop}{s h:FS->SO}{fs ar:FS}(e:fs=ar)(k:Sat Q (Al s h ar)):Sat Q (Al s h fs):=by rw[e];exact k
abbrev cds(s:Str):List Nat:=s.cps.toList
theorem HD(x y:Str):cds (x++y)=cds x++cds y:=by show(x.cps++y.cps).toList=_;simp
theorem Bp(x:Str):x.length=(cds x).length:=by show x.cps.size=_;simp
structure Lw(s:Str):Prop where
 lo:1<=(cds s).length
 hi:(cds s).length<=12
 al:∀c∈cds s,97<=c/\c<=122
abbrev ch(c:Nat):Str:=⟨#[c]⟩
abbrev WW:Str:="abcdefghijklmnopqrstuvwxyz"
noncomputable def sgn(c:Nat):Str:=⟨#[c]⟩
noncomputable def isL(c:Nat):Bool:=!(Builtin.Str.occurrences WW (sgn c) 0 WW.length 1).isEmpty
noncomputable def isNm(z:Str):Bool:=decide (1<=z.length/\z.length<=12)&&z.cps.toList.all isL
theorem W8{neg:Bool}{c:Nat}{fs:FS}:Dh neg (.t (.str (sgn c))) (.t (.str WW)) fs=.ok (.t (.v (if neg then !isL c else isL c))) fs:=rfl
theorem K8{fe:FS->Out Rv}{h:Nat->T}:∀(cs:List Nat)(x:Option Sl)(ay:List T),Fre x->(∀c∈cs,fe [vl (.str (sgn c))]=.ok (.t (h c)) [vl (.str (sgn c))])->ay.length+cs.length<=1000->∃y,Bl (tgN 0) F8 fe (cs.map λc=>T.str (sgn c)) [x] ay=some (ay++cs.map h,[y])
 | [],x,ay,_,_,_=>⟨x,by simp[Bl]⟩
 |c::cs,x,ay,fx,he,hl=>by rw[uC]at hl;obtain⟨y,e⟩:=K8 (fe:=fe) (h:=h) cs (vl (.str (sgn c))) (ay++[h c]) Am (λc m=>he c (tV _ m)) (by rw[uH];simp;lia);refine⟨y,?_⟩;rw[tR,K7 (by unfold tgN;exact Kp rfl fx) (he c (by simp)) (by show _<1000000;lia),e];simp
theorem len_str{i:Nat}{z:Str}{fs:FS}(h:fs[i]?=some (vl (.str z)))(hz:z.length<=1000):Ac AR (Ab (Aa i) Ai) fs=.ok (.t (.int z.length)) fs:=by have e:NL [.t (.str z)] fs=.ok (.t (.int z.length)) fs:=if_pos (show z.length<=1000000 by lia);refine Ld (K5 (AA h) rfl) ?_;unfold AR orC;show(match orC NL P7 [.t (.str z)] fs with|o=>o)=_;unfold orC;rw[e]
theorem between{f:FS->Out Rv}{n:Nat}{m:Int}{fs:FS}(h:f fs=.ok (.t (.int n)) fs):GF (asB (chain gLe gLe (gc (.int 1)) f (gc (.int m)))) fs=.ok (!decide (1<=n/\(n:Int)<=m)) fs:=by
 have e1:gLe (.t (.int 1)) (.t (.int n)) fs=.ok (.t (.v (decide ((1:Int)<=n)))) fs:=rfl;have e2:gLe (.t (.int n)) (.t (.int m)) fs=.ok (.t (.v (decide ((n:Int)<=m)))) fs:=rfl;by_cases h1:(1:Int)<=n
 .rw[uE h1]at e1;simp only[GF,asB,chain,gc,Out.bnd,Out.bind,h,e1,e2];congr 2;rw[decide_eq_decide];constructor
  .exact λz=>⟨by lia,z⟩
  .exact λz=>z.2
 .rw[uA h1]at e1;simp only[GF,asB,chain,gc,Out.bnd,Out.bind,h,e1];rw[uA (by lia)]
theorem Pz{z:Str}(hz:z.length<=1000):A2 [vl (.str z)]=.ok (.t (.v (isNm z))) [vl (.str z)]:=by
 have hc:=between (m:=12) (len_str (i:=0) (fs:=[vl (.str z)]) rfl hz);refine(HZ (n:=0) (g:=FU) (args:=[vl (.str z)]) (τ:=[vl (.str z)]) ?_).trans rfl;unfold FU;by_cases h:1<=z.length/\(z.length:Int)<=12
 .rw[uE h]at hc;refine sq (ND hc rfl) ?_;obtain⟨y,e2⟩:=K8 (fe:=Af (Dh false) (fz (Aa 0)) (gc (.str WW))) (h:=λc=>.v (isL c)) z.cps.toList none [] Hw (λc m=>AH (NQ (AA rfl)) Dg W8) (by rw[vf];show 0+z.length<=1000;lia);have e3:=Uz (src:=[none]) (fi:=itU (fz (Aa 0))) (fs:=[vl (.str z)]) (ts:=signs z) rfl ⟨by rw[show DC [vl (.str z)] _=[]from rfl];exact uF,by rfl⟩ e2 (B9 rfl);rw[vH,show z.cps.toList.map (λc=>T.v (isL c))=(z.cps.toList.map isL).map T.v by rw[uD];rfl]at e3;refine CD (Ld (K5 e3 rfl) ?_);simp only[Xt,Df,uZ,F0,okT];congr 3;unfold isNm;rw[uE (show 1<=z.length/\z.length<=12 by lia),List.all_map];rfl
 .rw[uA h]at hc;have:isNm z=false:=by unfold isNm;rw[uA (show ¬(1<=z.length/\z.length<=12) by lia)];rfl
  rw[this];exact EL (PH hc (CD Dg))
theorem Rk(c:Nat):isL c=decide (97<=c/\c<=122):=by
 unfold isL sgn;rw[StrLaws.found_one,show WW.cps.toList=List.range' 97 26 from by decide +kernel,decide_eq_decide,List.mem_range'_1]
 lia
theorem WQ(z:Str):isNm z=true↔Lw z:=by
 unfold isNm;rw[uq,decide_eq_true_iff,uS];constructor
 .exact λh=>⟨by rw[<- Bp];exact h.1.1,by rw[<- Bp];exact h.1.2,λc m=>by have:=h.2 c m;rw[Rk]at this;exact um this⟩
 .exact λh=>⟨⟨by rw[Bp];exact h.lo,by rw[Bp];exact h.hi⟩,λc m=>by rw[Rk];exact uE (h.al c m)⟩
abbrev mkS(l:List Nat):Str:=⟨l.toArray⟩
theorem QV{f:FS->Out Rv}{l h:FS->Out (Option Int)}{fs:FS}{z:Str}{lo hi:Option Int}(h1:f fs=.ok (.t (.str z)) fs)(h2:l fs=.ok lo fs)(h3:h fs=.ok hi fs)(hz:z.length<=1000):slS f l h fs=.ok (.t (.str (Txt.slice z lo hi))) fs:=by unfold slS;rw[h1];show(l fs).bind _=_;rw[h2];show(h fs).bind _=_;rw[h3];show(if(Txt.slice z lo hi).length<=big then okT (.str (Txt.slice z lo hi)) fs else .bad)=_;rw[if_pos (uz (Txt.slice_le z lo hi) (uz hz (by decide)))];rfl
theorem Kq{g:FS->Out Rv}{fs:FS}{i:Int}(h:g fs=.ok (.t (.int i)) fs):BK g fs=.ok (some i) fs:=by unfold BK;rw[h];rfl
theorem ixS{z:Str}{i c:Nat}{fs:FS}(hz:(cds z).length<=1000)(h:(cds z)[i]?=some c):AO (.t (.str z)) (.t (.int i)) fs=.ok (.t (.str (ch c))) fs:=by
 have:gIx (.t (.str z)) (.t (.int i)) fs=.ok (.t (.str (ch c))) fs:=by show(if z.length<=big then match atI z.cps.toList i with|some c=>okT (.str ⟨#[c]⟩) fs|none=>.bad else .bad)=_;rw[if_pos (by rw[Bp];exact uz hz (by decide)),BF h];rfl
 show(match gIx (.t (.str z)) (.t (.int i)) fs with|.bad=>_|o=>o)=_;rw[this]
theorem ZR{f g:FS->Out Rv}{fs:FS}{z:Str}{i:Nat}(h1:f fs=.ok (.t (.str z)) fs)(h2:g fs=.ok (.t (.int i)) fs)(hi:i<=(cds z).length)(hz:(cds z).length<=1000) :
  slS f noP (BK g) fs=.ok (.t (.str (mkS ((cds z).take i)))) fs:=by
 rw[QV (l:=noP) (lo:=none) h1 rfl (Kq h2) (by rw[Bp];exact hz),beq_iff_eq.mp (PyProof.Rows.slice_closes_to (x:=z) (j:=i) ⟨by lia,Int.ofNat_le.mpr hi⟩)];rfl
theorem ZS{f g:FS->Out Rv}{fs:FS}{z:Str}{i:Nat}(h1:f fs=.ok (.t (.str z)) fs)(h2:g fs=.ok (.t (.int i)) fs)(hz:(cds z).length<=1000) :
  slS f (BK g) noP fs=.ok (.t (.str (mkS ((cds z).drop i)))) fs:=by
 rw[QV (h:=noP) (hi:=none) h1 (Kq h2) rfl (by rw[Bp];exact hz)];have hl:=Bp z;rcases Nat.lt_or_ge (cds z).length i with q|q
 .rw[PyProof.Rows.slice_beyond (by lia),vn (by lia)];rfl
 .rw[PyProof.Rows.slice_from_eq (b:=(z.length:Int)) (by lia) (by lia) rfl];congr 4;show(((cds z).drop (i:Int).toNat).take _).toArray=((cds z).drop i).toArray;rw[uO,vm (by rw[vg];lia)]
open PySem.Builtin.Int (intBits)
theorem E9(m:Nat)(hm:m<=1000000){fs:FS}:Af JW (gc (.int 10)) (gc (.int m)) fs=.ok (.t (.int (10^m))) fs:=by refine AH Dg Dg ?_;show(if(0:Int)<=m/\(m:Int)<=1000000/\(10:Int).natAbs<2^64 then okT (.int (10^(m:Int).toNat)) fs else .bad)=_;rw[if_pos ⟨by lia,by lia,by decide⟩];rfl
theorem KD{x q:Int}{n:Nat}(h0:0<q)(h:q.natAbs<=2^n):intBits (x%q)<=n:=Ek (by
 have h1:=vQ x (show q≠0 by lia);have h2:=vM x h0
 lia)
theorem mix(c:Int){k:Nat}(hk:k<=100):∃(v:Int)(τ:FS),Bx [iv c,iv k]=.ok (.t (.int v)) τ:=by
 have run:∀{v:Int}{τ:FS},Ot [iv c,iv k,none]=.ret (.t (.int v)) τ->∃(v:Int)(τ:FS),Bx [iv c,iv k]=.ok (.t (.int v)) τ:=λ{v τ} h=>⟨v,_,HZ (n:=1) (g:=Ot) (args:=[iv c,iv k]) h⟩
 have mB:(2:Nat)^26=67108864:=by decide
 have c1:=Rz (fa:=Af Cd (Aa 0) (gc (.int 2))) (fb:=gc (.int 1)) (fs:=[iv c,iv k,none]) (i:=c%2) (AH (AA rfl) Dg (GK (by decide))) Dg;have c2:asB (Af gGt (Aa 0) (Af JW (gc (.int 10)) (gc (.int 30)))) [iv c,iv k,none]=.ok (decide ((10:Int)^30<c)) [iv c,iv k,none]:=Ln (AH (AA rfl) (E9 30 (by decide)) rfl);have cc:=Kh c1 c2;cases hb:(decide (c%2=1)&&decide ((10:Int)^30<c))with
 |true =>rw[hb]at cc;exact run (EL (PH cc (CD (AH (AA rfl) Dg (NM ⟨by decide,by decide⟩)))))
 |false =>
  rw[hb]at cc;have n4:(0:Int)<10^60:=by decide
  have rC:((10:Int)^60).natAbs<=2^200:=by decide
  have s1:AB 2 (Af Cd (Aa 0) (Af JW (gc (.int 10)) (gc (.int 60)))) [iv c,iv k,none]=.nx [iv c,iv k,iv (c%10^60)]:=MD (AH (AA rfl) (E9 60 (by decide)) (GK n4)) rfl;have b0:intBits (c%10^60)<=200:=KD n4 rC;generalize c%10^60=x at s1 b0;have bk:intBits (k:Int)<=7:=Ek (by show k<2^7;lia);have m1:Af Bi (Af Bi (gc (.int 40503)) (Aa 1)) (Aa 1) [iv c,iv k,iv x]=.ok (.t (.int (40503*k*k))) [iv c,iv k,iv x]:=AH (AH Dg (AA rfl) (JY ⟨by decide,by decide⟩)) (AA rfl) (JX ⟨by lia,by lia⟩);have m2:Af Bi (Af Av (Af Av (Af Bi (Aa 2) (Aa 2)) (Af Bi (Af Bi (gc (.int 40503)) (Aa 1)) (Aa 1))) (gc (.int 7919))) (gc (.int 1812433253982451697)) [iv c,iv k,iv x]=.ok (.t (.int ((x*x+40503*k*k+7919)*1812433253982451697))) [iv c,iv k,iv x] :=
   AH (AH (AH (AH (AA rfl) (AA rfl) (JZ ⟨by lia,by lia⟩)) m1 Eh) Dg Eh) Dg (JX ⟨by decide,by decide⟩)
  generalize (x*x+40503*k*k+7919)*1812433253982451697=y at m2;have nZ:(0:Int)<10^18+9:=by decide
  have rB:((10:Int)^18+9).natAbs<=2^61:=by decide
  have s2:AB 2 (Af Cd (Af Bi (Af Av (Af Av (Af Bi (Aa 2) (Aa 2)) (Af Bi (Af Bi (gc (.int 40503)) (Aa 1)) (Aa 1))) (gc (.int 7919))) (gc (.int 1812433253982451697))) (Af Av (Af JW (gc (.int 10)) (gc (.int 18))) (gc (.int 9)))) [iv c,iv k,iv x]=.nx [iv c,iv k,iv (y%(10^18+9))] :=
   MD (AH m2 (AH (E9 18 (by decide)) Dg Eh) (GK nZ)) rfl
  have b1:intBits (y%(10^18+9))<=61:=KD nZ rB;generalize y%(10^18+9)=z at s2 b1;have b2:intBits (z*z+k)<=61+61+1:=bits_add (bits_mul b1 b1) (by lia);have bc:intBits 739108512309184756019283746561<=100:=Ek (by decide);have m3:Af Bi (Af Av (Af Bi (Aa 2) (Aa 2)) (Aa 1)) (gc (.int 739108512309184756019283746561)) [iv c,iv k,iv z]=.ok (.t (.int ((z*z+k)*739108512309184756019283746561))) [iv c,iv k,iv z] :=
   AH (AH (AH (AA rfl) (AA rfl) (JZ ⟨by lia,by lia⟩)) (AA rfl) Eh) Dg (JZ ⟨by lia,by lia⟩)
  have rS:(0:Int)<10^40+121:=by decide
  exact run (sq (ND cc rfl) (sq s1 (sq s2 (CD (AH m3 (AH (E9 40 (by decide)) Dg Eh) (GK rS))))))
section
variable{fa fb f:FS->Out Rv}{ga:FS->Out (List Rv)}{fs ag av cw τ:FS}{c m k:Str}{g:Rv->Rv->FS->Out Rv}{ct:FS->Out Bool}{s s' h:FS->SO}{i n:Nat}{gt:T->FS->Option FS}{d:List T->FS->Out Rv}{Fn:FS->Out Rv}{a0 a1 a2 a3 a4 a5 a6 t u:T}{C:Addr}{Q:SO->Prop}{ts:List T}{ks:List Key}{r:Rv}{b:Bool}
theorem Ja5(h:fa fs=.exc c ag):Af g fa fb fs=.exc c ag:=by unfold Af;rw[h];rfl
theorem YI(h:f fs=.exc c ag):fz f fs=.exc c ag:=by unfold fz;rw[h];rfl
theorem Ja7(h:f fs=.exc c ag):asB f fs=.exc c ag:=by unfold asB;rw[h];rfl
theorem e_if(h:ct fs=.exc c ag):ifS ct s s' fs=.exc c ag:=by unfold ifS;rw[h];rfl
theorem Ut(h:f fs=.exc c ag):retS f fs=.exc c ag:=by unfold retS;rw[h];rfl
theorem Ja6(h:f fs=.exc c ag):EY f gt fs=.exc c ag:=by unfold EY;rw[h];rfl
theorem Ja3(h:f fs=.exc c ag):AB i f fs=.exc c ag:=by unfold AB;rw[h];rfl
theorem Uu(h:f fs=.exc c ag):Ab f ga fs=.exc c ag:=by unfold Ab;rw[h];rfl
theorem Yi(h:ga fs=.exc c ag):Ap d ga fs=.exc c ag:=by unfold Ap;rw[h];rfl
theorem Ja4(h0:ga fs=.ok [.t a1,.t a2] ag)(hf:Fn [vl a1,vl a2]=.exc c τ):Ac (Ah 2 Fn) ga fs=.exc c ag:=FK h0 rfl rfl hf
theorem Jbx(h0:ga fs=.ok [.t a1,.t a2,.t a3] ag)(hf:Fn [vl a1,vl a2,vl a3]=.exc c τ):Ac (Ah 3 Fn) ga fs=.exc c ag:=FK h0 rfl rfl hf
theorem e_m1(h1:f fs=.ok (.t a0) ag)(h2:ga ag=.ok [.t a1] av)(hf:Fn [vl a0,vl a1]=.exc c τ)(hi:Hs C m ag (.t a0)=true):EC C m 2 Fn f ga fs=.exc c av:=by unfold EC;rw[h1,BS (x:=.t a0) True.intro];show(if _ then _ else _)=_;rw[if_pos hi,h2];exact FK (fa:=λfs=>.ok [.t a0,.t a1] fs) rfl rfl rfl hf
theorem q_X(e:s fs=.exc c ag)(k:Sat Q (.exc c ag)):Sat Q (s fs):=by unfold Sat;rw[e];exact k
theorem ZV(e:s fs=.exc c ag)(k:Sat Q (.exc c ag)):Sat Q (Al s h fs):=q_X (Kr e) k
theorem in_f{neg:Bool}:Dh neg (.t (.str k)) (.t (.x ks ts)) fs=.ok (.t (.v (if neg then !(BR ks ts (.inr k:Key)).isSome else(BR ks ts (.inr k:Key)).isSome))) fs:=rfl
theorem Jao:Rn false (.t .o) (.t .o) fs=.ok (.t (.v true)) fs:=rfl
theorem Jan:Rn false (.t (.tup ts)) (.t .o) fs=.ok (.t (.v false)) fs:=rfl
theorem Ja0:gEq false (.t (.str k)) (.t .o) fs=.ok (.t (.v false)) fs:=by unfold gEq;simp only[plV];rw[show QW (V.str k) V.o=true from rfl];simp[okT]
theorem U4:Jm (.t (.tup (t::u::ts))) none (some 2) fs=.ok (.t (.tup [t,u])) fs:=by have:=FG (xs:=t::u::ts) (v:=2) (by decide) (by simp);exact congrArg (λl=>Out.ok (Rv.t (.tup l)) fs) this
theorem YW{j:Int}(hj:j=(n:Int))(h:n<=ts.length):Jm (.t (.tup ts)) none (some j) fs=.ok (.t (.tup (ts.take n))) fs:=by subst hj;have:=FG (xs:=ts) (v:=(n:Int)) (by lia) (by simpa using h);rw[uO]at this;exact congrArg (λl=>Out.ok (Rv.t (.tup l)) fs) this
theorem U2{j:Int}(hj:j=(n:Int)):Jm (.t (.tup ts)) (some j) none fs=.ok (.t (.tup (ts.drop n))) fs:=by
 subst hj;have:K4 ts (some (n:Int)) none=ts.drop n:=by
  by_cases h:n<=ts.length
  .have:=FH (xs:=ts) (v:=(n:Int)) (by lia) (by simpa using h);rwa[uO]at this
  .unfold K4;rw[HT.Jx,Nat.min_eq_right (by lia),vn (by lia),vn (by lia),List.take_nil]
 exact congrArg (λl=>Out.ok (Rv.t (.tup l)) fs) this
theorem U8(h:f fs=.ok (.t (.tup ts)) ag):YF f fs=.ok (.t (.tup ts.reverse)) ag:=by unfold YF;rw[h,BS (x:=.t (.tup ts)) True.intro];rfl
theorem Vb(h:f fs=.ok (.t (.x ks ts)) ag):Ac GL (Ab f Ai) fs=.ok (.nw (.lst (ks.map KH))) ag:=Cj (BY h DN) rfl
theorem Zl(h:f fs=.ok (.t (.str k)) ag):isF "str" f fs=.ok (.t (.v true)) ag:=by unfold isF;rw[h,BS (x:=.t (.str k)) True.intro];rfl
theorem QR(h:f fs=.ok (.t (.v b)) ag)(hb:b=true)(h2:fa ag=.ok r av):YB f fa fs=.ok r av:=by subst hb;unfold YB;rw[h,BS (x:=.t (.v true)) True.intro];exact h2
def Stop:SO->Prop
 |.ret _ _=>True
 |.exc _ _=>True
 |_=>False
theorem Stop.seq(h:Stop (s fs)):Al s s' fs=s fs:=by unfold Al;cases e:s fs<;>rw[e]at h<;>first|rfl|exact h.elim
section
variable{α:Type}{p:α->T}{ok:α->Option Str}{I:FS->Prop}{E:Str->SO->Prop}
theorem T5(hE:∀c so,E c so->Stop so):∀(xs:List α),(∀a∈xs,ok a=none->∀fs,I fs->∃ag,gt (p a) fs=some ag/\Sat (λso=>∃av,so=.nx av/\I av) (s ag))->(∀a∈xs,∀c,ok a=some c->∀fs,I fs->∃ag,gt (p a) fs=some ag/\Sat (E c) (s ag))->∀fs,I fs->(xs.findSome? ok=none/\∃ar,ES gt s (xs.map p) fs=.nx ar/\I ar)\/∃c,xs.findSome? ok=some c/\E c (ES gt s (xs.map p) fs)
 | [],_,_,fs,h=>.inl ⟨rfl,fs,rfl,h⟩
 |a::xs,s0,s1,fs,h=>by
  rw[List.findSome?_cons];cases e:ok a with
  |none =>obtain⟨ag,h1,av,h2,h3⟩:=s0 a uj e fs h;rw[tR,Rp h1 h2];exact T5 hE xs (λa m=>s0 a (tV _ m)) (λa m=>s1 a (tV _ m)) av h3
  |some c =>
   obtain⟨ag,h1,h2⟩:=s1 a uj c e fs h;have h2:E c (s ag):=h2;have hs:=hE _ _ h2;refine .inr ⟨c,rfl,?_⟩;rw[tR];have:ES gt s (p a::xs.map p) fs=s ag:=by rw[ES,h1];cases e2:s ag<;>rw[e2]at hs<;>first|exact hs.elim|simp only[e2]
   rw[this];exact h2
theorem Jy{it:FS->Out (List T)}{xs:List α}(hi:it fs=.ok (xs.map p) ag)(ok:α->Option Str)(I:FS->Prop)(E:Str->SO->Prop)(hE:∀c so,E c so->Stop so)(h1:I ag)(s0:∀a∈xs,ok a=none->∀fs,I fs->∃ag,gt (p a) fs=some ag/\Sat (λso=>∃av,so=.nx av/\I av) (s ag))(s1:∀a∈xs,∀c,ok a=some c->∀fs,I fs->∃ag,gt (p a) fs=some ag/\Sat (E c) (s ag))(k0:xs.findSome? ok=none->∀fs,I fs->Sat Q (h fs))(k1:∀c,xs.findSome? ok=some c->∀so,E c so->Q so):Sat Q (Al (B4 it gt s) h fs):=by
 have ef:B4 it gt s fs=ES gt s (xs.map p) ag:=HM hi rfl;rcases T5 hE xs s0 s1 ag h1 with⟨e,ar,e1,e2⟩|⟨c,e,e1⟩
 .exact E8 (ef.trans e1) (k0 e ar e2)
 .have e1:E c (B4 it gt s fs):=ef▸e1;unfold Sat;rw[(hE _ _ e1).seq];exact k1 c e _ e1
theorem VW{it:FS->Out (List T)}{xs:List α}(hi:it fs=.ok (xs.map p) ag)(ok:α->Option Str)(I:FS->Prop)(E:Str->SO->Prop)(hE:∀c so,E c so->Stop so)(h1:I ag)(s0:∀a∈xs,ok a=none->∀fs,I fs->∃ag,gt (p a) fs=some ag/\Sat (λso=>∃av,so=.nx av/\I av) (s ag))(s1:∀a∈xs,∀c,ok a=some c->∀fs,I fs->∃ag,gt (p a) fs=some ag/\Sat (E c) (s ag))(k0:xs.findSome? ok=none->∀fs,I fs->Q (.nx fs))(k1:∀c,xs.findSome? ok=some c->∀so,E c so->Q so):Sat Q (B4 it gt s fs):=by
 have ef:B4 it gt s fs=ES gt s (xs.map p) ag:=HM hi rfl;unfold Sat;rcases T5 hE xs s0 s1 ag h1 with⟨e,ar,e1,e2⟩|⟨c,e,e1⟩
 .rw[ef,e1];exact k0 e ar e2
 .exact k1 c e _ (ef▸e1)
end
end
theorem q_i{Q:SO->Prop}{so:SO}(h:Q so):Sat Q so:=h
theorem Q1{P Q:SO->Prop}{so:SO}(h:Sat P so)(i:∀so,P so->Q so):Sat Q so:=i _ h
theorem q_o{Q:SO->Prop}{so:SO}(h:Sat Q so):Q so:=h
theorem ZW{Q:SO->Prop}{fs:FS}{i j:Nat}{c z y:Str}(h0:fs[i]?=some (vl (.str z)))(hz:CO z=true)(h1:fs[j]?=some (vl (.str y)))(hy:CO y=true)(k:Sat Q (.exc c fs)):Sat Q (Hb c (Aa i) (Aa j) fs):=by refine q_X (ag:=fs) ?_ k;unfold Hb;rw[AA h0];simp only[SO.of,hz,if_true,AA h1,hy]
noncomputable def Rw:List Str:=["NoName","NoMaker","NoFunction","BadCount","NotLess","BadKind"]
theorem Tz{c:Str}{fs:FS}:Dh false (.t (.str c)) (.t (.lst [.str "NoName",.str "NoMaker",.str "NoFunction",.str "BadCount",.str "NotLess",.str "BadKind"])) fs=.ok (.t (.v (decide (c∈Rw)))) fs:=Rl (xs:=Rw)
theorem Ni{c:Str}(h:Lw c):c∉Rw:=λm=>by
 have key:∀c∈Rw,¬ ∀x∈cds c,97<=x/\x<=122:=by decide +kernel
 exact key c m h.al
theorem Jaj{c:Str}(h:Lw c):¬c="":=λe=>by
 have:(cds ("":Str)).length=0:=by decide +kernel
 have:=h.lo;rw[e]at this
 lia
theorem Tf{x:Str}(h:Lw x):CO x=true:=by
 unfold CO;rw[uq];refine⟨uE (by rw[Bp];have:=h.hi;lia),uS.mpr λc m=>uE ?_⟩;have:=(h.al c m).2;have:(122:Nat)<16^8:=by decide
 lia
theorem Of{c:Str}(h:c∈Rw):EV [vl (.zD c)]=.ok (.t (.str c)) [vl (.zD c)]/\(xrs.contains c&&GX c "SayError")=true:=by simp only[Rw,uk,uI,or_false]at h;rcases h with rfl|rfl|rfl|rfl|rfl|rfl<;>exact⟨by rfl,by decide +kernel⟩
theorem Y1{α:Type}{xs:List α}{p:α->T}{n:Nat}{j:Int}{fs:FS}(hj:j=(n:Int))(h:n<=xs.length):Jm (.t (.lst (xs.map p))) none (some j) fs=.ok (.t (.lst ((xs.take n).map p))) fs:=by rw[hj,RS (by rw[tZ];exact h),v5]
theorem UY{i:Nat}{dq:Str->Bool}{g h:FS->SO}{fs ag:FS}(hg:g fs=.nx ag):QS i dq g h fs=.nx ag:=by unfold QS;rw[hg]
theorem Oq{fs:FS}{is:List Ini}{τ:FS}{i k:Nat}{o:FO}(hp:∀j,FL.placeOf fs j is 0=if j=i then some k else none)(ht:τ[k]?=some (some (.bor o))):∀(gs:FS)(j:Nat),(∀n s,gs[n]?=some s->j+n=i->s=some (.own o))->Gp fs is τ j gs=some gs
 | [],_,_=>by simp[Gp]
 |s::gs,j,h=>by
  have ih:=Oq hp ht gs (j+1) λn s e1 e2=>h (n+1) s (by simpa using e1) (by lia)
  have b1:FL.Kc fs is τ j s=some s:=by
   unfold FL.Kc;rw[hp j];by_cases q:j=i
   .rw[if_pos q,h 0 s rfl (by lia)];simp only[ht,FL.Sl.put]
   .rw[if_neg q]
  simp only[Gp,b1,ih]
theorem QQ{p i k:Nat}{Fn:FS->Out Rv}{ga:FS->Out (List Rv)}{fs ag τ:FS}{rs:List Rv}{t:T}{o:FO}(h0:ga fs=.ok rs ag)(hp:rs.length=p)(hi:ag[i]?=some (some (.own o)))(hl:DC ag (rs.map AW)=[i])(hk:∀j,FL.placeOf ag j (rs.map AW) 0=if j=i then some k else none)(hf:Fn (BU ag (rs.map AW))=.ok (.t t) τ)(ht:τ[k]?=some (some (.bor o))):Ac (Ah p Fn) ga fs=.ok (.t t) ag :=
 Lc h0 hp (by rw[hl];simp) hf (Oq hk ht ag 0 λn s e1 e2=>by rw[vR]at e2;subst e2;rw[hi]at e1;exact(Option.some.inj e1).symm)
section
variable{i:Nat}{Fn:FS->Out Rv}{ga:FS->Out (List Rv)}{fs ag τ:FS}{t a1 a2 a4:T}{o:FO}
theorem Q7{j:Nat}(hi:ag[i]?=some (some (.own o))):A8 ag (.slot i)=some i:=by simp only[FL.A8,FL.AD,hi];rfl
theorem JbE(h0:ga fs=.ok [.t a1,.t a2,.n i,.t a4] ag)(hi:ag[i]?=some (some (.own o)))(hf:Fn [vl a1,vl a2,some (.bor o),vl a4]=.ok (.t t) τ)(ht:τ[2]?=some (some (.bor o))):Ac (Ah 4 Fn) ga fs=.ok (.t t) ag:=by
 have e:=Q7 (j:=0) hi;refine QQ (k:=2) h0 rfl hi ?_ (λj=>?_) ?_ ht
 .show List.filterMap (A8 ag) [.val a1,.val a2,.slot i,.val a4]=_;simp[List.filterMap,e,show ∀a,A8 ag (.val a)=none from λ_=>rfl]
 .show FL.placeOf ag j [.val a1,.val a2,.slot i,.val a4] 0=_;simp[FL.placeOf,e,show ∀a,A8 ag (.val a)=none from λ_=>rfl,eq_comm]
 .show Fn [vl a1,vl a2,PD ag (.slot i),vl a4]=_;rw[show PD ag (.slot i)=some (.bor o) by simp only[FL.PD,hi]];exact hf
theorem JbF(h0:ga fs=.ok [.t a1,.t a2,.n i] ag)(hi:ag[i]?=some (some (.own o)))(hf:Fn [vl a1,vl a2,some (.bor o)]=.ok (.t t) τ)(ht:τ[2]?=some (some (.bor o))):Ac (Ah 3 Fn) ga fs=.ok (.t t) ag:=by
 have e:=Q7 (j:=0) hi;refine QQ (k:=2) h0 rfl hi ?_ (λj=>?_) ?_ ht
 .show List.filterMap (A8 ag) [.val a1,.val a2,.slot i]=_;simp[List.filterMap,e,show ∀a,A8 ag (.val a)=none from λ_=>rfl]
 .show FL.placeOf ag j [.val a1,.val a2,.slot i] 0=_;simp[FL.placeOf,e,show ∀a,A8 ag (.val a)=none from λ_=>rfl,eq_comm]
 .show Fn [vl a1,vl a2,PD ag (.slot i)]=_;rw[show PD ag (.slot i)=some (.bor o) by simp only[FL.PD,hi]];exact hf
end
section
seal Sat Rr Src Al AB ifS retS By B4 EY Af Aa gc fz Ae Ab Ai Ac Ah Ap CF EC LN Cr asB GF Mx Ki orT tgN AL Ag Ly AG itU itZ itE itD LR EF slF chain ES gEq AO Dh Cd DD JV Av Bi fzR Ju L5 DR IJ Ca C4 J7 dput2 JB fzD Jm AQ BV DV YH Lx slS
set_option hygiene false
def Zz9(s:String):Lean.MacroM Lean.Syntax:=do
 let l<-(s.splitOn " ").toArray.mapM λx=>do
  let a<-((x.drop 1).toString.splitOn ",").toArray.mapM λy:String=>match y with
   |"!"=>`(by assumption)|"%"=>`(hr.mono (by first | decide | omega))|"&"=>`(T.xt.t1 (by decide +kernel))|"#"=>`(by decide +kernel)|"$"=>`(by omega)|"^"=>`(by decide)|"~"=>`(⟨by lia,by lia⟩)|"="=>`(Ta rfl)|"+"=>`(by first | exact lk.lk | exact Lks.no)|"*"=>`(by first | exact T.zU | exact T.zJ | exact T.zO | exact T.zK | exact T.zI)|"@"=>`(by first | exact Or.inl rfl | exact Or.inr rfl)|"<"=>`(Jbu hr)|"?"=>`(?_)|"_"=>`(_)|_=>return Lean.mkIdent y.toName
  let t:=Lean.Syntax.mkApp a[0]! (a.extract 1)
  match x.front with
  |'a'=>`(Lean.Parser.Tactic.tacticSeq|apply $t)|'e'=>`(Lean.Parser.Tactic.tacticSeq|exact $t)|_=>`(Lean.Parser.Tactic.tacticSeq|refine $t)
 `(tactic|first $[|$l]*)
local macro_rules|`(tactic|infer_instance)=>`(tactic|(first|(refine(?_:_<=((_:Nat):Int));focus (first | lia | (simp;lia)))|(refine(?_:((_:Nat):Int)<=_);focus (first | lia | (simp;lia)))|(refine(?_:BR _ _ _=_);assumption)|(refine(?_:_=Out.ok _ _);assumption)))
local macro_rules|`(tactic|infer_instance)=>`(tactic|(refine(?_:(_:Bool)=false);focus (first | rfl | (simp [h1];done) | (simp [h];done) | (simp [hl];done))))
local macro_rules|`(tactic|infer_instance)=>`(tactic|(refine(?_:¬ _);focus (decide +kernel)))
local macro_rules|`(tactic|infer_instance)=>Zz9 "es_k0 eJcj eJci eJch eJcg ePC,#"
local macro_rules|`(tactic|infer_instance)=>`(tactic|(refine(?_:_<=big);focus (show _<=1000000;first | lia | (simp;lia))))
local macro_rules|`(tactic|infer_instance)=>Zz9 "eNat.le_of_ble_eq_true,rfl"
local macro_rules|`(tactic|infer_instance)=>`(tactic|(first|exact(rfl:F8 _=_)|exact .inl rfl|exact .inr rfl|exact .inr (.inl rfl)))
local macro_rules|`(tactic|infer_instance)=>Zz9 "eso0 aso1 aso2,rfl aVd aZh aZj aZk aZi"
local macro_rules|`(tactic|infer_instance)=>`(tactic|(first|(refine(?_:Jbd _=_);rfl)|(refine(?_:_/\List.length _ < 900);exact⟨rfl,Nat.le_of_ble_eq_true rfl⟩)|(refine(?_:¬ _∈([]:List Str));exact uI)|(refine(?_:(_:FS)[(_:Nat)]?=_);rfl)|(refine(?_:¬ _);assumption)|(refine(?_:_ < 1000000);focus (first | omega | (simp;omega)))|(refine(?_:List.length _<=List.length _);focus (first | lia | (simp;lia)))|(refine(?_:List.length _=_);first | rfl | focus (simp;done))|(refine(?_:List.map _ _=List.map _ _);rfl)))
local macro_rules|`(tactic|infer_instance)=>Zz9 "aJbq aVj eY8 aRQ"
local macro_rules|`(tactic|infer_instance)=>`(tactic|(refine(?_:_=_->Sat _ _);first | (focus (intro hb;exfalso;simp [Fy] at hb;first | done | contradiction | omega)) | (focus (intro hb;exfalso;simp [h] at hb;done)) | (focus (intro hb;exfalso;simp [h1] at hb;done)) | (focus (intro hb;exfalso;simp [hv] at hb;done)) | intro hb))
local macro_rules|`(tactic|infer_instance)=>do
 let w1<-Zz9 "eJbY eJbX eJbW eJbV eJbU eJb3 eJb2 eJbT eJbS eJbR eJb1 eJb0 eJbZ"
 `(tactic|(refine(?_:(_:Option _)=_);first|(refine(?_:atI _ _=_);with_unfolding_all rfl)|$(⟨w1⟩):tactic|(refine(?_:atI _ _=_);assumption)))
local macro_rules|`(tactic|infer_instance)=>do
 let w1<-Zz9 "aYR aU0 aYU eGa,rfl,True.intro eGa,rfl,! eYV eKp,rfl,True.intro eKp,rfl,! eQU,rfl,True.intro eQU,rfl,! eZE aZD eYX eat0 eat1 eat2"
 `(tactic|(refine(?_:(_:Option _)=_);$(⟨w1⟩):tactic))
local macro_rules|`(tactic|infer_instance)=>do
 let w1<-Zz9 "aRU aRV"
 `(tactic|(refine(?_:(_:SO)=_);$(⟨w1⟩):tactic))
local macro_rules|`(tactic|infer_instance)=>do
 let w1<-Zz9 "eU3 aQO aRT aQN aY5 aY4 aZx aCD aZA,rfl aQP,rfl aN6 aHM aY6 aVf aQP,rfl aVg"
 `(tactic|(refine(?_:(_:SO)=_);$(⟨w1⟩):tactic))
local macro_rules|`(tactic|infer_instance)=>do
 let w1<-Zz9 "eJan"
 let w2<-Zz9 "eXa,= eW9,= eRl eninT,!"
 `(tactic|(refine(?_:(_:Out Rv)=_);first|$(⟨w1⟩):tactic|exact Xa (Jbs rfl)|$(⟨w2⟩):tactic))
local macro_rules|`(tactic|infer_instance)=>do
 let w1<-Zz9 "eNM,^ eNM,~"
 let w2<-Zz9 "eJY,~"
 let w3<-Zz9 "eJaB eJaD eJbI eJbK eJbJ eJbt ein_f eTz eJao"
 `(tactic|(refine(?_:(_:Out Rv)=_);first|exact GK (by lia)|$(⟨w1⟩):tactic|exact JY ⟨by decide,by decide⟩|$(⟨w2⟩):tactic|exact JX ⟨by split <;> decide,by split <;> decide⟩|exact TX ⟨by decide,by decide +kernel⟩|$(⟨w3⟩):tactic))
local macro_rules|`(tactic|infer_instance)=>do
 let w1<-Zz9 "eYW,hj,$ eU2,hj eU1,hj eU6 aU7 aRS aRX aZb aZa aY9 aZv eEh eXn aUI aYu eGK,^"
 `(tactic|(refine(?_:(_:Out Rv)=_);$(⟨w1⟩):tactic))
local macro_rules|`(tactic|infer_instance)=>do
 let w1<-Zz9 "aRY eZu,rfl aRW aRN,rfl aZc aUZ,rfl aYT aVi aZC aY3 aZR aVA eU5 eU4 eY1,hq,$ ePm,hn"
 `(tactic|(refine(?_:(_:Out Rv)=_);$(⟨w1⟩):tactic))
local macro_rules|`(tactic|infer_instance)=>do
 let w1<-Zz9 "eVa"
 let w2<-Zz9 "aJbQ aJbP aJbO aJbN aJbM aJbL aJbD aJbC aZe aVe aVb aU8 aZl"
 `(tactic|(refine(?_:(_:Out Rv)=_);first|$(⟨w1⟩):tactic|(refine(?_:Ac (Ah 4 Bv) _ _=_);apply JbE)|(refine(?_:Ac (Ah 3 Bj) _ _=_);apply JbF)|$(⟨w2⟩):tactic))
local macro_rules|`(tactic|infer_instance)=>do
 let w1<-Zz9 "aZy aQv aTb aR7"
 `(tactic|(refine(?_:(_:Out Bool)=_);$(⟨w1⟩):tactic))
local macro_rules|`(tactic|infer_instance)=>do
 let w1<-Zz9 "aVP"
 let w2<-Zz9 "aVN aSj aq_rf,rfl aq_ss"
 let w3<-Zz9 "aZ1 aq_if aVS eVM"
 `(tactic|(refine(?_:Sat _ _);first|(refine(?_:Sat _ (Al _ _ (List.set _ _ _)));apply ZY;focus (dsimp only [List.set_cons_zero,List.set_cons_succ,List.cons_append,List.nil_append,List.replicate_succ,List.replicate_zero,List.append_nil];try exact rfl))|$(⟨w1⟩):tactic|((first | refine(?_:Sat _ (Al (ifS (asB _) _ _) _ _)) | refine(?_:Sat _ (Al (ifS (GF _) _ _) _ _)));apply LC)|$(⟨w2⟩):tactic|((first | refine(?_:Sat _ (Al (AB _ _) _ _)) | refine(?_:Sat _ (Al (By _) _ _)) | refine(?_:Sat _ (Al (EY _ _) _ _)) | refine(?_:Sat _ (Al (Ca _ _ _) _ _)) | refine(?_:Sat _ (Al (IJ _ _ _ _) _ _)) | refine(?_:Sat _ (Al (C4 _ _ _ _ _) _ _)) | refine(?_:Sat _ (Al (J7 _ _ _ _) _ _)));apply E8)|$(⟨w3⟩):tactic|(refine(?_:Sat _ (.ret _ _));first | exact VQ True.intro rfl | (apply VQ;exact True.intro))|(refine(?_:Sat _ (.nx _));first | exact ZX | exact VT | apply Sk)|((first | refine(?_:Sat _ (AB _ _ _)) | refine(?_:Sat _ (By _ _)) | refine(?_:Sat _ (EY _ _ _)) | refine(?_:Sat _ (Ca _ _ _ _)) | refine(?_:Sat _ (IJ _ _ _ _ _)) | refine(?_:Sat _ (C4 _ _ _ _ _ _)) | refine(?_:Sat _ (dput2 _ _ _ _ _ _ _)));apply VU)))
local macro_rules|`(tactic|infer_instance)=>`(tactic|(refine(?_:(_:Out (List Rv))=_);first|exact DN|apply Qs|apply Ml))
local macro_rules|`(tactic|infer_instance)=>do
 let w1<-Zz9 "eZt aZf aZg eTh aXm aJax eJbw eTV eJa0 eJaz eJaA aVh"
 `(tactic|(refine(?_:(_:Out Rv)=_);$(⟨w1⟩):tactic))
local macro_rules|`(tactic|infer_instance)=>do
 let w1<-Zz9 "eAA,rfl eHt,rfl ePM,rfl epow7"
 let w2<-Zz9 "aZw aJbH eDg eZm eZo eZn,rfl eZq eZs eZr"
 `(tactic|(refine(?_:(_:Out Rv)=_);first|$(⟨w1⟩):tactic|exact E9 18 (by decide)|exact E9 40 (by decide)|exact E9 41 (by decide)|$(⟨w2⟩):tactic))
local macro_rules|`(tactic|infer_instance)=>`(tactic|(refine(?_:_=_);with_reducible assumption))
local macro_rules|`(tactic|infer_instance)=>Zz9 "eTrue.intro"
local macro_rules|`(tactic|trivial)=>`(tactic|repeat infer_instance)
theorem CV{D R:List Nat}{a c:Nat}(e:D++a::R=List.range c):a=D.length/\D.length<c:=by have h:=congrArg List.length e;simp at h;have:=congrArg (λl:List Nat=>l[D.length]?) e;simp only[u5 (uh _),Nat.sub_self,vI]at this;rw[List.getElem?_range (by lia)]at this;exact⟨Option.some.inj this,by lia⟩
noncomputable def lt:Nat->Int->List Nat
 |0,_=>[]
 |k+1,n=>(97+(n%26).toNat)::lt k (n/26)
theorem GG:∀(k:Nat)(n:Int),(lt k n).length=k
 |0,_=>rfl
 |k+1,n=>by simp[lt,GG k]
theorem WU:∀(k:Nat)(n:Int),∀c∈lt k n,97<=c/\c<=122
 |0,_,_,m=>nomatch m
 |k+1,n,c,m=>by
  rcases uk.mp m with rfl|m
  .lia
  .exact WU k _ c m
theorem Th{n:Int}{fs:FS}:AO (.t (.str ("abcdefghijklmnopqrstuvwxyz":Str))) (.t (.int (n%26))) fs=.ok (.t (.str (ch (97+(n%26).toNat)))) fs:=by
 have key:∀j∈List.range 26,(cds ("abcdefghijklmnopqrstuvwxyz":Str))[j]?=some (97+j):=by decide +kernel
 have:=ixS (fs:=fs) (i:=(n%26).toNat) (by decide +kernel) (key _ (vj.mpr (by lia)));rwa[show(((n%26).toNat:Nat):Int)=n%26 by lia]at this
theorem Td(a b:List Nat):mkS a++mkS b=mkS (a++b):=Sf ((HD _ _).trans rfl)
theorem Tg{n:Int}{k:Nat}(hk:k<=100):∃τ,Cy [iv n,iv k]=.ok (.t (.str (mkS (lt k n)))) τ:=by
 apply AX;unfold GW;trivial;apply Bo (I:=λ(D:List Nat) fs=>∃(m:Int)(z:List Nat)(y:Option Sl),fs=[iv m,iv k,vl (.str (mkS z)),y]/\Fre y/\z.length=D.length/\∀c,z++lt c m=lt (D.length+c) n) (xs:=List.range k) (p:=λi=>.int (i:Nat))
 case hi =>
  trivial
  .rfl
  .lia
 case h0=>exact⟨n,[],none,by rw[show mkS []=("":Str)from N4.symm],True.intro,rfl,λc=>by simp⟩
 case st =>
  rintro D i R _ e ⟨m,z,y,rfl,f,lz,hz⟩
  have:=CV e;trivial
  .apply J1;rw[Bp,Bp];show z.length+1<=1000000
   lia
  trivial;exact⟨m/26,z++[97+(m%26).toNat],_,by rw[<- Td];rfl,Am,by simp[lz],λc=>by have:=hz (c+1);rw[uL,uH,List.length_singleton,Nat.add_assoc,Nat.add_comm 1 c];exact this⟩
 case k =>
  rintro _ ⟨m,z,y,rfl,f,lz,hz⟩
  have:=hz 0;rw[lt,uK,uW]at this;subst this;trivial
theorem Ke{α:Type}{P:Nat->α->Prop}{l:List α}{x:α}(h:∀(j:Nat) t,l[j]?=some t->P j t)(hx:P l.length x):∀(j:Nat) t,(l++[x])[j]?=some t->P j t:=λj t ht=>by
 rcases Nat.lt_trichotomy j l.length with q|q|q
 .rw[vz q]at ht;exact h j t ht
 .subst q;rw[List.getElem?_concat_length]at ht;cases ht;exact hx
 .rw[u7 (by simp;lia)]at ht;cases ht
structure Wd1(p q:Nat)(s:Str):Prop where
 lw:Lw s
 at_:(cds s)[p]?=some q
theorem ZF{p i j:Nat}{n:Int}{s t:Str}(h1:Wd1 p (97+(((i:Int)+n)%26).toNat) s)(h2:Wd1 p (97+(((j:Int)+n)%26).toNat) t)(hi:i<26)(hj:j<26)(h:i≠j):s≠t:=λe=>by
 subst e;have:=h1.at_.symm.trans h2.at_;simp only[Option.some.injEq]at this
 lia
theorem VA{f g:FS->Out Rv}{fs:FS}{z:Str}{i:Nat}{j:Int}(h1:f fs=.ok (.t (.str z)) fs)(h2:g fs=.ok (.t (.int j)) fs)(hj:j=(i:Int))(hz:(cds z).length<=1000):slS f (BK g) noP fs=.ok (.t (.str (mkS ((cds z).drop i)))) fs:=ZS h1 (hj▸h2) hz
theorem pow7{fs:FS}:Af JW (gc (.int 7919)) (gc (.int 4)) fs=.ok (.t (.int (7919^4))) fs:=by unfold Af gc;show(if 0<=(4:Int)/\(4:Int)<=1000000/\(7919:Int).natAbs<2^64 then okT (.int (7919^(4:Int).toNat)) fs else .bad)=_;rw[if_pos (by decide)];rfl
theorem words(n:Int){c:Nat}(hc:c<=100):∃(p:Nat)(vs:List Str)(τ:FS),vs.length=c/\(∀(j:Nat) s,vs[j]?=some s->Wd1 p (97+(((j:Int)+n)%26).toNat) s)/\Bm [iv n,iv c]=.ok (.nw (.lst (vs.map T.str))) τ:=by
 obtain⟨p,hp⟩:∃p:Nat,n%8=(p:Int):=⟨(n%8).toNat,by lia⟩
 obtain⟨m,gC,de⟩:∃m:Nat,n/24%(12-(p:Int))=(m:Int)/\p+1+m<=12:=by have h1:=vQ (n/24) (show(12-(p:Int))≠0 by lia);have h2:=vM (n/24) (show 0<(12-(p:Int)) by lia);exact⟨(n/24%(12-(p:Int))).toNat,by lia,by lia⟩
 suffices h:∃o τ,Bm [iv n,iv c]=.ok (.nw o) τ/\∃vs:List Str,o=.lst (vs.map .str)/\vs.length=c/\∀(j:Nat) s,vs[j]?=some s->Wd1 p (97+(((j:Int)+n)%26).toNat) s by obtain⟨_,τ,e,vs,rfl,a,b⟩:=h;exact⟨p,vs,τ,a,b,e⟩
 have rq:∀o:Int,∃τ,Cy [iv o,iv ((p:Int)+1+n/24%(12-(p:Int)))]=.ok (.t (.str (mkS (lt (p+1+m) o)))) τ:=λo=>by rw[gC,show(p:Int)+1+(m:Int)=((p+1+m:Nat):Int) by lia];exact Tg (by lia)
 have rA:=λo=>(rq o).choose_spec
 apply H0;unfold Lg;trivial;apply Bo (I:=λ(D:List Nat) fs=>∃(vs:List Str)(y4 y5 y6 y7:Option Sl),fs=[iv n,iv c,iv p,some (.own (.lst (vs.map .str))),y4,y5,y6,y7]/\Fre y4/\Fre y5/\Fre y6/\Fre y7/\vs.length=D.length/\∀(j:Nat) s,vs[j]?=some s->Wd1 p (97+(((j:Int)+n)%26).toNat) s) (xs:=List.range c) (p:=λi=>.int (i:Nat))
 case hi =>
  trivial
  .rfl
  .lia
 case h0=>exact⟨[],none,none,none,none,by rw[hp];rfl,True.intro,True.intro,True.intro,True.intro,rfl,λj s h=>by simp at h⟩
 case st =>
  rintro D k R _ e ⟨vs,y4,y5,y6,y7,rfl,f4,f5,f6,f7,lv,hv⟩
  have rm:=CV e;have jV:(k:Int)*k<10000:=by
   have:k*k<=99*99:=Nat.mul_le_mul (by lia) (by lia);have e:(k:Int)*k=((k*k:Nat):Int):=by simp
   lia
  have sR:0<=(k:Int)*k:=Int.mul_nonneg (by lia) (by lia);have ln:∀l:List Nat,(mkS l).length=l.length:=λl=>Bp (mkS l)
  trivial
  .exact rA _
  trivial
  .show p<=(lt (p+1+m) _).length;rw[GG];lia
  .show(lt (p+1+m) _).length<=_;rw[GG];lia
  trivial
  .apply J1;rw[ln,ln,uN];show _+1<=1000000;lia
  trivial
  .show(p:Int)+1=((p+1:Nat):Int);lia
  .show(lt (p+1+m) _).length<=_;rw[GG];lia
  trivial
  .apply J1;rw[Bp,HD,uH,ln,vg];show(List.take p _).length+1+((lt (p+1+m) _).length-_)<=1000000;rw[uN,GG];lia
  trivial;generalize hw:lt (p+1+m) _=w;have lw:w.length=p+1+m:=by rw[<- hw,GG]
  have al:∀c∈w,97<=c/\c<=122:=by rw[<- hw];exact WU _ _
  have ht:(w.take p).length=p:=by rw[uN];lia
  refine⟨vs++[mkS (w.take p)++mkS [97+((k+n)%26).toNat]++mkS (w.drop (p+1))],_,_,_,_,by rw[tU];rfl,Am,Am,Am,Am,by simp[lv],Ke hv ?_⟩;rw[lv,<- rm.1];have cs:cds (mkS (w.take p)++mkS [97+((k+n)%26).toNat]++mkS (w.drop (p+1)))=w.take p++[97+((k+n)%26).toNat]++w.drop (p+1):=by rw[HD,HD]
  refine⟨⟨?_,?_,λc hc=>?_⟩,?_⟩
  .rw[cs];simp;lia
  .rw[cs,uH,uH,ht,vg];show p+1+_<=12;lia
  .rw[cs]at hc;rcases tW.mp hc with hc|hc
   .rcases tW.mp hc with hc|hc
    .exact al c (uY hc)
    .rw[ub.mp hc];lia
   .exact al c (vw hc)
  .rw[cs,uL,u5 (by lia),ht,Nat.sub_self];rfl
 case k =>
  rintro _ ⟨vs,y4,y5,y6,y7,rfl,f4,f5,f6,f7,lv,hv⟩
  rw[uW]at lv;trivial;exact VR rfl ⟨vs,rfl,lv,hv⟩
structure Rw1(ks ws:List Str)(a k:Nat)(r:Str×List Str):Prop where
 nm:ws[4*a+k]?=some r.1
 two:r.2.length<=2
 zd:∀x∈r.2,x∈ks.take (if k=0 then a else ks.length)
def Rws(ks ws:List Str)(a:Nat)(rs:List (Str×List Str)):Prop:=∀(j:Nat) r,rs[j]?=some r->Rw1 ks ws a j r
structure Kd1(ks ws:List Str)(a:Nat)(kd:Str×List (Str×List Str)):Prop where
 nm:ks[a]?=some kd.1
 lo:2<=kd.2.length
 hi:kd.2.length<=4
 rw:Rws ks ws a kd.2
structure Wds(n:Int)(vs:List Str):Prop where
 ex:∃p,∀(j:Nat) s,vs[j]?=some s->Wd1 p (97+(((j:Int)+n)%26).toNat) s
theorem Wq{f g:FS->Out Rv}{fs:FS}{a b:Bool}(h1:f fs=.ok (.t (.v a)) fs)(h2:g fs=.ok (.t (.v b)) fs):orV f g fs=.ok (.t (.v (a||b))) fs:=by unfold orV;rw[h1];cases a with|true=>rfl|false=>exact h2
theorem kinds(ns:List Int):∃(K:Kd)(ks ws:List Str)(n m:Int),1<=ks.length/\ks.length<=3/\ws.length=16/\Wds n ks/\Wds m ws/\K.length=ks.length/\(∀(j:Nat) kd,K[j]?=some kd->Kd1 ks ws j kd) /\
  (∃τ,Bm [iv m,iv 16]=.ok (.nw (.lst (ws.map T.str))) τ)/\(∃τ,Bx [iv (ns.getD 2 0),iv 3]=.ok (.t (.int m)) τ) /\
  ∃τ,DY [vl (.zY (ns.map T.int))]=.ok (.nw (.lst (K.map A9))) τ:=by
 have c1:=B7 ns 1;have c2:=B7 ns 2;obtain⟨v,_,e1⟩:=mix (ns.getD 1 0) (k:=1) (by lia);obtain⟨n,_,e2⟩:=mix (ns.getD 2 0) (k:=2) (by lia);obtain⟨m,iM,e3⟩:=mix (ns.getD 2 0) (k:=3) (by lia);obtain⟨c,hc,evc⟩:∃c:Nat,c<3/\v%3=(c:Int):=⟨(v%3).toNat,by lia,by lia⟩
 obtain⟨p,ks,_,k1,k2,k3⟩:=words n (c:=1+c) (by lia);obtain⟨q,ws,sE,w1,w2,w3⟩:=words m (c:=16) (by lia)
 suffices h:∃o τ,DY [vl (.zY (ns.map T.int))]=.ok (.nw o) τ/\∃K:Kd,o=.lst (K.map A9)/\K.length=ks.length/\∀(j:Nat) kd,K[j]?=some kd->Kd1 ks ws j kd by obtain⟨_,τ,e,K,rfl,a,b⟩:=h;exact⟨K,ks,ws,n,m,by lia,by lia,w1,⟨p,k2⟩,⟨q,w2⟩,a,b,⟨sE,w3⟩,⟨iM,e3⟩,τ,e⟩
 rw[show((1+c:Nat):Int)=1+v%3 by lia]at k3;apply H0;unfold Ll;trivial;apply Bo (I:=λ(D:List Nat) fs=>∃(K:Kd)(y5 y6 y7 y8 y9 aX:Option Sl),fs=[vl (.zY (ns.map T.int)),iv (1+v%3),vl (.lst (ks.map .str)),vl (.lst (ws.map .str)),some (.own (.lst (K.map A9))),y5,y6,y7,y8,y9,aX]/\(Fre y5/\Fre y6/\Fre y7/\Fre y8/\Fre y9/\Fre aX)/\K.length=D.length/\∀(j:Nat) kd,K[j]?=some kd->Kd1 ks ws j kd) (xs:=List.range (1+c)) (p:=λi=>.int (i:Nat))
 case hi =>
  trivial
  .lia
  .lia
 case h0=>exact⟨[],none,none,none,none,none,none,rfl,⟨True.intro,True.intro,True.intro,True.intro,True.intro,True.intro⟩,rfl,λj s h=>by simp at h⟩
 case st =>
  rintro D a R _ e ⟨K,y5,y6,y7,y8,y9,aX,rfl,⟨f5,f6,f7,f8,f9,f10⟩,lK,hK⟩
  have rm:=CV e;have ca:=B7 ns (3+a);rw[show((3+a:Nat):Int)=3+(a:Int) by lia]at ca;obtain⟨nu,_,ea⟩:=mix (ns.getD (3+a) 0) (k:=4) (by lia);obtain⟨c2,cL,aW⟩:∃c:Nat,(2<=c/\c<=4)/\2+nu%3=(c:Int):=⟨(2+nu%3).toNat,by lia,by lia⟩
  trivial;apply Bo (I:=λ(Z:List Nat) fs=>∃(num:Int)(rs:List (Str×List Str))(y8 y9 aX:Option Sl),fs=[vl (.zY (ns.map T.int)),iv (1+v%3),vl (.lst (ks.map .str)),vl (.lst (ws.map .str)),some (.own (.lst (K.map A9))),iv a,iv num,some (.own (.lst (rs.map EA))),y8,y9,aX]/\(Fre y8/\Fre y9/\Fre aX)/\rs.length=Z.length/\Rws ks ws a rs) (xs:=List.range c2) (p:=λi=>.int (i:Nat))
  case hi =>
   trivial
   lia
  case h0=>exact⟨_,[],_,_,_,rfl,⟨f8,f9,f10⟩,rfl,λj s h=>by simp at h⟩
  case st =>
   rintro Z k R2 _ e2 ⟨num,rs,y8,y9,aX,rfl,⟨f8,f9,f10⟩,lr,hr⟩
   have rY:=CV e2;obtain⟨c3,hc3,ec3⟩:∃c3:Nat,(c3<=2/\(a=0->k=0->c3=0))/\num/3%3*(if(decide ((0:Int)<a)||decide ((0:Int)<k))=true then 1 else 0)=(c3:Int):=by
    by_cases h:a=0/\k=0
    .exact⟨0,⟨by lia,λ_ _=>rfl⟩,by simp[h.1,h.2]⟩
    .refine⟨(num/3%3).toNat,⟨by lia,λp q=>absurd ⟨p,q⟩ h⟩,?_⟩;rw[if_pos (by rw[vq,decide_eq_true_iff,decide_eq_true_iff];lia)]
     lia
   obtain⟨m2,de⟩:∃m2,m2=if k=0 then a else ks.length:=⟨_,rfl⟩
   have am:atI [T.int (1+v%3),T.int a] (if decide ((k:Int)=0)=true then 1 else 0)=some (.int (m2:Nat)):=by
    by_cases h:k=0
    .rw[de,if_pos h,if_pos (by simp[h])];exact at1
    .rw[de,if_neg h,if_neg (by simp[h]),show((ks.length:Nat):Int)=1+v%3 by lia];exact at0
   have ww:ws[4*a+k]?=some ws[4*a+k]:=tO (by lia);have aw:atI (ws.map T.str) (4*(a:Int)+k)=some (.str ws[4*a+k]):=by rw[show 4*(a:Int)+k=((4*a+k:Nat):Int) by lia];exact BF (by rw[ux,ww];rfl)
   trivial;apply Bo (I:=λ(Y:List Nat) fs=>∃(nu:Int)(ps:List Str)(aX:Option Sl),fs=[vl (.zY (ns.map T.int)),iv (1+v%3),vl (.lst (ks.map .str)),vl (.lst (ws.map .str)),some (.own (.lst (K.map A9))),iv a,iv nu,some (.own (.lst (rs.map EA))),iv k,some (.own (.lst (ps.map .str))),aX]/\Fre aX/\ps.length=Y.length/\∀x∈ps,x∈ks.take m2) (xs:=List.range c3) (p:=λi=>.int (i:Nat))
   case hi =>
    trivial
    .apply Wq;trivial
    trivial
    lia
   case h0=>exact⟨_,[],_,rfl,f10,rfl,λ_ h=>nomatch h⟩
   case st =>
    rintro Y i R3 _ e3 ⟨nu,ps,aX,rfl,f10,lp,hp⟩
    have tJ:=CV e3;have hm:1<=m2/\m2<=ks.length:=by rw[de];split<;>lia
    obtain⟨x,mx,ex⟩:∃x∈ks.take m2,atI (ks.map T.str) (nu/3%(m2:Int))=some (.str x):=by
     have g1:=vQ (nu/3) (show(m2:Int)≠0 by lia);have g2:=vM (nu/3) (show(0:Int)<m2 by lia);have hi:(nu/3%(m2:Int)).toNat<ks.length:=by lia
     refine⟨ks[(nu/3%(m2:Int)).toNat],vV.mpr ⟨(nu/3%(m2:Int)).toNat,by lia,rfl⟩,?_⟩;have:=BF (xs:=ks.map T.str) (j:=(nu/3%(m2:Int)).toNat) (by rw[ux,tO hi];rfl);rwa[show(((nu/3%(m2:Int)).toNat:Nat):Int)=nu/3%(m2:Int) by lia]at this
    trivial;exact⟨_,ps++[x],_,by rw[tU];rfl,Am,by simp[lp],λz mz=>(tW.mp mz).elim (hp z) λh=>by rw[ub.mp h];exact mx⟩
   case k =>
    rintro _ ⟨nu,ps,aX,rfl,f10,lp,hp⟩
    rw[uW]at lp;trivial;exact⟨_,rs++[(ws[4*a+k],ps)],_,some (.own (.lst (ps.map .str))),_,by rw[tU];rfl,⟨Am,True.intro,f10⟩,by simp[lr],Ke hr (by rw[lr,<- rY.1];exact⟨ww,by show ps.length<=2;lia,by rw[<- de];exact hp⟩)⟩
  case k =>
   rintro _ ⟨num,rs,y8,y9,aX,rfl,⟨f8,f9,f10⟩,lr,hr⟩
   rw[uW]at lr;have ha:ks[a]?=some ks[a]:=tO (by lia);have a1:atI (ks.map T.str) (a:Int)=some (.str ks[a]):=BF (by rw[ux,ha];rfl);trivial;exact⟨K++[(ks[a],rs)],_,_,_,_,_,_,by rw[tU];rfl,⟨Am,Am,Am,f8,f9,f10⟩,by simp[lK],Ke hK (by rw[lK,<- rm.1];exact⟨ha,by show 2<=rs.length;lia,by show rs.length<=4;lia,hr⟩)⟩
 case k =>
  rintro _ ⟨K,y5,y6,y7,y8,y9,aX,rfl,⟨f5,f6,f7,f8,f9,f10⟩,lK,hK⟩
  rw[uW]at lK;trivial;exact VR rfl ⟨K,rfl,by lia,hK⟩
theorem Q0{A:FS->Prop}{n:Nat}{s:FS->SO}{args:FS}(k:Sat (λso=>∃τ,so=.nx τ/\A (τ.take args.length)) (s (args++List.replicate n none))):∃τ,Bq n s args=.ok (.t .o) τ/\A τ:=by unfold Sat at k;obtain⟨τ,e,a⟩:=k;exact⟨_,by unfold Bq;rw[e],a⟩
section
variable{K:Kd}
theorem WR{D R:Kd}{kd:Str×List (Str×List Str)}(e:D++kd::R=K)(nd:(K.map (·.1)).Nodup):(.inr kd.1:Key)∉D.map λkd=>(.inr kd.1:Key):=λm=>by obtain⟨z,mz,ez⟩:=ug.mp m;rw[<- e,tU,tR]at nd;exact(tQ.mp nd).2.2 z.1 (ug.mpr ⟨z,mz,rfl⟩) kd.1 uj (Sum.inr.inj ez)
theorem Nl{α:Type}{xs D R:List α}{a:α}(e:D++a::R=xs):D.length<xs.length/\a∈xs:=by rw[<- e];simp
theorem IV(W:Well K):∃τ,BX [vl (.lst (K.map A9))]=.ok (.t .o) τ:=by
 have h1:=W.lo;have h4:=W.hi;apply Ia;unfold D7;trivial;apply Ep (I:=λ(D:Kd) fs=>∃(vs:List T)(y2 y3:Option Sl),fs=[vl (.lst (K.map A9)),some (.own (.l (D.map λkd=>.inr kd.1) vs)),y2,y3]/\Fre y2/\Fre y3) (xs:=K) (p:=A9)
 case hi=>trivial
 case h0=>exact⟨_,_,_,rfl,True.intro,True.intro⟩
 case st =>
  rintro D kd R _ e ⟨vs,y2,y3,rfl,f2,f3⟩
  have le:=Nl e;have hn:=W.nm kd le.2;have hr:=W.rw kd le.2;have nk:=WR e W.nd;have nv:=BJ (ts:=vs) nk;trivial
  .simp[nv]
  trivial;exact⟨_,_,_,by rw[tU];rfl,Am,Am⟩
 case k =>intro fs h;trivial
theorem IU{m:Str}{ps names:List Str}{ks:List Key}{vs:List T}(hn:A2 [vl (.str m)]=.ok (.t (.v true)) [vl (.str m)])(hk:(.inr m:Key)∉ks)(h2:ps.length<=2)(hp:∀p∈ps,p∈names):∃τ,Bv [vl (.str m),vl (.tup (ps.map .str)),some (.bor (.l ks vs)),vl (.lst (names.map .str))]=.ok (.t .o) τ/\τ[2]?=some (some (.bor (.l ks vs))):=by
 have nv:=BJ (ts:=vs) hk;apply Q0;unfold D6;trivial
 .simp[nv]
 trivial
 .simp;lia
 trivial;apply Q3 (Pe:=λu=>∃p,u=.str p/\p∈names) (I:=λfs=>∃y4,fs=[vl (.str m),vl (.tup (ps.map .str)),some (.bor (.l ks vs)),vl (.lst (names.map .str)),y4]/\Fre y4)
 case hi=>trivial
 case h0=>exact λu mu=>let⟨p,mp,e⟩:=ug.mp mu;⟨p,e.symm,hp p mp⟩
 case h1=>exact⟨_,rfl,True.intro⟩
 case st =>
  rintro _ _ ⟨p,rfl,mp⟩ ⟨y4,rfl,f4⟩
  trivial
  .simp[mp]
  trivial;exact⟨_,rfl,Am⟩
 case k =>
  rintro _ ⟨y4,rfl,f4⟩
  apply Sk;rfl
end
section
variable{K:Kd}
theorem HC{m:Str}{ps names:List Str}(hp:∀p∈ps,p∈names):∃τ,Bj [vl (.str m),vl (.tup (ps.map .str)),some (.bor (.lst (names.map .str)))]=.ok (.t .o) τ/\τ[2]?=some (some (.bor (.lst (names.map .str)))):=by
 apply Q0;unfold Dq;apply Q3 (Pe:=λu=>∃p,u=.str p/\p∈names) (I:=λfs=>∃y4,fs=[vl (.str m),vl (.tup (ps.map .str)),some (.bor (.lst (names.map .str))),y4]/\Fre y4)
 case hi=>trivial
 case h0=>exact λu mu=>let⟨p,mp,e⟩:=ug.mp mu;⟨p,e.symm,hp p mp⟩
 case h1=>exact⟨_,rfl,True.intro⟩
 case st =>
  rintro _ _ ⟨p,rfl,mp⟩ ⟨y4,rfl,f4⟩
  trivial
  .simp[mp]
  trivial;exact⟨_,rfl,Am⟩
 case k =>
  rintro _ ⟨y4,rfl,f4⟩
  apply Sk;rfl
theorem HB(W:Well K):∃τ,BG [vl (.lst (K.map A9))]=.ok (.t .o) τ:=by
 have h4:=W.hi;apply Ia;unfold Dp;trivial
 .apply J9
  .trivial
  .trivial
  .exact λ_=>rfl
  .intro r mr;trivial
  .lia
 rw[show(K.map λkd=>T.str kd.1)=(K.map (·.1)).map T.str by rw[uD];rfl];trivial;apply Ep (I:=λ(D:Kd) fs=>∃(vs:List T)(y4 y5 y6 y7 y8:Option Sl),fs=[vl (.lst (K.map A9)),vl (.lst ((K.map (·.1)).map .str)),some (.own (.lst ((D.map (·.1)).map .str))),some (.own (.l (Bt D) vs)),y4,y5,y6,y7,y8]/\Fre y4/\Fre y5/\Fre y6/\Fre y7/\Fre y8) (xs:=K) (p:=A9)
 case hi=>trivial
 case h0=>exact⟨[],none,none,none,none,none,rfl,True.intro,True.intro,True.intro,True.intro,True.intro⟩
 case st =>
  rintro D kd R _ e ⟨vs,y4,y5,y6,y7,y8,rfl,f4,f5,f6,f7,f8⟩
  obtain⟨w1,w2,w3,w4⟩:=W.part e;have le:=Nl e;obtain⟨r0,rt,er⟩:=List.exists_cons_of_length_pos (W.rw kd w3).1;have a0:atI (kd.2.map EA) 0=some (EA r0):=by rw[er];exact at0
  trivial;apply Bo (I:=λ(Z:List (Str×List Str)) fs=>∃(vs:List T)(y7 y8:Option Sl),fs=[vl (.lst (K.map A9)),vl (.lst ((K.map (·.1)).map .str)),some (.own (.lst ((D.map (·.1)).map .str))),some (.own (.l (Bt D++Z.map KI) vs)),vl (.str kd.1),vl (.lst (kd.2.map EA)),vl (.str r0.1),y7,y8]/\Fre y7/\Fre y8) (xs:=kd.2) (p:=EA)
  case hi=>trivial
  case h0=>exact⟨vs,y7,y8,by rw[u3,uK],f7,f8⟩
  case st =>
   rintro Z r Y _ e2 ⟨vs,y7,y8,rfl,f7,f8⟩
   have eW:=Nl e2;have nk:(.inr r.1:Key)∉Bt D++Z.map KI:=by rw[<- e2,tU,tR,<- uL]at w1;exact λm=>(tQ.mp w1).2.2 _ m _ uj rfl
   obtain⟨_,c1,c2⟩:=IU (vs:=vs) (W.yI _ (JM w3 eW.2)) nk (W.two kd w3 r eW.2) (W.zd kd w3 r eW.2);have hl:(Bt D++Z.map KI).length<1000:=by rw[uH,tZ];lia
   have cg:decide (r.1=r0.1)=true->_:=λh=>HC (m:=r.1) (ps:=r.2) (names:=D.map (·.1)) (W.gr D kd R e.symm r (by rw[er,OT w4 eW.2 (by rw[er];exact uj) (um h)];rfl))
   trivial
   .exact(cg hb).choose_spec.1
   .exact(cg hb).choose_spec.2
   trivial
   .exact⟨_,_,_,by rw[tU,<- uL];rfl,Am,Am⟩
   trivial;exact⟨_,_,_,by rw[tU,<- uL];rfl,Am,Am⟩
  case k =>
   rintro _ ⟨vs,y7,y8,rfl,f7,f8⟩
   trivial;exact⟨vs,_,_,_,_,_,by rw[tU,tU,Ed];rfl,Am,Am,Am,f7,f8⟩
 case k =>intro fs h;trivial
end
abbrev TF:List Str:=["makers_by_kind","parts_by_maker","home_by_maker"]
theorem My:(("parts_by_maker":Str) == "makers_by_kind")=false/\(("home_by_maker":Str) == "makers_by_kind")=false/\(("home_by_maker":Str) == "parts_by_maker")=false:=by decide +kernel
section
variable{a b c:T}{x y z w:FO}
theorem Jb3:EI TF [a,b,c] "makers_by_kind"=some a:=by simp[EI]
theorem Jb2:EI TF [a,b,c] "parts_by_maker"=some b:=by simp[EI,My]
theorem JbT:Bh TF [x,y,z] "makers_by_kind"=some x:=by simp[Bh]
theorem JbS:Bh TF [x,y,z] "parts_by_maker"=some y:=by simp[Bh,My]
theorem JbR:Bh TF [x,y,z] "home_by_maker"=some z:=by simp[Bh,My]
theorem s_k0:BB TF [x,y,z] "makers_by_kind" w=[w,y,z]:=by simp[BB]
theorem Jcj:BB TF [x,y,z] "parts_by_maker" w=[x,w,z]:=by simp[BB,My]
theorem Jci:BB TF [x,y,z] "home_by_maker" w=[x,y,w]:=by simp[BB,My]
end
section
variable{K:Kd}{C:Addr}
theorem Jr(W:Well K):∃τ,Cf C [some (.bor (.ins C [] [])),vl (.lst (K.map A9))]=.ok (.t .o) (some (.bor (QT C K (CP K)))::τ):=by
 obtain⟨_,k1⟩:=IV W;obtain⟨_,k2⟩:=HB W;have h4:=W.hi;apply ZZ;unfold Ew;trivial;apply Ep (I:=λ(D:Kd) fs=>∃y2 y3 y4 y5,fs=[some (.bor (.ins C TF [.l (ED D) (IA D),.l (Bt D) (MO D),.l (Bt D) (CP D)])),vl (.lst (K.map A9)),y2,y3,y4,y5]/\Fre y2/\Fre y3/\Fre y4/\Fre y5) (xs:=K) (p:=A9)
 case hi=>trivial
 case h0=>exact⟨none,none,none,none,rfl,True.intro,True.intro,True.intro,True.intro⟩
 case st =>
  rintro D kd R _ e ⟨y2,y3,y4,y5,rfl,f2,f3,f4,f5⟩
  obtain⟨w1,w2,w3,w4⟩:=W.part e;have le:=Nl e;have hr:=(W.rw kd w3).2;have nk:(.inr kd.1:Key)∉ED D:=WR e W.nd;have lk:(ED D).length<1000:=by unfold ED;rw[tZ];lia
  trivial
  .apply J9
   .trivial
   .trivial
   .exact λ_=>rfl
   .intro r mr;trivial
   .lia
  trivial;apply Ep (I:=λ(Z:List (Str×List Str)) fs=>∃y4 y5,fs=[some (.bor (.ins C TF [.l (ED D++[.inr kd.1]) (IA D++[.lst (kd.2.map λr=>.str r.1)]),.l (Bt D++Z.map KI) (MO D++UR Z),.l (Bt D++Z.map KI) (CP D++LU kd.1 Z)])),vl (.lst (K.map A9)),vl (.str kd.1),vl (.lst (kd.2.map EA)),y4,y5]/\Fre y4/\Fre y5) (xs:=kd.2) (p:=EA)
  case hi=>trivial
  case h0=>exact⟨y4,y5,by unfold UR LU;rw[u3,u3,u3,uK,uK,uK];rfl,f4,f5⟩
  case st =>
   rintro Z r Y _ e2 ⟨y4,y5,rfl,f4,f5⟩
   have eW:=Nl e2;have nr:(.inr r.1:Key)∉Bt D++Z.map KI:=by rw[<- e2,tU,tR,<- uL]at w1;exact λm=>(tQ.mp w1).2.2 _ m _ uj rfl
   have hl:(Bt D++Z.map KI).length<1000:=by rw[uH,tZ];lia
   trivial;exact⟨_,_,by unfold UR LU;rw[tU,tU,tU,<- uL,<- uL,<- uL];rfl,Am,Am⟩
  case k =>
   rintro _ ⟨y4,y5,rfl,f4,f5⟩
   trivial;exact⟨_,_,_,_,by rw[Ed,MN,show CP (D++[kd])=CP D++LU kd.1 kd.2 by simp[CP],show ED (D++[kd])=ED D++[.inr kd.1]from tU,show IA (D++[kd])=IA D++[.lst (kd.2.map λr=>.str r.1)] by unfold IA;rw[tU];simp],Am,Am,f4,f5⟩
 case k =>
  rintro _ ⟨y2,y3,y4,y5,rfl,f2,f3,f4,f5⟩
  exact VT
theorem HV{hs:List T}:∃τ,Bd C [vl (B1 C K hs)]=.ok (.nw (.lst ((K.map (·.1)).map .str))) τ:=by
 obtain⟨r,τ,e,rfl⟩:∃r τ,Bd C [vl (B1 C K hs)]=.ok r τ/\r=.nw (.lst ((ED K).map KH)):=by apply Ib;unfold D8 B1;apply VS;apply Vc;trivial
 exact⟨τ,by rw[e];unfold ED;rw[uD,uD];rfl⟩
theorem D9{hs:List T}(W:Well K){kd:Str×List (Str×List Str)}(m:kd∈K):∃τ,AV C [vl (B1 C K hs),vl (.str kd.1)]=.ok (.nw (.lst ((kd.2.map (·.1)).map .str))) τ:=by
 have h:=val_mk W m;obtain⟨r,τ,e,rfl⟩:∃r τ,AV C [vl (B1 C K hs),vl (.str kd.1)]=.ok r τ/\r=.nw (.lst ((kd.2.map (·.1)).map .str)):=by apply Ib;unfold Dr B1;trivial
 exact⟨τ,e⟩
theorem E6{hs:List T}(W:Well K){kd:Str×List (Str×List Str)}{r:Str×List Str}(m:kd∈K)(m2:r∈kd.2):∃τ,Bb C [vl (B1 C K hs),vl (.str r.1)]=.ok (.t (.tup (r.2.map .str))) τ:=by have h:=Mq W m m2;apply AX;unfold CM B1;trivial
end
theorem Wds.lw{n:Int}{vs:List Str}(h:Wds n vs){s:Str}(hs:s∈vs):Lw s:=by obtain⟨p,h⟩:=h.ex;obtain⟨j,hj⟩:=u6.mp hs;exact(h j s hj).lw
theorem Wds.inj{n:Int}{vs:List Str}(h:Wds n vs)(hl:vs.length<=26){i j:Nat}{s:Str}(h1:vs[i]?=some s)(h2:vs[j]?=some s):i=j:=by
 obtain⟨p,h⟩:=h.ex;have l1:=(tX.mp h1).1;have l2:=(tX.mp h2).1;rcases Nat.decEq i j with z|z
 .exact absurd rfl (ZF (h i s h1) (h j s h2) (by lia) (by lia) z)
 .exact z
theorem Fq{s:Str}(h:Lw s):A2 [vl (.str s)]=.ok (.t (.v true)) [vl (.str s)]:=by have:=Pz (z:=s) (by rw[Bp];have:=h.hi;lia);rwa[(WQ s).mpr h]at this
section
variable{K:Kd}{ks ws:List Str}{n m:Int}(k1:1<=ks.length)(k3:ks.length<=3)(jG:ws.length=16)(hk:Wds n ks)(hw:Wds m ws)(hl:K.length=ks.length)(h:∀(j:Nat) kd,K[j]?=some kd->Kd1 ks ws j kd)
include hl h in
theorem Nt:K.map (·.1)=ks:=by
 apply List.ext_getElem?;intro j;rw[ux];cases e:K[j]? with
 |none =>
  have:ks.length<=j:=by rw[<- hl];exact List.getElem?_eq_none_iff.mp e
  rw[u7 this];rfl
 |some kd=>exact(h j kd e).nm.symm
include h in
theorem JS{a:Nat}{kd:Str×List (Str×List Str)}{r:Str×List Str}(ha:K[a]?=some kd)(hr:r∈kd.2):∃j,j<4/\kd.2[j]?=some r/\ws[4*a+j]?=some r.1:=by obtain⟨j,hj⟩:=u6.mp hr;have:=(tX.mp hj).1;have:=(h a kd ha).hi;exact⟨j,by lia,hj,((h a kd ha).rw j r hj).nm⟩
include k1 k3 jG hk hw hl h in
theorem Vk:Well K:=by
 have hn:=Nt hl h;have mk:∀s∈mks K,∃a j,j<4/\ws[4*a+j]?=some s:=λs hs=>by obtain⟨kd,m1,m2⟩:=u0.mp hs;obtain⟨r,m3,rfl⟩:=ug.mp m2;obtain⟨a,ha⟩:=u6.mp m1;obtain⟨j,j1,_,j2⟩:=JS h ha m3;exact⟨a,j,j1,j2⟩
 have gK:∀s∈mks K,Lw s:=λs hs=>by obtain⟨a,j,_,e⟩:=mk s hs;exact hw.lw (uP e)
 have at_:∀kd∈K,∃a:Nat,K[a]?=some kd:=λkd m=>u6.mp m
 refine⟨by lia,by lia,?_,λkd mk=>?_,λkd mk=>?_,?_,λs hs=>Fq (gK s hs),λs hs=>by rw[Bp];exact(gK s hs).hi,λkd mk r mr=>?_,λkd mk r mr x mx=>?_,λD kd R e r er x mx=>?_⟩
 .rw[hn];refine uV.mpr λi j hi hj dz e=>?_
  have:=hk.inj (by lia) (i:=i) (j:=j) (s:=ks[i]) (tO hi) (by rw[e];exact tO hj)
  lia
 .exact Fq (hk.lw (by rw[<- hn];exact ug.mpr ⟨kd,mk,rfl⟩))
 .obtain⟨a,ha⟩:=at_ kd mk;have g1:=(h a kd ha).lo;exact⟨by lia,(h a kd ha).hi⟩
 .refine List.pairwise_flatMap.mpr ⟨λkd m1=>?_,uV.mpr λa b ha hb fA x mx y my e=>?_⟩
  .obtain⟨a,ha⟩:=at_ kd m1;refine uV.mpr λi j hi hj dz e=>?_
   rw[tZ]at hi hj;rw[vh,vh]at e;have g1:=((h a kd ha).rw i _ (tO hi)).nm;have g2:=((h a kd ha).rw j _ (tO hj)).nm;rw[e]at g1;have:=hw.inj (by lia) g1 g2
   lia
  .obtain⟨r,m3,rfl⟩:=ug.mp mx;obtain⟨r2,m4,rfl⟩:=ug.mp my;obtain⟨i,i1,_,i2⟩:=JS h (tO ha) m3;obtain⟨j,j1,_,j2⟩:=JS h (tO hb) m4;rw[<- e]at j2;have:=hw.inj (by lia) i2 j2
   lia
 .obtain⟨a,ha⟩:=at_ kd mk;obtain⟨j,_,ej,_⟩:=JS h ha mr;exact((h a kd ha).rw j r ej).two
 .obtain⟨a,ha⟩:=at_ kd mk;obtain⟨j,_,ej,_⟩:=JS h ha mr;rw[hn];exact uY (((h a kd ha).rw j r ej).zd x mx)
 .have ha:K[D.length]?=some kd:=by rw[e];simp
  have:=((h D.length kd ha).rw 0 r er).zd x mx;rw[if_pos rfl,<- hn,<- v5,e]at this;simpa using this
end
theorem W4{K:Kd}(W:Well K){kd z:Str×List (Str×List Str)}(hk:kd∈K)(mz:z∈K)(e:z.1=kd.1):z=kd:=by
 obtain⟨i,hi,rfl⟩:=vD mz;obtain⟨j,hj,rfl⟩:=vD hk;have nd:=uV.mp W.nd;rcases Nat.lt_trichotomy i j with q|q|q
 .exact absurd (by rw[vh,vh];exact e) (nd i j (by simpa using hi) (by simpa using hj) q)
 .subst q;rfl
 .exact absurd (by rw[vh,vh];exact e.symm) (nd j i (by simpa using hj) (by simpa using hi) q)
theorem makers{K:Kd}(W:Well K){kd:Str×List (Str×List Str)}(hk:kd∈K):∃τ,Cw [vl (.lst (K.map A9)),vl (.str kd.1)]=.ok (.t (.lst (kd.2.map EA))) τ:=by
 have go:∀(R:Kd)(x2 x3:Option Sl),kd∈R->(∀z∈R,z∈K)->Fre x2->Fre x3->∃τ,ES (AL 2 (Ag (tgN 2) (Ag (tgN 3) AG))) (ifS (asB (Af (gEq false) (Aa 2) (Aa 1))) (retS (Aa 3)) nxS) (R.map A9) [vl (.lst (K.map A9)),vl (.str kd.1),x2,x3]=.ret (.t (.lst (kd.2.map EA))) τ:=by
  intro R
  induction R with
  |nil=>exact λ_ _ m=>nomatch m
  |cons z R ih =>
   intro x2 x3 m u f2 f3;by_cases h:z.1=kd.1
   .rw[W4 W hk (u z uj) h];exact⟨_,T4 (Mr (Ga rfl f2) (Ga rfl f3)) (PH ((Ry (x:=kd.1) (y:=kd.1) (AA rfl) (AA rfl)).trans (by rw[uE rfl])) (CD (AA rfl)))⟩
   .obtain⟨τ,g⟩:=ih (vl (.str z.1)) (vl (.lst (z.2.map EA))) ((uk.mp m).resolve_left λe=>h (by rw[e])) (λz m=>u z (tV _ m)) Am Am;exact⟨τ,(Rp (Mr (Ga rfl f2) (Ga rfl f3)) (ND (h:=nxS) ((Ry (x:=z.1) (y:=kd.1) (AA rfl) (AA rfl)).trans (by rw[uA h])) rfl)).trans g⟩
 obtain⟨τ,g⟩:=go K none none hk (λ_ m=>m) Hw Hw;exact⟨_,HZ (n:=2) (g:=Jf) (args:=[vl (.lst (K.map A9)),vl (.str kd.1)]) (EL (HM (Tw (NQ (AA rfl))) g))⟩
noncomputable def YJ(K:Kd):List (Str×Str×List Str):=K.flatMap λkd=>kd.2.map λr=>(kd.1,r)
theorem Nh(K:Kd):Bt K=(YJ K).map λq=>KI q.2:=by rw[Fo];unfold YJ allR;rw[vB,vB];simp only[uD];rfl
theorem TB(K:Kd):CP K=(YJ K).map λq=>T.str q.1:=by unfold CP LU YJ;rw[vB];simp only[uD];rfl
theorem Kl{K:Kd}(W:Well K){kd:Str×List (Str×List Str)}{r:Str×List Str}(m:kd∈K)(m2:r∈kd.2):BR (Bt K) (CP K) (.inr r.1:Key)=some (.str kd.1):=by have h:(Bt K).Nodup:=B2 W.yM;rw[Nh]at h;rw[Nh,TB];exact Cu (f:=λq:Str×Str×List Str=>KI q.2) (g:=λq=>T.str q.1) (x:=(kd.1,r)) (u0.mpr ⟨kd,m,ug.mpr ⟨r,m2,rfl⟩⟩) h
abbrev stT(C:Addr)(K:Kd):T:=B1 C K (CP K)
section
variable{C:Addr}{K:Kd}{hs:List T}
theorem Rq{i:Nat}{fs:FS}(h:fs[i]?=some (vl (B1 C K hs))):EF C "home_by_maker" (Aa i) fs=.ok (.t (.l (Bt K) hs)) fs:=by unfold EF;rw[AA h];obtain⟨sO,qj,qk⟩:=Pn;unfold B1;generalize ("makers_by_kind":Str)=A at *;generalize ("parts_by_maker":Str)=B at *;generalize ("home_by_maker":Str)=H at *;simp[Out.bnd,Out.bind,JaF,EI,okT,Ne.symm qj,Ne.symm qk]
theorem MC(W:Well K){kd:Str×List (Str×List Str)}{r:Str×List Str}(m:kd∈K)(m2:r∈kd.2):Cg C [vl (stT C K),vl (.str r.1)]=.ok (.t (.str kd.1)) [vl (stT C K),vl (.str r.1)]:=by
 have all:Ck C [vl (stT C K),vl (.str r.1)]=.ret (.t (.str kd.1)) [vl (stT C K),vl (.str r.1)]:=by
  unfold Ck;refine sq (ND (Ln (b:=false) (AH (NQ (AA (t:=.str r.1) rfl)) (Rq rfl) ?_)) rfl) ?_
  .rw[Jbt,Kl W m m2];rfl
  exact CD (AH (Rq rfl) (NQ (AA (t:=.str r.1) rfl)) (Xm (Kl W m m2)))
 exact(HZ (n:=0) (g:=Ck C) (args:=[vl (stT C K),vl (.str r.1)]) all).trans rfl
end
theorem LB{Q:SO->Prop}{c:FS->Out Bool}{s s' h:FS->SO}{fs ag:FS}{b:Bool}(hc:c fs=.ok b ag)(hb:b=false)(k:Sat Q (Al s' h ag)):Sat Q (Al (ifS c s s') h fs):=LC hc (λh=>absurd (h.symm.trans hb) (by decide)) λ_=>k
theorem F2.prs{R:T->Str->Prop}{ts:List T}{ps:List Str}(h:F2 R ts ps):∀u∈FL.pairs ts (ps.map .str),∃t k,u=.tup [t,.str k]/\R t k:=by
 induction h with
 |nil=>exact λ_ m=>nomatch m
 |cons h _ ih =>
  intro u m;rcases uk.mp m with rfl|m
  .exact⟨_,_,rfl,h⟩
  .exact ih u m
section
variable(K:Kd)(kn:Str->Str->Prop)(cl:Str->List Str->Str->List T->Prop)
def Ty:Nat->T->Str->Prop
 |0,_,_=>False
 |n+1,t,k=>(∃x,kn x k/\t=exN x)\/(∃m ps ts,(∃kd∈K,kd.1=k/\(m,ps)∈kd.2)/\F2 (Ty n) ts ps/\t=exP "make" m ts)\/∃f ps ts,cl f ps k ts/\F2 (Ty n) ts ps/\t=exP "call" f ts
end
theorem Ty.mono{K:Kd}{kn gJ:Str->Str->Prop}{cl gn:Str->List Str->Str->List T->Prop}(h1:∀x k,kn x k->gJ x k)(h2:∀f ps k ts,cl f ps k ts->gn f ps k ts):∀{n m:Nat}{t:T}{k:Str},Ty K kn cl n t k->n<=m->Ty K gJ gn m t k
 |n+1,m+1,t,k,h,l=>by
  rcases h with⟨x,a,b⟩|⟨f,ps,ts,a,b,c⟩|⟨f,ps,ts,a,b,c⟩
  .exact .inl ⟨x,h1 _ _ a,b⟩
  .exact .inr (.inl ⟨f,ps,ts,a,b.imp λ_ _ q=>Ty.mono h1 h2 q (by lia),c⟩)
  .exact .inr (.inr ⟨f,ps,ts,h2 _ _ _ _ a,b.imp λ_ _ q=>Ty.mono h1 h2 q (by lia),c⟩)
theorem Fy:("call":Str)≠"make"/\("make":Str)≠"name"/\("call":Str)≠"name"/\("make":Str)≠"call":=by decide +kernel
abbrev SF:List Str:=["stock","heads","kinds_by_name","own","lessers"]
theorem OP:(("heads":Str) == "stock")=false/\(("kinds_by_name":Str) == "stock")=false/\(("kinds_by_name":Str) == "heads")=false/\(("own":Str) == "stock")=false/\(("own":Str) == "heads")=false/\(("own":Str) == "kinds_by_name")=false /\
  (("lessers":Str) == "stock")=false/\(("lessers":Str) == "heads")=false/\(("lessers":Str) == "kinds_by_name")=false/\(("lessers":Str) == "own")=false:=by decide +kernel
section
variable{a b c d e:T}
theorem JbY:EI SF [a,b,c,d,e] "stock"=some a:=by simp[EI]
theorem JbX:EI SF [a,b,c,d,e] "heads"=some b:=by simp[EI,OP]
theorem JbW:EI SF [a,b,c,d,e] "kinds_by_name"=some c:=by simp[EI,OP]
theorem JbV:EI SF [a,b,c,d,e] "own"=some d:=by simp[EI,OP]
theorem JbU:EI SF [a,b,c,d,e] "lessers"=some e:=by simp[EI,OP]
end
structure Sco where
 z7:Addr
 z8:Addr
 K:Kd
 hk:List Key
 hv:List T
 xk:List Key
 xv:List T
 own:Str
 ls:List Str
abbrev Sco.t(s:Sco):T:=.ins s.z7 SF [stT s.z8 s.K,.l s.hk s.hv,.l s.xk s.xv,.str s.own,.lst (s.ls.map exN)]
structure SOk(s:Sco)(kn:Str->Str->Prop)(cl:Str->List Str->Str->List T->Prop):Prop where
 W:Well s.K
 nm:∀x k,kn x k->BR s.xk s.xv (.inr x:Key)=some (.str k)
 hd:∀f ps k ts,cl f ps k ts->BR s.hk s.hv (.inr f:Key)=some (.tup [.tup (ps.map .str),.str k])/\(f=s.own->∃x∈s.ls,ts[0]?=some (exN x))
section
variable{s:Sco}{kn:Str->Str->Prop}{cl:Str->List Str->Str->List T->Prop}
theorem BN{x:Str}{t:T}(h:BR s.xk s.xv (.inr x:Key)=some t):∃τ,A4 s.z7 [vl s.t,vl (.str x)]=.ok (.t t) τ:=by apply AX;unfold BI;trivial
theorem TC(W:Well s.K){m:Str}{ps:List Str}{kd:Str×List (Str×List Str)}(hk:kd∈s.K)(hr:(m,ps)∈kd.2):∃τ,As s.z7 s.z8 [vl s.t,vl (.str "make"),vl (.str m)]=.ok (.t (.tup [.tup (ps.map .str),.str kd.1])) τ:=by obtain⟨_,h1⟩:=E6 (C:=s.z8) (hs:=CP s.K) W hk hr;have h2:=MC (C:=s.z8) W hk hr;apply AX;unfold AM;trivial
theorem TH{f:Str}{t:T}(h:BR s.hk s.hv (.inr f:Key)=some t):∃τ,As s.z7 s.z8 [vl s.t,vl (.str "call"),vl (.str f)]=.ok (.t t) τ:=by apply AX;unfold AM;trivial
theorem IG(x:Str):∀ls:List Str,Rm (exN x) (ls.map exN)=some (decide (x∈ls))
 | []=>by simp[Rm]
 |y::ls=>by
  have e:eqT 9 (exN y) (exN x)=some (decide (y=x)):=by unfold exN;rw[Uo];simp only[KW,NY];by_cases h:y=x<;>simp[h]
  rw[tR,Rm,e,IG x ls];by_cases h:y=x
  .simp[h]
  .have h2:¬x=y:=λz=>h z.symm
   simp[h,h2]
theorem ninT{x:Str}{ls:List Str}{fs:FS}(h:x∈ls):LY (.t (exN x)) (.t (.lst (ls.map exN))) fs=.ok (.t (.v false)) fs:=by unfold LY;simp only[Df,uZ,IG,h,decide_true];rfl
theorem A1(O:SOk s kn cl):∀(n:Nat)(t:T)(k:Str),Ty s.K kn cl n t k->∃τ,Au s.z7 s.z8 n [vl s.t,vl t]=.ok (.t (.str k)) τ
 |n+1,t,k,h=>by
  have key:(∃x,kn x k/\t=exN x)\/∃f m ps ts,(∃τ,As s.z7 s.z8 [vl s.t,vl (.str f),vl (.str m)]=.ok (.t (.tup [.tup (ps.map .str),.str k])) τ)/\f≠"name"/\(f="call"->m=s.own->∃x∈s.ls,ts[0]?=some (exN x))/\F2 (λt k=>∃τ,Au s.z7 s.z8 n [vl s.t,vl t]=.ok (.t (.str k)) τ) ts ps/\t=exP f m ts:=by
   have lp:=λt k=>A1 O n t k
   rcases h with h|⟨m,ps,ts,⟨kd,m1,rfl,m2⟩,b,rfl⟩|⟨f,ps,ts,a,b,rfl⟩
   .exact .inl h
   .exact .inr ⟨_,m,ps,ts,TC O.W m1 m2,Fy.2.1,λh=>absurd h Fy.2.2.2,b.imp lp,rfl⟩
   .exact .inr ⟨_,f,ps,ts,TH (O.hd f ps k ts a).1,Fy.2.2.1,λ_=>(O.hd f ps k ts a).2,b.imp lp,rfl⟩
  clear h;apply AX;unfold AI;rcases key with⟨x,a,rfl⟩|⟨f,m,ps,ts,⟨_,e⟩,hf,ho,b,rfl⟩
  .obtain⟨_,e⟩:=BN (s:=s) (O.nm x k a);unfold exN;trivial
  .have hl:=b.len;unfold exP;trivial;apply LB
   .by_cases h1:f="call"
    .apply Mm;trivial
     .simp[h1]
     by_cases h2:m=s.own
     .obtain⟨x,mx,ex⟩:=ho h1 h2;have e1:atI ts 0=some (exN x):=BF ex;apply Mm;trivial
      .simp[h2]
      trivial
     .apply Mo;trivial
      .simp[h2]
    .apply Mo;trivial
   trivial;apply MK (Pe:=λu=>∃t k,u=.tup [t,.str k]/\∃τ,Au s.z7 s.z8 n [vl s.t,vl t]=.ok (.t (.str k)) τ) (I:=λfs=>∃y7 y8,fs=[vl s.t,vl (exP f m ts),vl (.str f),vl (.str m),vl (.tup ts),vl (.tup (ps.map .str)),vl (.str k),y7,y8]/\Fre y7/\Fre y8)
   .trivial
   .exact b.prs
   .exact⟨_,_,rfl,True.intro,True.intro⟩
   .rintro _ _ ⟨t,z,rfl,_,h⟩ ⟨y7,y8,rfl,f7,f8⟩
    trivial;exact⟨_,_,rfl,True.intro,True.intro⟩
   .rintro _ ⟨y7,y8,rfl,f7,f8⟩
    trivial
end
abbrev RM(x:Str):Prop:=A2 [vl (.str x)]=.ok (.t (.v true)) [vl (.str x)]
abbrev ky(x:Str):Key:=.inr x
theorem Ri{xs D R:List Str}{a:Str}(e:D++a::R=xs)(nd:xs.Nodup):a∉D:=λm=>(tQ.mp (e▸nd)).2.2 a m a uj rfl
theorem mem_mid{α:Type}{xs D R:List α}{a:α}(e:D++a::R=xs):a∈xs:=by rw[<- e];simp
theorem Cp{α:Type}{xs D R:List α}{a:α}(e:D++a::R=xs):D.length<xs.length:=by rw[<- e];simp
theorem B6{xs:List Str}(nd:xs.Nodup)(hn:∀x∈xs,RM x)(hl:xs.length<=1000):∃τ,BW [vl (.lst (xs.map .str))]=.ok (.t .o) τ:=by
 apply Ia;unfold D5;trivial;apply Ep (I:=λ(D:List Str) fs=>∃(vs:List T)(y2:Option Sl),fs=[vl (.lst (xs.map .str)),some (.own (.l (D.map ky) vs)),y2]/\Fre y2)
 .trivial
 .exact⟨_,_,rfl,True.intro⟩
 .rintro D x R _ e ⟨vs,y2,rfl,f2⟩
  have hx:=hn x (mem_mid e);have nx:=GI (Ri e nd);have nv:=BJ (ts:=vs) nx;have:=Cp e;trivial
  .simp[nv]
  trivial;exact⟨_,_,by rw[tU];rfl,Am⟩
 .intro fs h;trivial
section
variable{z8:Addr}{K:Kd}(W:Well K)
include W
theorem DT{x:Str}(hx:x∉mks K):∃τ,Dc z8 [vl (stT z8 K),vl (.str x)]=.ok (.t (.v false)) τ:=by
 obtain⟨_,h1⟩:=HV (C:=z8) (K:=K) (hs:=CP K);have h2:=λkd (m:kd∈K)=>(D9 (C:=z8) (hs:=CP K) W m).choose_spec
 simp only[uD,Function.comp_def]at h1;have hl:=W.hi;apply AX;unfold GV;trivial;apply Yn
 .trivial
 .intro kd m;have h2:=h2 kd m;trivial
 .exact uz hl (by decide)
 trivial;congr 2;refine vZ.mpr λkd m=>?_
 have:x∉kd.2.map (·.1):=λh=>hx (u0.mpr ⟨kd,m,h⟩)
 simp[this]
end
structure Fd where
 nm:Str
 ks:List Str
 k:Str
 z6:List Str
 rows:List (Str×List Str×T)
noncomputable def rwT(r:Str×List Str×T):T:=.tup [.tup (r.2.1.map .str),r.2.2]
abbrev Fd.t(g:Fd):T:=.tup [.str g.nm,.tup (g.ks.map .str),.str g.k,.tup (g.z6.map .str),.tup (g.rows.map rwT)]
section
variable{z8:Addr}{K:Kd}(W:Well K)
include W
theorem CA{g:Fd}{hk:List Key}{hv:List T}{kd:Str×List (Str×List Str)}{ks:List Str}(gd:kd∈K)(hn:RM g.nm)(m8:ky g.nm∉hk)(iH:g.nm∉mks K)(eT:g.ks=kd.1::ks)(ho:g.z6.length=ks.length)(h2:ks.length<=2)(hr:g.rows.length=kd.2.length)(mX:∀x∈g.ks++[g.k],x∈K.map (·.1)) :
  ∃τ,Ce z8 [vl (stT z8 K),vl (.l hk hv),vl g.t]=.ok (.t .o) τ:=by
 obtain⟨_,h1⟩:=HV (C:=z8) (K:=K) (hs:=CP K);obtain⟨_,h3⟩:=D9 (C:=z8) (hs:=CP K) W gd;obtain⟨_,h4⟩:=DT (z8:=z8) W iH;have nv:=BJ (ts:=hv) m8;obtain⟨nm,sN,k,z6,rows⟩:=g;simp only at hn m8 iH eT ho hr mX h4 nv;subst eT;apply Ia;unfold Eu;trivial
 .apply U9;trivial
  .simp[nv]
  trivial
 trivial;apply MK (Pe:=λu=>∃x,u=.str x/\x∈K.map (·.1)) (I:=λfs=>∃y8,fs=[vl (stT z8 K),vl (.l hk hv),vl (Fd.t ⟨nm,kd.1::ks,k,z6,rows⟩),vl (.str nm),vl (.tup ((kd.1::ks).map .str)),vl (.str k),vl (.tup (z6.map .str)),vl (.tup (rows.map rwT)),y8]/\Fre y8)
 .trivial
 .intro u m;have m:u∈((kd.1::ks)++[k]).map T.str:=by rw[tU];exact m
  obtain⟨x,mx,rfl⟩:=ug.mp m;exact⟨x,rfl,mX x mx⟩
 .exact⟨_,rfl,True.intro⟩
 .rintro _ _ ⟨x,rfl,mx⟩ ⟨y8,rfl,f8⟩
  trivial
  .simp only[mx];rfl
  trivial;exact⟨_,rfl,True.intro⟩
 .rintro _ ⟨y8,rfl,f8⟩
  trivial
  .simp[ho]
  trivial
  .simp[hr]
  trivial
end
theorem Gx{c:Addr}{A B D E F:T}:∃τ,BO c [some (.bor (.ins c [] [])),vl A,vl B,vl D,vl E,vl F]=.ok (.t .o) (some (.bor (.ins c SF [.val A,.val B,.val D,.val E,.val F]))::τ):=by apply ZZ;unfold Ex;trivial
section
variable{z7 z8:Addr}{K:Kd}{nm k:Str}{ks z6:List Str}{rows:List T}{hk:List Key}{hv:List T}{kd:Str×List (Str×List Str)}{m:Str}{ys ps:List Str}{body:T}{kn:Str->Str->Prop}{cl:Str->List Str->Str->List T->Prop}{kf:Str->Str}
theorem C5(O:SOk ⟨z7,z8,K,hk,hv,(ys++z6).map ky,ps.map .str++ks.map .str,nm,ys.filter λx=>decide (kf x=kd.1)⟩ kn cl)(iG:∀x∈ys,BR ((ys++z6).map ky) (ps.map .str++ks.map .str) (ky x)=some (.str (kf x)))(gd:kd∈K)(hm:(m,ps)∈kd.2)(hl:ys.length=ps.length)(ho:z6.length=ks.length)(nd:(ys++z6).Nodup)(hn:∀x∈ys++z6,RM x)(hb:ys.length<=2/\z6.length<=2)(ht:Ty K kn cl 20 body k) :
  ∃τ,CJ z7 z8 [vl (stT z8 K),vl (.l hk hv),vl (.tup [.str nm,.tup ((kd.1::ks).map .str),.str k,.tup (z6.map .str),.tup rows]),vl (.str m),vl (.tup [.tup (ys.map .str),body])]=.ok (.t .o) τ:=by
 obtain⟨_,h1⟩:=E6 (C:=z8) (hs:=CP K) O.W gd hm;obtain⟨_,h2⟩:=B6 nd hn (by simp;lia);obtain⟨_,h3⟩:=Gx (c:=z7) (A:=stT z8 K) (B:=.l hk hv) (D:=.l ((ys++z6).map ky) (ps.map .str++ks.map .str)) (E:=.str nm) (F:=.lst ((ys.filter λx=>decide (kf x=kd.1)).map exN));obtain⟨_,h4⟩:=A1 O 20 body k ht;rw[tU]at h2;apply Ia;unfold FV;trivial
 .exact congrArg some tU.symm
 trivial
 .exact nd
 .simp[hl,ho]
 trivial
 .apply K9
  .trivial
  .intro x mx;have:=iG x mx;trivial
  .intro x mx _;trivial
  .lia
 trivial
end
abbrev PF:List Str:=["stock","heads","rows_by_function"]
theorem MT:(("heads":Str) == "stock")=false/\(("rows_by_function":Str) == "stock")=false/\(("rows_by_function":Str) == "heads")=false:=by decide +kernel
section
variable{a b c:T}{x y z w:FO}
theorem Jb1:EI PF [a,b,c] "heads"=some b:=by simp[EI,MT]
theorem Jb0:Bh PF [x,y,z] "heads"=some y:=by simp[Bh,MT]
theorem JbZ:Bh PF [x,y,z] "rows_by_function"=some z:=by simp[Bh,MT]
theorem Jch:BB PF [x,y,z] "heads" w=[x,w,z]:=by simp[BB,MT]
theorem Jcg:BB PF [x,y,z] "rows_by_function" w=[x,y,w]:=by simp[BB,MT]
end
abbrev hkD(D:List Fd):List Key:=D.map λg=>ky g.nm
abbrev hvT(g:Fd):T:=.tup [.tup (g.ks.map .str),.str g.k]
abbrev hvD(D:List Fd):List T:=D.map hvT
noncomputable def rvT(g:Fd)(r:Str×List Str×T):T:=.tup [.tup (r.2.1.map .str++g.z6.map .str),r.2.2]
abbrev kyR(r:Str×List Str×T):Key:=ky r.1
noncomputable def rwD(g:Fd):FO:=.l (g.rows.map kyR) (g.rows.map (rvT g))
structure ROk(K:Kd)(D:List Fd)(g:Fd)(kd:Str×List (Str×List Str))(ks:List Str)(r:Str×List Str×T):Prop where
 two:r.2.1.length<=2
 nd:(r.2.1++g.z6).Nodup
 nm:∀x∈r.2.1++g.z6,RM x
 ex:∃(ps:List Str)(kn:Str->Str->Prop)(cl:Str->List Str->Str->List T->Prop)(kf:Str->Str),(r.1,ps)∈kd.2/\r.2.1.length=ps.length/\(∀z7 z8,SOk ⟨z7,z8,K,hkD (D++[g]),hvD (D++[g]),(r.2.1++g.z6).map ky,ps.map .str++ks.map .str,g.nm,r.2.1.filter λx=>decide (kf x=kd.1)⟩ kn cl)/\(∀x∈r.2.1,BR ((r.2.1++g.z6).map ky) (ps.map .str++ks.map .str) (ky x)=some (.str (kf x)))/\Ty K kn cl 20 r.2.2 g.k
structure FOk(K:Kd)(D:List Fd)(g:Fd):Prop where
 nm:RM g.nm
 new:g.nm∉D.map Fd.nm
 yH:g.nm∉mks K
 ind:∀x∈g.ks++[g.k],x∈K.map (·.1)
 ex:∃kd ks,kd∈K/\g.ks=kd.1::ks/\g.z6.length=ks.length/\ks.length<=2/\g.rows.map (·.1)=kd.2.map (·.1)/\∀r∈g.rows,ROk K D g kd ks r
theorem GC:∀R:List (Str×List Str×T),FL.pairs ((R.map (·.1)).map .str) (R.map rwT)=R.map λr=>.tup [.str r.1,rwT r]
 | []=>rfl
 |r::R=>by simp only[tR,FL.pairs,GC R]
section
variable{cP z7 z8:Addr}{K:Kd}{g:Fd}{D:List Fd}{x2:Option Sl}
theorem kyD{x:Str}(h:x∉D.map Fd.nm):ky x∉hkD D:=by have:=GI h;rwa[uD]at this
theorem Ig(W:Well K){G:List Fd}{F:T}(hF:F=.lst (G.map Fd.t)\/F=.tup (G.map Fd.t)\/F=.zY (G.map Fd.t))(hl:G.length<=100)(aP:G≠[])(hG:∀A g B,A++g::B=G->FOk K A g) :
  ∃τ,BH cP z7 z8 [some (.bor (.ins cP [] [])),vl (stT z8 K),vl F]=.ok (.t .o) (some (.bor (.ins cP PF [.val (stT z8 K),.l (hkD G) (hvD G),.dO (hkD G) (G.map rwD)]))::τ):=by
 apply ZZ;unfold Ds;trivial;apply Ep (I:=λD fs=>∃RO y3 y4 y5 y6 y7 y8 y9 aX,fs=[some (.bor (.ins cP PF [.val (stT z8 K),.l (hkD D) (hvD D),RO])),vl (stT z8 K),vl F,y3,y4,y5,y6,y7,y8,y9,aX]/\Yz RO=some (hkD D,D.map rwD)/\(D≠[]->RO=.dO (hkD D) (D.map rwD))/\Fre y3/\Fre y4/\Fre y5/\Fre y6/\Fre y7/\Fre y8/\Fre y9/\Fre aX) (xs:=G) (p:=Fd.t)
 .apply Vd;trivial;exact hF
 .exact⟨_,_,_,_,_,_,_,_,_,rfl,rfl,λh=>absurd rfl h,True.intro,True.intro,True.intro,True.intro,True.intro,True.intro,True.intro,True.intro⟩
 .rintro D g R _ e ⟨RO,y3,y4,y5,y6,y7,y8,y9,aX,rfl,hR,_,f3,f4,f5,f6,f7,f8,f9,f10⟩
  have hD:=Cp e;have O:=hG D g R e;obtain⟨kd,ks,gd,eT,ho,h2,hr,ji⟩:=O.ex;have nk:=kyD O.new;have qU:g.rows.length=kd.2.length:=by simpa using congrArg List.length hr
  obtain⟨_,c1⟩:=CA (z8:=z8) (hk:=hkD D) (hv:=hvD D) W gd O.nm nk O.yH eT ho h2 qU O.ind;obtain⟨_,h3⟩:=D9 (C:=z8) (hs:=CP K) W gd;trivial;apply Ep (I:=λQ fs=>∃y9 aX,fs=[some (.bor (.ins cP PF [.val (stT z8 K),.l (hkD D++[ky g.nm]) (hvD D++[hvT g]),.dO (hkD D++[ky g.nm]) (D.map rwD++[.l (Q.map kyR) (Q.map (rvT g))])])),vl (stT z8 K),vl F,vl g.t,vl (.str g.nm),vl (.tup (g.ks.map .str)),vl (.str g.k),vl (.tup (g.z6.map .str)),vl (.tup (g.rows.map rwT)),y9,aX]/\Fre y9/\Fre aX) (xs:=g.rows) (p:=λr=>.tup [.str r.1,rwT r])
  case hi =>
   rw[<- GC,hr];have h0:atI (g.ks.map T.str) 0=some (.str kd.1):=by rw[eT];exact at0
   trivial
  case h0=>exact⟨_,_,rfl,f9,f10⟩
  case st =>
   rintro Q r Z _ e2 ⟨y9,aX,rfl,f9,f10⟩
   obtain⟨m,ys,body⟩:=r;have hq:=Cp e2;have Or:=ji _ (mem_mid e2);obtain⟨ps,kn,cl,kf,hm,dB,hS,iG,ht⟩:=Or.ex;have h4:=W.rw kd gd;have hy:ys.length<=2:=Or.two;have gg:g.z6.length<=2:=by lia
   have nr:ky m∉Q.map kyR:=by
    have nd:(g.rows.map (·.1)).Nodup:=by rw[hr];exact(W.part (vK gd).choose_spec.choose_spec.symm).2.2.2
    rw[<- e2,tU,tR]at nd;have:=GI (Ri rfl nd);rwa[uD]at this
   have hS:=hS z7 z8;rw[show hkD (D++[g])=hkD D++[ky g.nm]from tU,show hvD (D++[g])=hvD D++[hvT g]from tU]at hS;obtain⟨_,c2⟩:=C5 (rows:=g.rows.map rwT) hS iG gd hm dB ho Or.nd Or.nm ⟨Or.two,by lia⟩ ht;rw[<- eT]at c2;trivial;exact⟨_,_,by rw[tU,tU];rfl,Am,Am⟩
  case k =>
   rintro _ ⟨y9,aX,rfl,f9,f10⟩
   trivial;exact⟨_,_,_,_,_,_,_,_,_,by simp only[hkD,hvD,tU];rfl,by simp only[hkD,hvD,tU];rfl,λ_=>by simp only[hkD,hvD,tU];rfl,Am,Am,Am,Am,Am,Am,f9,f10⟩
 .rintro _ ⟨RO,y3,y4,y5,y6,y7,y8,y9,aX,rfl,hR,h,f3,f4,f5,f6,f7,f8,f9,f10⟩
  rw[h aP];trivial
end
section
variable{K:Kd}(W:Well K){kn:Str->Str->Prop}{cl:Str->List Str->Str->List T->Prop}
abbrev kT(K:Kd):T:=.lst (K.map A9)
include W
theorem least:∀(d n:Nat),d<n->∀D kd R,D++kd::R=K->D.length<=d->∃t,(∃τ,Ci n [vl (kT K),vl (.str kd.1)]=.ok (.t t) τ)/\Ty K kn cl (d+1) t kd.1
 |d,n+1,hn,D,kd,R,e,hd=>by
  have hk:=mem_mid e;obtain⟨_,h1⟩:=makers W hk;obtain⟨r,rs,er⟩:=List.exists_cons_of_length_pos (W.rw kd hk).1;have hr:r∈kd.2:=by rw[er];exact uj
  have h2:=W.two kd hk r hr;obtain⟨vs,hv⟩:∃vs,F2 (λp v=>(∃τ,Ci n [vl (kT K),vl (.str p)]=.ok (.t v) τ)/\Ty K kn cl d v p) r.2 vs:=Ul λp mp=>by
   have mp:=W.gr D kd R e.symm r (by rw[er];rfl) p mp;obtain⟨kp,mk,rfl⟩:=ug.mp mp;obtain⟨A,B,rfl⟩:=vK mk;rw[uH,uC]at hd;obtain⟨d,rfl⟩:∃e,d=e+1:=⟨d-1,by lia⟩
   exact least d n (by lia) A kp (B++kd::R) (by rw[<- e];simp) (by lia)
  rw[er]at h1;refine⟨exP "make" r.1 vs,?_,.inr (.inl ⟨r.1,r.2,vs,⟨kd,hk,rfl,hr⟩,(hv.imp λ_ _ h=>h.2).flip,rfl⟩)⟩;apply AX;unfold HG;trivial
  .apply UA
   .trivial
   .exact hv.imp λp v ⟨⟨_,h⟩,_⟩=>by trivial
   .lia
  trivial
end
section
variable{K:Kd}(W:Well K){N:List (Str×Str)}{D:List Fd}
abbrev nK(N:List (Str×Str)):List Key:=N.map λp=>.inr p.1
abbrev nV(N:List (Str×Str)):List T:=N.map λp=>.str p.2
abbrev knN(N:List (Str×Str)):Str->Str->Prop:=λx k=>(x,k)∈N
abbrev clD(D:List Fd):Str->List Str->Str->List T->Prop:=λf ps k _=>∃g∈D,g.nm=f/\g.ks=ps/\g.k=k
theorem OF(nd:(N.map (·.1)).Nodup){p:Str×Str}(m:p∈N):BR (nK N) (nV N) (.inr p.1:Key)=some (.str p.2) :=
 Cu (f:=λp:Str×Str=>(.inr p.1:Key)) (g:=λp=>T.str p.2) m (by have:=B2 nd;rwa[uD]at this)
theorem Ls(nd:(D.map Fd.nm).Nodup){g:Fd}(m:g∈D):BR (hkD D) (hvD D) (.inr g.nm:Key)=some (hvT g) :=
 Cu (f:=λg:Fd=>ky g.nm) (g:=hvT) m (by have:=B2 nd;rwa[uD]at this)
include W
theorem stream(n1:(N.map (·.1)).Nodup)(n2:(D.map Fd.nm).Nodup)(l1:N.length<=1000)(l2:D.length<=1000)(hN:∀p∈N,p.2∈K.map (·.1))(hD:∀g∈D,∀x∈g.ks,x∈K.map (·.1))(hK:K.length<=3)(h3:∀g∈D,g.ks.length<=100):∀(l n:Nat),l<n->∀kd∈K,∀num:Int,∃(e:T)(fR:Int),(∃τ,Bw n [vl (kT K),vl (.x (nK N) (nV N)),vl (.x (hkD D) (hvD D)),vl (.str kd.1),iv num,iv ((l+1:Nat):Int)]=.ok (.t (.lst [e,.int fR])) τ)/\Ty K (knN N) (clD D) (l+3) e kd.1
 |l,n+1,hn,kd,hk,num=>by
  obtain⟨A,B,eK⟩:=vK hk;have hA:A.length<=2:=by
   have:=congrArg List.length eK;simp at this
   lia
  obtain⟨lt,⟨_,h1⟩,ht⟩:=least (kn:=knN N) (cl:=clD D) W 2 8 (by lia) A kd B eK.symm hA;obtain⟨_,h2⟩:=makers W hk;have h4:=W.rw kd hk
  suffices hs:∃r τ,Bw (n+1) [vl (kT K),vl (.x (nK N) (nV N)),vl (.x (hkD D) (hvD D)),vl (.str kd.1),iv num,iv ((l+1:Nat):Int)]=.ok r τ/\∃(e:T)(fR:Int),r=.t (.lst [e,.int fR])/\Ty K (knN N) (clD D) (l+3) e kd.1 by obtain⟨_,τ,e,a,b,rfl,c⟩:=hs;exact⟨a,b,⟨τ,e⟩,c⟩
  apply Ib;unfold FX;trivial
  .apply K9
   .trivial
   .intro p mp;have:=OF n1 mp;trivial
   .intro p mp _;trivial
   .exact l1
  trivial
  .apply K9
   .trivial
   .intro g mg;have:=Ls n2 mg;trivial
   .intro g mg _;trivial
   .exact l2
  trivial;apply LC
  .apply Kh;trivial;apply Ra;trivial
  .intro hb;have aP:N.filter (λp=>decide (p.2=kd.1))≠[]:=λh=>by simp[h]at hb
   have g1:=vd.mpr aP;have g2:=uz (List.length_filter_le (λp=>decide (p.2=kd.1)) N) l1;obtain⟨p,mp,hp⟩:=CG aP (λp=>T.str p.1) (num/5);rw[<- tZ (f:=λp:Str×Str=>T.str p.1)]at g1 g2;obtain⟨mp,ep⟩:=va.mp mp;trivial;exact⟨_,_,rfl,.inl ⟨p.1,by rw[<- um ep];exact mp,rfl⟩⟩
  .intro _;trivial
   .exact⟨_,_,rfl,ht.mono (λ_ _ h=>h) (λ_ _ _ _ h=>h) (by lia)⟩
   intro hb;have hl:=of_decide_eq_false hb;obtain⟨l,rfl⟩:∃j,l=j+1:=⟨l-1,by lia⟩
   have aP:kd.2≠[]:=λh=>by simp[h]at h4
   obtain⟨r,mr,hr⟩:=CG aP EA (num/5);have g1:0<(kd.2.map EA).length:=by rw[tZ];lia
   trivial;apply Q2 (J:=λx:Str×Str×List Str=>[vl (kT K),vl (.x (nK N) (nV N)),vl (.x (hkD D) (hvD D)),vl (.str kd.1),iv (num/5),iv ((l+1+1:Nat):Int),vl (.lst ((N.filter λp=>decide (p.2=kd.1)).map λp=>T.str p.1)),vl (.lst ((D.filter λg=>decide (g.k=kd.1)).map λg=>T.str g.nm)),iv (num%5),vl (.str x.1),vl (.lst (kd.2.map EA)),vl (.str x.2.1),vl (.tup (x.2.2.map .str)),none,none,none]) (P:=λx=>(∀p∈x.2.2,p∈K.map (·.1))/\x.2.2.length<=100/\∀vs,F2 (Ty K (knN N) (clD D) (l+3)) vs x.2.2->Ty K (knN N) (clD D) (l+1+3) (exP x.1 x.2.1 vs) kd.1)
   .apply Kh;trivial
   .intro hb;have aP:D.filter (λg=>decide (g.k=kd.1))≠[]:=λh=>by simp[h]at hb
    have g1:=vd.mpr aP;obtain⟨g,mg,hg⟩:=CG aP (λg=>T.str g.nm) (num/5);rw[<- tZ (f:=λg:Fd=>T.str g.nm)]at g1;obtain⟨mg,eg⟩:=va.mp mg;have:=Ls n2 mg;refine⟨("call",g.nm,g.ks),⟨hD g mg,?_,λvs h=>.inr (.inr ⟨g.nm,g.ks,vs,⟨g,mg,rfl,rfl,um eg⟩,h,rfl⟩)⟩,?_⟩
    .exact h3 g mg
    .trivial
   .intro _;refine⟨("make",r.1,r.2),⟨W.zd kd hk r mr,uz (W.two kd hk r mr) (by decide),λvs h=>.inr (.inl ⟨r.1,r.2,vs,⟨kd,hk,rfl,mr⟩,h,rfl⟩)⟩,rfl⟩
   rintro⟨w,m,ps⟩ ⟨p1,p2,p3⟩
   trivial;apply Bo (I:=λZ fs=>∃(vs:List T)(nu:Int)(gP gQ:Option Sl),fs=[vl (kT K),vl (.x (nK N) (nV N)),vl (.x (hkD D) (hvD D)),vl (.str kd.1),iv nu,iv ((l+1+1:Nat):Int),vl (.lst ((N.filter λp=>decide (p.2=kd.1)).map λp=>T.str p.1)),vl (.lst ((D.filter λg=>decide (g.k=kd.1)).map λg=>T.str g.nm)),iv (num%5),vl (.str w),vl (.lst (kd.2.map EA)),vl (.str m),vl (.tup (ps.map .str)),some (.own (.lst vs)),gP,gQ]/\Fre gP/\Fre gQ/\F2 (Ty K (knN N) (clD D) (l+3)) vs Z) (xs:=ps) (p:=T.str)
   case hi=>trivial
   case h0=>exact⟨_,_,_,_,rfl,True.intro,True.intro,.nil⟩
   case st =>
    rintro Z p R _ e ⟨vs,nu,gP,gQ,rfl,f14,f15,hv⟩
    obtain⟨kp,mk,rfl⟩:=ug.mp (p1 _ (mem_mid e));obtain⟨v,tH,⟨_,h⟩,ht⟩:=stream n1 n2 l1 l2 hN hD hK h3 l n (by lia) kp mk nu;rw[show((l+1:Nat):Int)=((l+1+1:Nat):Int)-1 by lia]at h;have:=hv.len;have:=Cp e;simp only at p2;trivial;exact⟨_,_,_,_,rfl,Am,Am,hv.snoc ht⟩
   case k =>
    rintro _ ⟨vs,nu,gP,gQ,rfl,f14,f15,hv⟩
    trivial;exact⟨_,_,rfl,p3 vs hv⟩
end
section
variable{K:Kd}(W:Well K){N:List (Str×Str)}{D:List Fd}
include W
theorem grown(n1:(N.map (·.1)).Nodup)(n2:(D.map Fd.nm).Nodup)(l1:N.length<=1000)(l2:D.length<=1000)(hN:∀p∈N,p.2∈K.map (·.1))(hD:∀g∈D,∀x∈g.ks,x∈K.map (·.1))(hK:K.length<=3)(h3:∀g∈D,g.ks.length<=100){kd:Str×List (Str×List Str)}(hk:kd∈K)(num:Int):∃e:T,(∃τ,CK [vl (kT K),vl (.x (nK N) (nV N)),vl (.x (hkD D) (hvD D)),vl (.str kd.1),iv num,iv 3]=.ok (.t e) τ)/\Ty K (knN N) (clD D) 5 e kd.1:=by obtain⟨e,fR,⟨_,h⟩,ht⟩:=stream W n1 n2 l1 l2 hN hD hK h3 2 6 (by lia) kd hk num;refine⟨e,?_,ht⟩;apply AX;unfold HH;trivial
end
theorem put{K:Kd}{kn gJ:Str->Str->Prop}{cl gn:Str->List Str->Str->List T->Prop}{k0:Str}{o:T}{j:Nat}(hk:∀x k,gJ x k->(x=""/\k=k0)\/(x≠""/\kn x k))(hc:∀f ps k ts,cl f ps k ts->(∀dk,gn f ps k dk)/\ps.length<=100)(h2:∀kd∈K,∀r∈kd.2,r.2.length<=2)(ho:Ty K kn gn j o k0):∀m n,m<=n->∀t k,Ty K gJ cl m t k->∃t',(∃τ,Et n [vl t,vl (.str ""),vl o]=.ok (.t t') τ)/\Ty K kn gn (m+j) t' k
 |m+1,n+1,hn,t,k,h=>by
  have key:(∃x,gJ x k/\t=exN x)\/∃(f s:Str)(ps:List Str)(ts:List T),f≠"name"/\F2 (Ty K gJ cl m) ts ps/\ps.length<=100/\(∀vs,F2 (Ty K kn gn (m+j)) vs ps->Ty K kn gn (m+j+1) (exP f s vs) k)/\t=exP f s ts:=by
   rcases h with h|⟨s,ps,ts,⟨kd,m1,rfl,m2⟩,b,rfl⟩|⟨f,ps,ts,a,b,rfl⟩
   .exact .inl h
   .exact .inr ⟨_,s,ps,ts,Fy.2.1,b,uz (h2 kd m1 _ m2) (by decide),λvs hv=>.inr (.inl ⟨s,ps,vs,⟨kd,m1,rfl,m2⟩,hv,rfl⟩),rfl⟩
   .exact .inr ⟨_,f,ps,ts,Fy.2.2.1,b,(hc _ _ _ _ a).2,λvs hv=>.inr (.inr ⟨f,ps,vs,(hc _ _ _ _ a).1 vs,hv,rfl⟩),rfl⟩
  rcases key with⟨x,a,rfl⟩|⟨f,s,ps,ts,hf,b,hl,hT,rfl⟩
  .rcases hk x k a with⟨rfl,rfl⟩|⟨hx,jc⟩
   .refine⟨o,?_,ho.mono (λ_ _ h=>h) (λ_ _ _ _ h=>h) (by lia)⟩;apply AX;unfold Je exN;trivial
   .refine⟨exN x,?_,Ty.mono (n:=1) (λ_ _ h=>h) (λ_ _ _ _ h=>h) (.inl ⟨x,jc,rfl⟩) (by lia)⟩;apply AX;unfold Je exN;trivial
    .rw[if_neg (by simp[hx])];exact at0
    trivial
  .have go:∀{ts:List T}{ps:List Str},F2 (Ty K gJ cl m) ts ps->∃vs,F2 (λt v=>∃τ,Et n [vl t,vl (.str ""),vl o]=.ok (.t v) τ) ts vs/\F2 (Ty K kn gn (m+j)) vs ps:=λh=>by induction h with|nil=>exact⟨[],.nil,.nil⟩|cons h _ ih =>obtain⟨vs,a,b⟩:=ih;obtain⟨v,c,d⟩:=put hk hc h2 ho m n (by lia) _ _ h;exact⟨v::vs,.cons c a,.cons d b⟩
   obtain⟨vs,hv,hw⟩:=go b;have dB:=b.len;refine⟨exP f s vs,?_,by rw[Nat.add_right_comm];exact hT vs hw⟩;apply AX;unfold Je exP;trivial
   .apply Yp
    .trivial
    .exact hv.imp λt v ⟨_,h⟩=>by trivial
    .lia
   trivial
theorem Eb:∀xs ys:List Str,FL.pairs (xs.map .str) (ys.map .str)=(xs.zip ys).map λq=>.tup [.str q.1,.str q.2]
 | [],_=>by simp[FL.pairs]
 |x::xs,[]=>by simp[FL.pairs]
 |x::xs,y::ys=>by simp[FL.pairs,Eb xs ys]
noncomputable def cpE(own k:Str)(q:Str×Str):T:=if q.2=k then exP "call" own [exN q.1]else exN q.1
theorem Qr{own k m:Str}{ps ws:List Str}(h1:ps.length<=ws.length)(h2:ws.length<=100):∃τ,CL [vl (.str own),vl (.str k),vl (.str m),vl (.tup (ps.map .str)),vl (.lst (ws.map .str))]=.ok (.t (.tup [.tup ((ws.take ps.length).map .str),exP "make" m ((ws.zip ps).map (cpE own k))])) τ:=by
 apply AX;unfold FZ;trivial;apply Bo (I:=λZ fs=>∃y6 y7,fs=[vl (.str own),vl (.str k),vl (.str m),vl (.tup (ps.map .str)),vl (.lst (ws.map .str)),some (.own (.lst (Z.map (cpE own k)))),y6,y7]/\Fre y6/\Fre y7) (xs:=ws.zip ps) (p:=λq=>.tup [.str q.1,.str q.2])
 case hi =>rw[<- Eb];trivial
 case h0=>exact⟨_,_,rfl,True.intro,True.intro⟩
 case st =>
  rintro Z q R _ e ⟨y6,y7,rfl,f6,f7⟩
  have:=Cp e;rw[vP]at this;trivial
  .exact⟨vl (.str q.1),vl (.str q.2),by rw[tU];unfold cpE exP exN;simp at hb;simp[hb],Am,Am⟩
  trivial
  .exact⟨vl (.str q.1),vl (.str q.2),by rw[tU];unfold cpE exP exN;simp at hb;simp[hb],Am,Am⟩
 case k =>
  rintro _ ⟨y6,y7,rfl,f6,f7⟩
  trivial;rw[tZ,<- v5];rfl
abbrev clO(D:List Fd)(own:Str)(ps:List Str)(k:Str)(ls:List Str):Str->List Str->Str->List T->Prop:=λf qs k' ts=>clD D f qs k' ts\/(f=own/\qs=ps/\k'=k/\∃x∈ls,ts[0]?=some (exN x))
section
variable{K:Kd}(W:Well K){N:List (Str×Str)}{D:List Fd}
include W
theorem body(n1:(N.map (·.1)).Nodup)(n2:(D.map Fd.nm).Nodup)(l1:N.length<=100)(l2:D.length<=100)(hN:∀p∈N,p.2∈K.map (·.1))(hD:∀g∈D,∀x∈g.ks,x∈K.map (·.1))(hK:K.length<=3)(h3:∀g∈D,g.ks.length<=100){kd:Str×List (Str×List Str)}(hk:kd∈K){own w0:Str}{ws ls:List Str}(hw:∀x∈ws,x∈K.map (·.1))(lw:ws.length<=2)(ll:ls.length<=2)(qI:∀x∈ls,(x,w0)∈N)(aP:∀p∈N,p.1≠"")(dg:Int) :
  ∃e:T,(∃τ,Fz [vl (kT K),vl (.x (hkD D) (hvD D)),vl (.tup [.str own,.lst ((w0::ws).map .str),.str kd.1]),vl (.x (nK N) (nV N)),vl (.lst (ls.map .str)),iv dg]=.ok (.t e) τ)/\Ty K (knN N) (clO D own (w0::ws) kd.1 ls) 20 e kd.1:=by
 suffices hs:∃r τ,Fz [vl (kT K),vl (.x (hkD D) (hvD D)),vl (.tup [.str own,.lst ((w0::ws).map .str),.str kd.1]),vl (.x (nK N) (nV N)),vl (.lst (ls.map .str)),iv dg]=.ok r τ/\∃e:T,r=.t e/\Ty K (knN N) (clO D own (w0::ws) kd.1 ls) 20 e kd.1 by obtain⟨_,τ,e,a,rfl,c⟩:=hs;exact⟨a,⟨τ,e⟩,c⟩
 obtain⟨e1,⟨_,g1⟩,t1⟩:=grown W n1 n2 (by lia) (by lia) hN hD hK h3 hk (dg/8);apply Ib;unfold Ou;trivial;apply LC
 .apply Ra;trivial
 .intro _;trivial;exact⟨_,rfl,t1.mono (λ_ _ h=>h) (λ_ _ _ _ h=>.inl h) (by lia)⟩
 intro hb;have jg:ls≠[]:=λh=>by simp[h]at hb
 have p1:0<(ls.map T.str).length:=by rw[tZ];exact vd.mpr jg
 obtain⟨x,mx,hx⟩:=CG jg T.str (dg/4);have ne:(.inr "":Key)∉nK N:=λm=>by obtain⟨p,mp,e⟩:=ug.mp m;exact aP p mp (Sum.inr.inj e)
 trivial;apply Bo (I:=λZ fs=>∃(vs:List T)(d:Int)(cx dW:Option Sl),fs=[vl (kT K),vl (.x (hkD D) (hvD D)),vl (.tup [.str own,.lst ((w0::ws).map .str),.str kd.1]),vl (.x (nK N) (nV N)),vl (.lst (ls.map .str)),iv d,vl (.str own),vl (.lst ((w0::ws).map .str)),vl (.str kd.1),some (.own (.l (nK N++[.inr ""]) (nV N++[.str kd.1]))),some (.own (.lst (exN x::vs))),cx,dW]/\Fre cx/\Fre dW/\F2 (Ty K (knN N) (clD D) 4) vs Z) (xs:=ws) (p:=T.str)
 case hi=>trivial
 case h0=>exact⟨_,_,_,_,rfl,True.intro,True.intro,.nil⟩
 case st =>
  rintro Z p R _ e ⟨vs,d,cx,dW,rfl,f11,f12,hv⟩
  obtain⟨kp,mk,rfl⟩:=ug.mp (hw _ (mem_mid e));obtain⟨v,d',⟨_,h⟩,ht⟩:=stream W n1 n2 (by lia) (by lia) hN hD hK h3 1 6 (by lia) kp mk d;have:=hv.len;have:=Cp e;trivial;exact⟨vs++[v],_,_,_,rfl,Am,Am,hv.snoc ht⟩
 case k =>
  rintro _ ⟨vs,d,cx,dW,rfl,f11,f12,hv⟩
  obtain⟨e2,⟨_,g2⟩,t2⟩:=grown (N:=N++[(("":Str),kd.1)]) (D:=D) W (by
   rw[tU];exact tQ.mpr ⟨n1,by simp,λa ma b mb e=>by obtain⟨p,mp,rfl⟩:=ug.mp ma;exact aP p mp (by rw[e];simpa using mb)⟩) n2 (by simp;lia) (by lia) (λp mp=>by
   rcases tW.mp mp with mp|mp
   .exact hN p mp
   .rw[ub.mp mp];exact ug.mpr ⟨kd,hk,rfl⟩) hD hK h3 hk d
  rw[show nK (N++[((("":Str)),kd.1)])=nK N++[.inr ""]from tU,show nV (N++[((("":Str)),kd.1)])=nV N++[.str kd.1]from tU]at g2;have to:Ty K (knN N) (clO D own (w0::ws) kd.1 ls) 5 (exP "call" own (exN x::vs)) kd.1:=.inr (.inr ⟨own,w0::ws,_,.inr ⟨rfl,rfl,rfl,x,mx,rfl⟩,.cons (.inl ⟨x,qI x mx,rfl⟩) (hv.imp λ_ _ h=>h.mono (λ_ _ h=>h) (λ_ _ _ _ h=>.inl h) (uh _)),rfl⟩);obtain⟨e3,⟨_,g3⟩,t3⟩:=put (kn:=knN N) (gJ:=knN (N++[((("":Str)),kd.1)])) (cl:=clD D) (k0:=kd.1) (λz k h=>by
   rcases tW.mp h with h|h
   .exact .inr ⟨aP _ h,h⟩
   .have:=ub.mp h;cases this;exact .inl ⟨rfl,rfl⟩) (λf ps k ts h=>⟨λ_=>.inl h,by obtain⟨g,m,_,rfl,_⟩:=h;exact h3 g m⟩) W.two to 5 20 (by lia) e2 kd.1 t2
  unfold exP at g3;trivial;exact⟨_,rfl,t3.mono (λ_ _ h=>h) (λ_ _ _ _ h=>h) (by lia)⟩
end
theorem Mi{xs ys:List Str}(h:xs.length=ys.length):nK (xs.zip ys)=xs.map λx=>(.inr x:Key):=by
 have:=vA (l₁:=xs) (l₂:=ys) (by lia)
 conv=>rhs;rw[<- this,uD]
 rfl
theorem Mg{xs ys:List Str}(h:xs.length=ys.length):nV (xs.zip ys)=ys.map T.str:=by
 have:=List.map_snd_zip (l₁:=xs) (l₂:=ys) (by lia)
 conv=>rhs;rw[<- this,uD]
 rfl
theorem U7{α β:Type}{xs:List α}{ys:List β}{p:α->T}{q:β->T}{fs:FS}(h:ys.length<=xs.length):Jm (.t (.lst (xs.map p))) none (some ((ys.map q).length:Int)) fs=.ok (.t (.lst ((xs.take ys.length).map p))) fs:=by rw[RS (by rw[tZ,tZ];exact h),tZ,v5]
theorem Wds.nd{n:Int}{vs:List Str}(h:Wds n vs)(hl:vs.length<=26):vs.Nodup :=
 uV.mpr λi j hi hj dz e=>by
  have:=h.inj hl (tO hi) (by rw[e];exact tO hj)
  lia
theorem F2.r{α β:Type}{R:α->β->Prop}{as:List α}{bs:List β}(h:F2 R as bs):∀b∈bs,∃a,R a b:=by
 induction h with
 |nil=>exact λ_ m=>nomatch m
 |cons h _ ih =>
  intro b m;rcases uk.mp m with rfl|m
  .exact⟨_,h⟩
  .exact ih b m
structure Fun1(K:Kd)(D:List Fd)(g:Fd):Prop where
 ind:∀x∈g.ks++[g.k],x∈K.map (·.1)
 ex:∃kd ks,kd∈K/\g.ks=kd.1::ks/\g.z6.length=ks.length/\ks.length<=2/\g.rows.map (·.1)=kd.2.map (·.1)/\∀r∈g.rows,ROk K D g kd ks r
theorem QX{K:Kd}(W:Well K){D:List Fd}{own m k1:Str}{names z6 ps kn:List Str}{kd:Str×List (Str×List Str)}{X:List (Str×List Str×T)}{e:T}(n2:(D.map Fd.nm).Nodup)(ho:own∉D.map Fd.nm)(hr:(m,ps)∈kd.2)(ln:names.length=ps.length)(lo:z6.length=kn.length)(l2:names.length<=2)(nd:(names++z6).Nodup)(nm:∀x∈names++z6,RM x)
  (te:Ty K (knN ((names++z6).zip (ps++kn))) (clO D own (kd.1::kn) k1 (((names.zip ps).filter λq=>decide (q.2=kd.1)).map (·.1))) 20 e k1):ROk K D ⟨own,kd.1::kn,k1,z6,X⟩ kd kn (m,names,e):=by
 have lN:(names++z6).length=(ps++kn).length:=by simp;lia
 have z1:=Mi lN;have z2:=Mg lN;have z3:=List.zip_append (l₁:=names) (l₂:=ps) (r₁:=z6) (r₂:=kn) ln;have val:∀x k,(x,k)∈(names++z6).zip (ps++kn)->BR ((names++z6).map ky) (ps.map .str++kn.map .str) (ky x)=some (.str k):=λx k h=>by have:=OF (by rw[vA (by lia)];exact nd) h;rwa[z1,z2,tU (f:=T.str)]at this
 obtain⟨kf,iG⟩:∃kf:Str->Str,∀x k,(x,k)∈(names++z6).zip (ps++kn)->kf x=k:=⟨λx=>match BR ((names++z6).map ky) (ps.map .str++kn.map .str) (ky x)with|some (.str k)=>k|_=>"",λx k h=>by simp only[val x k h]⟩
 have n3:∀X,((D++[(⟨own,kd.1::kn,k1,z6,X⟩:Fd)]).map Fd.nm).Nodup:=λX=>by rw[tU];exact tQ.mpr ⟨n2,by simp,λa ma b mb e=>ho (by have hb:b=own:=ub.mp mb;rw[<- hb,<- e];exact ma)⟩
 refine⟨l2,nd,nm,ps,_,_,kf,hr,ln,λz7 z8=>⟨W,val,λf qs k ts h=>?_⟩,λx mx=>?_,te⟩
 .rcases h with⟨g,mg,rfl,rfl,rfl⟩|⟨rfl,rfl,rfl,x,mx,ex⟩
  .exact⟨Ls (n3 X) (ud _ mg),λh=>absurd (ug.mpr ⟨g,mg,h⟩) ho⟩
  .refine⟨Ls (n3 X) (ue _ (ub.mpr rfl)),λ_=>⟨x,?_,ex⟩⟩;obtain⟨⟨a,b⟩,mq,rfl⟩:=ug.mp mx;obtain⟨mq,eq⟩:=va.mp mq;have eq:=um eq;exact va.mpr ⟨(vG mq).1,uE ((iG a b (by rw[z3];exact ud _ mq)).trans eq)⟩
 .have:x∈(names.zip ps).map (·.1):=by rw[vA (by lia)];exact mx
  obtain⟨⟨a,b⟩,mq,rfl⟩:=ug.mp this;have mq:(a,b)∈(names++z6).zip (ps++kn):=by rw[z3];exact ud _ mq
  rw[iG a b mq];exact val a b mq
section
variable{K:Kd}(W:Well K){D:List Fd}
include W
theorem JQ(num:Int):∃kd∈K,atI (K.map A9) (num%((K.map A9).length:Int))=some (A9 kd):=CG (λh=>by have:=W.lo;simp[h]at this) A9 num
theorem function(n2:(D.map Fd.nm).Nodup)(l2:D.length<=100)(hD:∀g∈D,∀x∈g.ks,x∈K.map (·.1))(hK:K.length<=3)(h3:∀g∈D,g.ks.length<=100){own:Str}(ho:own∉D.map Fd.nm)(num:Int) :
  ∃g:Fd,g.nm=own/\Fun1 K D g/\∃τ,B5 [vl (kT K),vl (.str own),vl (.x (hkD D) (hvD D)),iv num]=.ok (.t g.t) τ:=by
 obtain⟨pl,wd,_,w1,w2,hw⟩:=words (num/11) (c:=4) (by lia);have Wd:Wds (num/11) wd:=⟨pl,w2⟩
 obtain⟨c,hc,ec⟩:∃c:Nat,c<=2/\1+num%3=((1+c:Nat):Int):=⟨(num%3).toNat,by lia,by lia⟩
 obtain⟨kds,hkds⟩:∃kds,F2 (λ(i:Nat) kd=>i<1+c/\kd∈K/\atI (K.map A9) (num/(3+2*(i:Int))%((K.map A9).length:Int))=some (A9 kd)) (List.range (1+c)) kds:=Ul λi m=>let⟨kd,a,b⟩:=JQ W (num/(3+2*(i:Int)));⟨kd,vj.mp m,a,b⟩
 obtain⟨k1,nJ,sS⟩:=JQ W (num/100);have kl:0<(K.map A9).length:=by rw[tZ];exact W.lo
 have lk:=hkds.len;rw[uW]at lk;obtain⟨kd,ks,rfl⟩:∃kd ks,kds=kd::ks:=by cases kds with|nil=>simp at lk|cons a b=>exact⟨a,b,rfl⟩
 suffices hs:∃r τ,B5 [vl (kT K),vl (.str own),vl (.x (hkD D) (hvD D)),iv num]=.ok r τ/\∃g:Fd,r=.t g.t/\g.nm=own/\Fun1 K D g by obtain⟨_,τ,e,g,rfl,a,b⟩:=hs;exact⟨g,a,b,τ,e⟩
 apply Ib;unfold FY;trivial
 .lia
 trivial
 .apply UA
  .trivial
  .exact F2.Jah (f:=λkd:Str×List (Str×List Str)=>T.str kd.1) (hkds.imp λi kd ⟨hi,m,h⟩=>by trivial)
  .simp;lia
 trivial
 .apply YZ (n:=2) (m:=1+(1+c))
  .rfl
  .simp at lk ⊢;lia
  .exact⟨by lia,by rw[tZ];lia⟩
 trivial;rw[<- List.map_drop,<- v5,show 1+(1+c)-2=c by lia,show(kd::ks).map (λkd=>T.str kd.1)=(kd.1::ks.map (·.1)).map T.str by simp];have mk:kd∈K:=let⟨_,_,h,_⟩:=hkds.r kd uj;h;have mks:∀x∈ks.map (·.1),x∈K.map (·.1):=λx mx=>by obtain⟨z,mz,rfl⟩:=ug.mp mx;obtain⟨_,_,h,_⟩:=hkds.r z (tV _ mz);exact ug.mpr ⟨z,h,rfl⟩
 obtain⟨z6,hoth⟩:∃z6,z6=(wd.drop 2).take c:=⟨_,rfl⟩
 obtain⟨kn,jc⟩:∃kn,kn=ks.map (·.1):=⟨_,rfl⟩
 have tu:kn.length=c:=by rw[jc];simp at lk ⊢;lia
 have lo:z6.length=c:=by rw[hoth];simp;lia
 rw[<- jc]at mks ⊢;rw[<- hoth];obtain⟨_,sV⟩:=makers W mk;apply Bo (I:=λ(Z:List ((Str×List Str)×Nat)) fs=>∃(rows:List (Str×List Str×T))(nu:Int)(y9 aX cx dW gi gP gQ:Option Sl),fs=[vl (kT K),vl (.str own),vl (.x (hkD D) (hvD D)),iv nu,vl (.lst (wd.map .str)),vl (.lst ((kd.1::kn).map .str)),vl (.str k1.1),vl (.lst (z6.map .str)),some (.own (.lst (rows.map rwT))),y9,aX,cx,dW,gi,gP,gQ]/\(Fre y9/\Fre aX/\Fre cx/\Fre dW/\Fre gi/\Fre gP/\Fre gQ)/\rows.map (·.1)=Z.map (λq=>q.1.1)/\∀r∈rows,∀X,ROk K D ⟨own,kd.1::kn,k1.1,z6,X⟩ kd kn r) (xs:=kd.2.zipIdx) (p:=λq=>.tup [.int q.2,EA q.1])
 case hi =>rw[<- Hx EA kd.2 0];trivial
 case h0=>exact⟨[],_,_,_,_,_,_,_,_,rfl,⟨True.intro,True.intro,True.intro,True.intro,True.intro,True.intro,True.intro⟩,rfl,λ_ m=>nomatch m⟩
 case st =>
  rintro Z ⟨⟨m,ps⟩,i⟩ R _ e ⟨rows,nu,y9,aX,cx,dW,gi,gP,gQ,rfl,⟨f9,f10,f11,f12,f13,f14,f15⟩,hrw,z9⟩
  have hi:=List.mk_mem_zipIdx_iff_getElem?.mp (mem_mid e);have hr:=uP hi;have hi:=(tX.mp hi).1;have h4:=(W.rw kd mk).2;have rp:ps.length<=2:=W.two kd mk _ hr;obtain⟨v,_,hm⟩:=mix (nu%10^18) (k:=70+i) (by lia);rw[show((70+i:Nat):Int)=70+(i:Int) by lia]at hm;have nd:(wd.take ps.length++z6).Nodup:=by
   refine List.Nodup.sublist ?_ (Wd.nd (by lia));rw[hoth,<- vN 2 wd];refine List.Sublist.append ?_ ?_
   .rw[vN];exact List.take_sublist_take_left rp
   .rw[vN];exact vt _ _
  obtain⟨nms,hnms⟩:∃nms,nms=wd.take ps.length:=⟨_,rfl⟩
  have ln:nms.length=ps.length:=by rw[hnms,uN];lia
  rw[<- hnms]at nd;have lw:∀x∈nms++z6,Lw x:=λx mx=>Wd.lw (by
   rcases tW.mp mx with mx|mx
   .rw[hnms]at mx;exact uY mx
   .rw[hoth]at mx;exact vw (uY mx))
  have nm:∀x∈nms++z6,RM x:=λx mx=>Fq (lw x mx)
  have lN:(nms++z6).length=(ps++kn).length:=by simp;lia
  have z1:=Mi lN;have z2:=Mg lN;have z3:=List.zip_append (l₁:=nms) (l₂:=ps) (r₁:=z6) (r₂:=kn) ln;have bd:=λdg=>body (N:=(nms++z6).zip (ps++kn)) (D:=D) W (by rw[vA (by lia)];exact nd) n2 (by rw[vP];simp;lia) l2 (λq mq=>by
   rcases tW.mp (vG mq).2 with h|h
   .exact W.zd kd mk _ hr _ h
   .exact mks _ h) hD hK h3 nJ (own:=own) (w0:=kd.1) (ws:=kn) (ls:=((nms.zip ps).filter λq=>decide (q.2=kd.1)).map (·.1)) mks (by lia) (by rw[tZ];exact uz (List.length_filter_le _ _) (by rw[vP];lia)) (λx mx=>by
   obtain⟨⟨a,b⟩,mq,rfl⟩:=ug.mp mx;obtain⟨mq,eq⟩:=va.mp mq;rw[z3,<- um eq];exact ud _ mq) (λq mq h=>by
   have:=(lw _ (vG mq).1).lo;rw[h]at this;exact absurd this (by decide +kernel)) dg
  have aT:∀e,Ty K (knN ((nms++z6).zip (ps++kn))) (clO D own (kd.1::kn) k1.1 (((nms.zip ps).filter λq=>decide (q.2=kd.1)).map (·.1))) 20 e k1.1->∀r∈rows++[(m,nms,e)],∀X,ROk K D ⟨own,kd.1::kn,k1.1,z6,X⟩ kd kn r:=λe te r mr X=>by
   rcases tW.mp mr with mr|mr
   .exact z9 r mr X
   .rw[ub.mp mr];exact QX W n2 ho hr ln (by lia) (by lia) nd nm te
  obtain⟨e1,⟨_,b1⟩,t1⟩:=bd (nu/10^40);obtain⟨e2,⟨_,b2⟩,t2⟩:=bd v;rw[z1,z2,uD,tU (f:=T.str)]at b1 b2;have lr:rows.length<4:=by
   have h1:=Cp e;have h2:=congrArg List.length hrw;simp at h1 h2
   lia
  subst hnms;dsimp only;trivial
  .exact congrArg some tU.symm
  trivial
  .exact nd
  .simp;lia
  trivial
  .rw[Eb];apply Og
   .trivial
   .trivial
   .exact λ_=>rfl
   .intro q mq;trivial
   .intro q mq _;trivial
   .simp;lia
  trivial
  .exact⟨rows++[(m,wd.take ps.length,e1)],_,_,_,_,_,_,_,_,by rw[tU (f:=rwT)];rfl,⟨Am,Am,Am,Am,Am,Am,Am⟩,by rw[tU,tU,hrw];rfl,aT e1 t1⟩
  trivial;exact⟨rows++[(m,wd.take ps.length,e2)],_,_,_,_,_,_,_,_,by rw[tU (f:=rwT)];rfl,⟨Am,Am,Am,Am,Am,Am,Am⟩,by rw[tU,tU,hrw];rfl,aT e2 t2⟩
 case k =>
  rintro _ ⟨rows,nu,y9,aX,cx,dW,gi,gP,gQ,rfl,⟨f9,f10,f11,f12,f13,f14,f15⟩,hrw,z9⟩
  trivial;refine⟨⟨own,kd.1::kn,k1.1,z6,rows⟩,rfl,rfl,λx mx=>?_,kd,kn,mk,rfl,by show z6.length=_;lia,by lia,?_,λr mr=>z9 r mr _⟩
  .rcases tW.mp mx with mx|mx
   .rcases uk.mp mx with rfl|mx
    .exact ug.mpr ⟨kd,mk,rfl⟩
    .exact mks x mx
   .rw[ub.mp mx];exact ug.mpr ⟨k1,nJ,rfl⟩
  .show rows.map (·.1)=_;have:=congrArg (List.map (·.1)) (List.zipIdx_map_fst 0 kd.2);rw[uD]at this;exact hrw.trans this
end
section
variable{K:Kd}(W:Well K)
include W
theorem Qe{own:Str}{kd:Str×List (Str×List Str)}(hk:kd∈K){ws:List Str}(lw:ws.length=2)(nd:ws.Nodup)(nm:∀x∈ws,RM x):Fun1 K [] ⟨own,[kd.1],kd.1,[],kd.2.map λr=>(r.1,ws.take r.2.length,exP "make" r.1 ((ws.zip r.2).map (cpE own kd.1)))⟩:=by
 have mk:kd.1∈K.map (·.1):=ug.mpr ⟨kd,hk,rfl⟩;refine⟨λx mx=>?_,kd,[],hk,rfl,rfl,by simp,by rw[uD];rfl,λr mr=>?_⟩
 .simp at mx;rcases mx with rfl|rfl<;>exact mk
 .obtain⟨⟨m,ps⟩,m2,rfl⟩:=ug.mp mr;clear mr;dsimp only;have l2:ps.length<=2:=W.two kd hk (m,ps) m2;have tk:(ws.take ps.length).length=ps.length:=by rw[uN];lia
  have zz:ws.zip ps=(ws.take ps.length).zip ps:=by
   conv=>lhs;rw[<- vN ps.length ws]
   rw[<- uK ps,List.zip_append (by rw[uK];exact tk)];simp
  refine QX W (by simp) (by simp) m2 tk rfl (by lia) (by simpa using nd.sublist (vt _ _)) (λx mx=>nm x (uY (by simpa using mx))) ?_;refine .inr (.inl ⟨m,ps,_,⟨kd,hk,rfl,m2⟩,?_,rfl⟩);rw[zz];have go:∀(N:List (Str×Str)),(∀q∈N,q∈(ws.take ps.length).zip ps)->F2 (Ty K (knN ((ws.take ps.length++[]).zip (ps++[]))) (clO [] own [kd.1] kd.1 ((((ws.take ps.length).zip ps).filter λq=>decide (q.2=kd.1)).map (·.1))) 19) (N.map (cpE own kd.1)) (N.map (·.2)):=by
   intro N
   induction N with
   |nil=>exact λ_=>.nil
   |cons q N ih =>
    intro h;refine .cons ?_ (ih λq m=>h q (tV _ m));have mq:=h q uj;have nM:q∈(ws.take ps.length++[]).zip (ps++[]):=by simpa using mq
    show Ty _ _ _ 19 (cpE own kd.1 q) q.2;unfold cpE;by_cases hq:q.2=kd.1
    .rw[if_pos hq,hq];refine .inr (.inr ⟨own,[kd.1],_,.inr ⟨rfl,rfl,rfl,q.1,ug.mpr ⟨q,va.mpr ⟨mq,uE hq⟩,rfl⟩,rfl⟩,.cons (.inl ⟨q.1,?_,rfl⟩) .nil,rfl⟩);rw[<- hq];exact nM
    .rw[if_neg hq];exact .inl ⟨q.1,nM,rfl⟩
  have:=go ((ws.take ps.length).zip ps) (λ_ m=>m);rwa[List.map_snd_zip (by lia)]at this
end
mutual
theorem KC:∀ts:List T,(∀t∈ts,noD t=true)->Rh ts=true
 | [],_=>by simp[Rh]
 |t::ts,h=>by simp[Rh,h t uj,KC ts λt m=>h t (tV _ m)]
end
theorem Fl{s:Str}:noD (.str s)=true:=by simp[noD]
theorem Ec{ts:List T}(h:∀t∈ts,noD t=true):noD (.tup ts)=true:=by rw[noD];exact KC ts h
theorem Hq(xs:List Str):noD (.tup (xs.map .str))=true:=Ec λt m=>by obtain⟨x,_,rfl⟩:=ug.mp m;exact Fl
theorem Ty.noD{K:Kd}{kn:Str->Str->Prop}{cl:Str->List Str->Str->List T->Prop}:∀{n:Nat}{t:T}{k:Str},Ty K kn cl n t k->noD t=true
 |n+1,t,k,h=>by
  rcases h with⟨x,a,rfl⟩|⟨f,ps,ts,a,b,rfl⟩|⟨f,ps,ts,a,b,rfl⟩
  .simp[exN,FL.noD,FL.Rh]
  all_goals
   have:∀t∈ts,FL.noD t=true:=λt m=>by obtain⟨p,h⟩:=b.flip.r t m;exact Ty.noD h
   unfold exP;exact Ec λt m=>by
    simp at m;rcases m with rfl|rfl|rfl
    .exact Fl
    .exact Fl
    .exact Ec this
theorem XB{K:Kd}{D:List Fd}{g:Fd}(h:Fun1 K D g):noD g.t=true:=by
 obtain⟨kd,ks,_,_,_,_,_,hr⟩:=h.ex;refine Ec λt m=>?_
 simp only[uk,uI,or_false]at m;rcases m with rfl|rfl|rfl|rfl|rfl
 .exact Fl
 .exact Hq _
 .exact Fl
 .exact Hq _
 .refine Ec λt m=>?_
  obtain⟨r,mr,rfl⟩:=ug.mp m;obtain⟨ps,kn,cl,kf,_,_,_,_,ht⟩:=(hr r mr).ex;exact Ec λt m=>by
   simp only[uk,uI,or_false]at m;rcases m with rfl|rfl
   .exact Hq _
   .exact ht.noD
theorem OO{α:Type}{A B G:List α}{x g:α}(h:A++x::B=G++[g]):(A=G/\x=g)\/∃B',A++x::B'=G:=by
 rcases List.eq_nil_or_concat B with rfl|⟨B',b,rfl⟩
 .have:=List.append_inj' h rfl;exact .inl ⟨this.1,by simpa using this.2⟩
 .have h:(A++x::B')++[b]=G++[g]:=by simpa using h
  exact .inr ⟨B',(List.append_inj' h rfl).1⟩
section
variable{K:Kd}(W:Well K)
include W
theorem DW{ns:List Int}{m:Int}{ws:List Str}(hK:K.length<=3)(jG:ws.length=16)(hw:Wds m ws)(iH:∀(j:Nat) s,ws[12+j]?=some s->s∉mks K)(h1:∃τ,Bm [iv m,iv 16]=.ok (.nw (.lst (ws.map T.str))) τ)(h2:∃τ,Bx [iv (ns.getD 2 0),iv 3]=.ok (.t (.int m)) τ) :
  ∃G:List Fd,G≠[]/\G.length<=4/\G.map Fd.nm=(ws.drop 12).take G.length/\(∀A g B,A++g::B=G->FOk K A g)/\∃τ,BP [vl (.zY (ns.map T.int)),vl (kT K)]=.ok (.nw (.lst (G.map Fd.t))) τ:=by
 obtain⟨_,h1⟩:=h1;obtain⟨_,h2⟩:=h2;have c2:=B7 ns 2;have c6:=B7 ns 6;obtain⟨num,_,h6⟩:=mix (ns.getD 6 0) (k:=5) (by lia);obtain⟨kd,mk,gd⟩:=JQ W num;have kl:0<(K.map A9).length:=by rw[tZ];exact W.lo
 obtain⟨pl,vs,_,v1,v2,hv⟩:=words (num/5) (c:=2) (by lia);have Vs:Wds (num/5) vs:=⟨pl,v2⟩
 obtain⟨own,hown⟩:∃s,ws[12]?=some s:=⟨_,tO (by lia)⟩
 have a0:atI ((ws.drop 12).map T.str) 0=some (.str own):=BF (j:=0) (by rw[ux,List.getElem?_drop];simp[hown]);obtain⟨c,hc,ec⟩:∃c:Nat,c<=3/\num/3%4=(c:Int):=⟨(num/3%4).toNat,by lia,by lia⟩
 suffices hs:∃o τ,BP [vl (.zY (ns.map T.int)),vl (kT K)]=.ok (.nw o) τ/\∃G:List Fd,o=.lst (G.map Fd.t)/\G≠[]/\G.length<=4/\G.map Fd.nm=(ws.drop 12).take G.length/\(∀A g B,A++g::B=G->FOk K A g) by obtain⟨_,τ,e,G,rfl,a,b,c,d⟩:=hs;exact⟨G,a,b,c,d,τ,e⟩
 have h4:=(W.rw kd mk).2;apply H0;unfold Ey;trivial
 .apply Y2 (n:=12)
  .rw[tZ];lia
  .rfl
 rw[<- List.map_drop];trivial
 .apply J9
  .trivial
  .trivial
  .exact λ_=>rfl
  .intro r mr;have:=W.two kd mk r mr;obtain⟨_,h⟩:=Qr (own:=own) (k:=kd.1) (m:=r.1) (ps:=r.2) (ws:=vs) (by lia) (by lia);trivial
  .lia
 trivial;have dn:(ws.drop 12).Nodup:=(hw.nd (by lia)).sublist (List.drop_sublist _ _);have dl:(ws.drop 12).length=4:=by rw[vg];lia
 have ax:∀(G:List Fd)(g:Fd),G.map Fd.nm=(ws.drop 12).take G.length->G.length<4->(ws.drop 12)[G.length]?=some g.nm->Fun1 K G g->FOk K G g:=λG g e l h F=>by have mg:g.nm∈ws:=vw (uP h);refine⟨Fq (hw.lw mg),λm=>?_,iH G.length _ (by rwa[List.getElem?_drop]at h),F.ind,F.ex⟩;rw[e]at m;obtain⟨i,hi,ei⟩:=vV.mp m;have:=uV.mp dn i G.length (by lia) (by lia) (by lia);rw[ei]at this;exact this (tX.mp h).2.symm
 apply Bo (I:=λ(Z:List Nat) fs=>∃(G:List Fd)(aX cx:Option Sl),fs=[vl (.zY (ns.map T.int)),vl (kT K),vl (.lst ((ws.drop 12).map .str)),iv num,vl (.str kd.1),vl (.lst (kd.2.map EA)),vl (.lst (vs.map .str)),vl (.lst (kd.2.map λr=>.tup [.tup ((vs.take r.2.length).map .str),exP "make" r.1 ((vs.zip r.2).map (cpE own kd.1))])),some (.own (.lst (G.map Fd.t))),some (.own (.l (hkD G) (hvD G))),aX,cx]/\Fre aX/\Fre cx/\G.length=1+Z.length/\G.map Fd.nm=(ws.drop 12).take G.length/\∀A g B,A++g::B=G->FOk K A g) (xs:=List.range c) (p:=λi=>.int (i:Nat))
 case hi =>
  trivial
  lia
 case h0 =>
  have ow:(ws.drop 12)[0]?=some own:=by rw[List.getElem?_drop];exact hown
  refine⟨[⟨own,[kd.1],kd.1,[],kd.2.map λr=>(r.1,vs.take r.2.length,exP "make" r.1 ((vs.zip r.2).map (cpE own kd.1)))⟩],none,none,by simp only[tR,u3,Fd.t,uD];rfl,True.intro,True.intro,rfl,?_,λA g B e=>?_⟩
  .cases hd:ws.drop 12 with|nil=>rw[hd]at dl;cases dl|cons a l=>rw[hd]at ow;cases ow;rfl
  .cases A with|nil =>obtain⟨rfl,rfl⟩:=List.cons.inj e;exact ax [] _ rfl (by decide) ow (Qe W mk v1 (Vs.nd (by lia)) λx mx=>Fq (Vs.lw mx))|cons a A=>cases A<;>cases e
 case st =>
  rintro Z i R _ e ⟨G,aX,cx,rfl,f10,f11,lG,nG,hG⟩
  have lZ:=Cp e;rw[uW]at lZ;have hi:i=Z.length:=by have:=congrArg (λl:List Nat=>l[Z.length]?) e;simp only[u5 (uh _),Nat.sub_self,vI]at this;rw[List.getElem?_range lZ]at this;exact Option.some.inj this
  subst hi;obtain⟨own',bN⟩:∃s,(ws.drop 12)[G.length]?=some s:=⟨_,tO (by lia)⟩
  have a1:atI ((ws.drop 12).map T.str) (1+(Z.length:Int))=some (.str own'):=by rw[show(1:Int)+(Z.length:Int)=(G.length:Nat) by lia];exact BF (by rw[ux,bN];rfl)
  have ck:=B7 ns (7+Z.length);rw[show((7+Z.length:Nat):Int)=7+(Z.length:Int) by lia]at ck;obtain⟨nu,_,hm⟩:=mix (ns.getD (7+Z.length) 0) (k:=7) (by lia);have iR:∀g∈G,∃A,FOk K A g:=λg mg=>let⟨A,B,e⟩:=vK mg;⟨A,hG A g B e.symm⟩
  have iQ:(G.map Fd.nm).Nodup:=by rw[nG];exact dn.sublist (vt _ _)
  have new:own'∉G.map Fd.nm:=λm=>by rw[nG]at m;obtain⟨i,hi,ei⟩:=vV.mp m;have:=uV.mp dn i G.length (by lia) (by lia) (by lia);rw[ei]at this;exact this (tX.mp bN).2.symm
  obtain⟨g,rfl,hF,_,gx⟩:=function (D:=G) W iQ (by lia) (λg mg x mx=>by obtain⟨A,O⟩:=iR g mg;exact O.ind x (ud _ mx)) hK (λg mg=>by obtain⟨A,O⟩:=iR g mg;obtain⟨kd,ks,_,e,_,h,_⟩:=O.ex;rw[e];simp;lia) new nu;have nD:=XB hF;have tq:=kyD new;trivial;refine⟨G++[g],_,_,by simp only[hkD,hvD,tU];rfl,Am,Am,by simp;lia,?_,λA g' B e=>?_⟩
  .rw[tU,nG,uH,List.length_singleton,List.take_add_one,bN];rfl
  .rcases OO e with⟨rfl,rfl⟩|⟨B',e⟩
   .exact ax A g' nG (by lia) bN hF
   .exact hG A g' B' e
 case k =>
  rintro _ ⟨G,aX,cx,rfl,f10,f11,lG,nG,hG⟩
  trivial;rw[uW]at lG;exact VR rfl ⟨G,rfl,λh=>by rw[h,List.length_nil]at lG;lia,by lia,nG,hG⟩
end
theorem YC{K:Kd}{m:Str}{v:T}(hv:∀kd∈K,∀r∈kd.2,r.1=m->v=.tup [.str kd.1,.tup (r.2.map .str)])(h0:m∉mks K->v=.o):∃τ,EU [vl (kT K),vl (.str m)]=.ok (.t v) τ:=by
 have inner:∀kd∈K,∀y4 y5,Fre y4->Fre y5->Sat (λso=>(m∈kd.2.map (·.1)/\∃τ,so=.ret (.t v) τ)\/m∉kd.2.map (·.1)/\∃y4 y5,so=.nx [vl (kT K),vl (.str m),vl (.str kd.1),vl (.lst (kd.2.map EA)),y4,y5]/\Fre y4/\Fre y5) (B4 (itU (fz (Aa 3))) (AL 2 (Ag (tgN 4) (Ag (tgN 5) AG))) (ifS (asB (Af (gEq false) (Aa 4) (Aa 1))) (retS (Ap AQ (Ab (fz (Aa 2)) (Ab (fz (Aa 5)) Ai)))) nxS) [vl (kT K),vl (.str m),vl (.str kd.1),vl (.lst (kd.2.map EA)),y4,y5]):=by
  intro kd mk y4 y5 f4 f5;apply VW (xs:=kd.2) (p:=EA) (ok:=λr=>if r.1=m then some "" else none) (I:=λfs=>∃y4 y5,fs=[vl (kT K),vl (.str m),vl (.str kd.1),vl (.lst (kd.2.map EA)),y4,y5]/\Fre y4/\Fre y5) (E:=λ_ so=>∃τ,so=.ret (.t v) τ)
  case hi=>trivial
  case hE=>rintro _ _ ⟨τ,rfl⟩;exact True.intro
  case h1=>exact⟨_,_,rfl,f4,f5⟩
  case s0 =>
   rintro r mr ho _ ⟨y4,y5,rfl,f4,f5⟩
   have h:¬r.1=m:=λh=>by simp[h]at ho
   trivial;exact⟨_,_,rfl,Am,Am⟩
  case s1 =>
   rintro r mr c ho _ ⟨y4,y5,rfl,f4,f5⟩
   have h:r.1=m:=by by_cases h:r.1=m;exact h;simp[h]at ho
   have hv:=hv kd mk r mr h;trivial
   .exact q_i ⟨_,by rw[hv]⟩
   trivial
  case k0 =>
   rintro e _ ⟨y4,y5,rfl,f4,f5⟩
   exact .inr ⟨λmm=>by obtain⟨r,mr,e2⟩:=ug.mp mm;have:=List.findSome?_eq_none_iff.mp e r mr;simp[e2]at this,y4,y5,rfl,f4,f5⟩
  case k1 =>
   intro c e so h;obtain⟨r,mr,er⟩:=List.exists_of_findSome?_eq_some e;by_cases hr:r.1=m
   .exact .inl ⟨ug.mpr ⟨r,mr,hr⟩,h⟩
   .simp[hr]at er
 apply AX;unfold Lh;apply Jy (xs:=K) (p:=A9) (ok:=λkd=>if m∈kd.2.map (·.1)then some "" else none) (I:=λfs=>∃y2 y3 y4 y5,fs=[vl (kT K),vl (.str m),y2,y3,y4,y5]/\Fre y2/\Fre y3/\Fre y4/\Fre y5) (E:=λ_ so=>∃τ,so=.ret (.t v) τ)
 case hi=>trivial
 case hE=>rintro _ _ ⟨τ,rfl⟩;exact True.intro
 case h1=>exact⟨none,none,none,none,rfl,True.intro,True.intro,True.intro,True.intro⟩
 case s0 =>
  rintro kd mk ho _ ⟨y2,y3,y4,y5,rfl,f2,f3,f4,f5⟩
  trivial;refine Q1 (inner kd mk y4 y5 f4 f5) ?_
  rintro _ (⟨h,_⟩|⟨_,y4,y5,rfl,f4,f5⟩)
  .rw[if_pos h]at ho;cases ho
  .exact⟨_,rfl,_,_,_,_,rfl,Am,Am,f4,f5⟩
 case s1 =>
  rintro kd mk c ho _ ⟨y2,y3,y4,y5,rfl,f2,f3,f4,f5⟩
  trivial;refine Q1 (inner kd mk y4 y5 f4 f5) ?_
  rintro _ (⟨_,h⟩|⟨h,_⟩)
  .exact h
  .rw[if_neg h]at ho;cases ho
 case k0 =>
  rintro e _ ⟨y2,y3,y4,y5,rfl,f2,f3,f4,f5⟩
  rw[h0 λmm=>by obtain⟨kd,mk,hm⟩:=u0.mp mm;have:=List.findSome?_eq_none_iff.mp e kd mk;rw[if_pos hm]at this;cases this];trivial
 case k1 =>
  rintro c e _ ⟨τ,rfl⟩
  exact q_o (VQ True.intro rfl)
abbrev scT(z7 z8:Addr)(K:Kd)(N:List (Str×Str))(G:List Fd):T:=.ins z7 SF [stT z8 K,.l (hkD G) (hvD G),.l (nK N) (nV N),.o,.lst []]
section
variable{z7 z8:Addr}{K:Kd}{N:List (Str×Str)}{G:List Fd}{x m:Str}{t:T}
theorem Jal(h:BR (nK N) (nV N) (.inr x:Key)=some t):∃τ,A4 z7 [vl (scT z7 z8 K N G),vl (.str x)]=.ok (.t t) τ:=by apply AX;unfold BI;trivial
theorem Jam(h:BR (nK N) (nV N) (.inr x:Key)=none)(hx:CO x=true):∃τ,A4 z7 [vl (scT z7 z8 K N G),vl (.str x)]=.exc "NoName" τ:=by apply DI;unfold BI;trivial
theorem Jas(W:Well K){ps:List Str}{kd:Str×List (Str×List Str)}(hk:kd∈K)(hr:(m,ps)∈kd.2):∃τ,As z7 z8 [vl (scT z7 z8 K N G),vl (.str "make"),vl (.str m)]=.ok (.t (.tup [.tup (ps.map .str),.str kd.1])) τ:=by obtain⟨_,h1⟩:=E6 (C:=z8) (hs:=CP K) W hk hr;have h2:=MC (C:=z8) W hk hr;apply AX;unfold AM;trivial
theorem Jat(h:m∉mks K)(hx:CO m=true):∃τ,As z7 z8 [vl (scT z7 z8 K N G),vl (.str "make"),vl (.str m)]=.exc "NoMaker" τ:=by
 have h:=BJ (ts:=MO K) (show(.inr m:Key)∉Bt K from GI h);obtain⟨_,e⟩:∃τ,Bb z8 [vl (stT z8 K),vl (.str m)]=.exc "NoMaker" τ:=by apply DI;unfold CM stT B1;trivial
 apply DI;unfold AM;apply LC
 .trivial
 .intro _;apply ZV
  .apply Ut;apply Yi;apply Uu;apply YI;apply e_m1
   .trivial
   .trivial
   .exact e
   .trivial
  exact VM
 .trivial
theorem Jau(h:BR (hkD G) (hvD G) (.inr m:Key)=some t):∃τ,As z7 z8 [vl (scT z7 z8 K N G),vl (.str "call"),vl (.str m)]=.ok (.t t) τ:=by apply AX;unfold AM;trivial
theorem Jav(h:BR (hkD G) (hvD G) (.inr m:Key)=none)(hx:CO m=true):∃τ,As z7 z8 [vl (scT z7 z8 K N G),vl (.str "call"),vl (.str m)]=.exc "NoFunction" τ:=by apply DI;unfold AM;trivial
end
noncomputable def okZ(z:T×Str×Bool×Str):Option Str:=if z.2.2.1=true then some z.2.2.2 else if z.2.2.2=z.2.1 then none else some "BadKind"
theorem WD{z:T×Str×Bool×Str}(h:okZ z=none):z.2.2.1=false/\z.2.2.2=z.2.1:=by
 unfold okZ at h;split at h
 .cases h
 .split at h
  .exact⟨by simpa using ‹¬z.2.2.1=true›,‹_›⟩
  .cases h
theorem SX{z:T×Str×Bool×Str}{c:Str}(h:okZ z=some c):(z.2.2.1=true/\z.2.2.2=c)\/z.2.2.1=false/\¬z.2.2.2=z.2.1/\c="BadKind":=by
 unfold okZ at h;split at h
 .exact .inl ⟨‹_›,Option.some.inj h⟩
 .split at h
  .cases h
  .exact .inr ⟨by simpa using ‹¬z.2.2.1=true›,‹_›,(Option.some.inj h).symm⟩
theorem WS{P:T->Bool->Str->Prop}:∀{ts:List T}{ps:List Str},ts.length=ps.length->(∀t∈ts,∃b c,P t b c)->∃zs:List (T×Str×Bool×Str),ts=zs.map (·.1)/\ps=zs.map (·.2.1)/\∀z∈zs,P z.1 z.2.2.1 z.2.2.2
 | [],[],_,_=>⟨[],rfl,rfl,nofun⟩
 |t::ts,p::ps,h,q=>by
  obtain⟨zs,rfl,rfl,hz⟩:=WS (ts:=ts) (ps:=ps) (by simpa using h) λt m=>q t (tV _ m)
  obtain⟨b,c,hp⟩:=q t uj;exact⟨(t,p,b,c)::zs,rfl,rfl,λz m=>(uk.mp m).elim (λe=>by rw[e];exact hp) (hz z)⟩
theorem O4:∀zs:List (T×Str×Bool×Str),FL.pairs (zs.map (·.1)) ((zs.map (·.2.1)).map .str)=zs.map (λz=>.tup [z.1,.str z.2.1])/\FL.pairs ((zs.map (·.2.1)).map .str) (zs.map (·.1))=zs.map λz=>.tup [.str z.2.1,z.1]
 | []=>⟨rfl,rfl⟩
 |z::zs=>⟨by simp only[tR,FL.pairs,(O4 zs).1],by simp only[tR,FL.pairs,(O4 zs).2]⟩
def Wx(l:Nat):Nat->T->Prop
 |0,_=>False
 |n+1,t=>(∃x,Lw x/\t=exN x)\/∃(f m:Str)(ts:List T),(f="make"\/f="call")/\Lw m/\ts.length<=l/\(∀u∈ts,Wx l n u)/\t=exP f m ts
section
variable(z7 z8:Addr){K:Kd}(W:Well K){N:List (Str×Str)}{G:List Fd}(n1:(N.map (·.1)).Nodup)(n2:(G.map Fd.nm).Nodup)(hK:∀kd∈K,Lw kd.1)(hN:∀p∈N,Lw p.2)(hG:∀g∈G,Lw g.k/\g.ks.length<=100/\∀x∈g.ks,Lw x)
abbrev fK(K:Kd)(N:List (Str×Str))(G:List Fd)(n:Nat)(t:T):Out Rv:=Dw n [vl (kT K),vl (.x (nK N) (nV N)),vl (.x (hkD G) (hvD G)),vl (.str ""),vl (.lst []),vl t]
def Kst(K:Kd)(N:List (Str×Str))(G:List Fd)(n:Nat)(t:T)(b:Bool)(c:Str):Prop:=(∃τ,fK K N G n t=.ok (.t (.str c)) τ)/\(b=false->Lw c/\∃τ,Au z7 z8 n [vl (scT z7 z8 K N G),vl t]=.ok (.t (.str c)) τ)/\(b=true->c∈Rw/\∃τ,Au z7 z8 n [vl (scT z7 z8 K N G),vl t]=.exc c τ)
include W n1 n2 hK hN hG
theorem both{l:Nat}(hl:l<=100):∀(n:Nat)(t:T),Wx l n t->∃b c,Kst z7 z8 K N G n t b c
 |n+1,t,h=>by
  rcases h with⟨x,hx,rfl⟩|⟨f,m,ts,hf,hm,lt,ht,rfl⟩
  .unfold exN;by_cases h:x∈N.map (·.1)
   .obtain⟨p,mp,rfl⟩:=ug.mp h;have h:=OF n1 mp;obtain⟨_,e⟩:=Jal (z7:=z7) (z8:=z8) (K:=K) (G:=G) h;refine⟨false,p.2,?_,λ_=>⟨hN p mp,?_⟩,nofun⟩
    .apply AX;unfold DA;trivial
    .apply AX;unfold AI;trivial
   .have h:=BJ (ts:=nV N) (show(.inr x:Key)∉nK N by have:=GI h;rwa[uD]at this);obtain⟨_,e⟩:=Jam (z7:=z7) (z8:=z8) (K:=K) (G:=G) h (Tf hx);refine⟨true,"NoName",?_,nofun,λ_=>⟨by decide +kernel,?_⟩⟩
    .apply AX;unfold DA;trivial
    .apply DI;unfold AI;apply LC
     .trivial
     .intro _;apply ZV
      .apply Ut;apply Ja4
       .trivial
       .exact e
      exact VM
     .trivial
  .have ez:=Tf hm;have h:¬m="":=Jaj hm;obtain⟨v,hv1,hv2⟩:∃v:T,(∀kd∈K,∀r∈kd.2,r.1=m->v=.tup [.str kd.1,.tup (r.2.map .str)])/\(m∉mks K->v=.o):=by
    by_cases hmm:m∈mks K
    .obtain⟨kd,mk,hr⟩:=u0.mp hmm;obtain⟨r,mr,rfl⟩:=ug.mp hr;exact⟨.tup [.str kd.1,.tup (r.2.map .str)],λtj mk' r' nN e=>by have:=Mq W mk mr;have e1:=Mq W mk' nN;have e2:=Kl W mk mr;have e3:=Kl W mk' nN;rw[e]at e1 e3;rw[Option.some.inj (this.symm.trans e1),Option.some.inj (e2.symm.trans e3)],λh=>absurd hmm h⟩
    .exact⟨.o,λkd mk r mr e=>absurd (e▸JM mk mr) hmm,λ_=>rfl⟩
   obtain⟨_,lm⟩:=YC hv1 hv2;have hd:(∃(k:Str)(ps:List Str),Lw k/\(ps.length<=100/\∀x∈ps,Lw x)/\(f="make"/\v=.tup [.str k,.tup (ps.map .str)]\/f="call"/\BR (hkD G) (hvD G) (.inr m:Key)=some (.tup [.tup (ps.map .str),.str k]))/\∃τ,As z7 z8 [vl (scT z7 z8 K N G),vl (.str f),vl (.str m)]=.ok (.t (.tup [.tup (ps.map .str),.str k])) τ)\/∃c∈Rw,(f="make"/\v=.o/\c="NoMaker"\/f="call"/\BR (hkD G) (hvD G) (.inr m:Key)=none/\c="NoFunction")/\∃τ,As z7 z8 [vl (scT z7 z8 K N G),vl (.str f),vl (.str m)]=.exc c τ:=by
    rcases hf with rfl|rfl
    .by_cases hmm:m∈mks K
     .obtain⟨kd,mk,hr⟩:=u0.mp hmm;obtain⟨r,mr,rfl⟩:=ug.mp hr;exact .inl ⟨kd.1,r.2,hK kd mk,⟨by have:=W.two kd mk r mr;lia,λx mx=>by obtain⟨kd,m1,rfl⟩:=ug.mp (W.zd kd mk r mr x mx);exact hK kd m1⟩,.inl ⟨rfl,hv1 kd mk r mr rfl⟩,Jas W mk mr⟩
     .exact .inr ⟨_,by decide +kernel,.inl ⟨rfl,hv2 hmm,rfl⟩,Jat hmm ez⟩
    .by_cases hmm:m∈G.map Fd.nm
     .obtain⟨g,mg,rfl⟩:=ug.mp hmm;exact .inl ⟨g.k,g.ks,(hG g mg).1,(hG g mg).2,.inr ⟨rfl,Ls n2 mg⟩,Jau (Ls n2 mg)⟩
     .have hn:=BJ (ts:=hvD G) (kyD hmm);exact .inr ⟨_,by decide +kernel,.inr ⟨rfl,hn,rfl⟩,Jav hn ez⟩
   clear hv1 hv2;have gx:¬f="name":=by rcases hf with rfl|rfl;exact Fy.2.1;exact Fy.2.2.1
   unfold exP;rcases hd with⟨k,ps,hk,lp,a,⟨_,e⟩⟩|⟨c,mc,a,⟨_,e⟩⟩
   .by_cases hl:ts.length=ps.length
    .obtain⟨zs,rfl,rfl,hz⟩:=WS hl λt mt=>both (by assumption) n t (ht t mt)
     have lk:∃τ,fK K N G (n+1) (.tup [.str f,.str m,.tup (zs.map (·.1))])=.ok (.t (.str ((zs.findSome? okZ).getD k))) τ:=by
      apply AX;unfold DA;apply E8
      .trivial
      apply LB
      .trivial
      .simp[gx]
      apply Sj;apply E8
      .trivial
      apply Q2 (J:=λv:T=>[vl (kT K),vl (.x (nK N) (nV N)),vl (.x (hkD G) (hvD G)),vl (.str ""),vl (.lst []),vl (.tup [.str f,.str m,.tup (zs.map (·.1))]),vl (.str f),vl (.str m),vl v,vl (.str k),vl (.tup ((zs.map (·.2.1)).map .str)),none,none,none]) (P:=λ_=>True)
      .trivial
      .intro hb;rcases a with⟨rfl,rfl⟩|⟨rfl,hv⟩
       .exact⟨_,True.intro,by trivial⟩
       .simp[Fy]at hb
      .intro hb;rcases a with⟨rfl,rfl⟩|⟨rfl,hv⟩
       .simp at hb
       .refine⟨v,True.intro,?_⟩;trivial;rw[hv];exact YY.trans (by trivial)
      .intro v _;trivial;apply LB
       .apply Mn
        .trivial
        intro _;trivial
       .simp[h]
       trivial;apply Jy (xs:=zs) (p:=λz=>.tup [.str z.2.1,z.1]) (ok:=okZ) (I:=λfs=>∃t5 t6 t7 t8 cx dW gi,fs=[vl (kT K),vl (.x (nK N) (nV N)),vl (.x (hkD G) (hvD G)),vl (.str ""),vl (.lst []),vl t5,vl t6,vl t7,vl t8,vl (.str k),vl (.tup ((zs.map (·.2.1)).map .str)),cx,dW,gi]/\Fre cx/\Fre dW/\Fre gi) (E:=λc so=>∃τ,so=.ret (.t (.str c)) τ)
       case hi =>rw[<- (O4 zs).2];trivial
       case hE=>rintro _ _ ⟨τ,rfl⟩;exact True.intro
       case h1=>exact⟨_,_,_,_,_,_,_,rfl,True.intro,True.intro,True.intro⟩
       case s0 =>
        rintro z mz ho _ ⟨t5,t6,t7,t8,cx,dW,gi,rfl,f11,f12,f13⟩
        obtain⟨hb,h⟩:=WD ho;obtain⟨⟨_,e1⟩,e2,_⟩:=hz z mz;have h1:=Ni (e2 hb).1;trivial;exact⟨_,_,_,_,_,_,_,rfl,Am,Am,Am⟩
       case s1 =>
        rintro z mz c ho _ ⟨t5,t6,t7,t8,cx,dW,gi,rfl,f11,f12,f13⟩
        obtain⟨⟨_,e1⟩,e2,e3⟩:=hz z mz;rcases SX ho with⟨hb,rfl⟩|⟨hb,h,rfl⟩
        .have h1:=(e3 hb).1;trivial
         .exact q_i ⟨_,rfl⟩
         trivial
        .have h1:=Ni (e2 hb).1;trivial
         .exact q_i ⟨_,rfl⟩
         trivial
       case k0 =>
        rintro e _ ⟨t5,t6,t7,t8,cx,dW,gi,rfl,f11,f12,f13⟩
        rw[e];trivial
       case k1 =>
        rintro c e _ ⟨τ,rfl⟩
        rw[e];exact q_o (VQ True.intro rfl)
       trivial
     have kw:Sat (λso=>(zs.findSome? okZ=none/\Rr (·=.t (.str k)) so)\/∃c,zs.findSome? okZ=some c/\∃τ,so=.exc c τ) (AI z7 z8 (Au z7 z8 n) ([vl (scT z7 z8 K N G),vl (.tup [.str f,.str m,.tup (zs.map (·.1))])]++List.replicate 7 none)):=by
      unfold AI;apply LB
      .trivial
      .simp[gx]
      trivial;apply LB
      .apply Mn
       .trivial
       intro _;apply Mo
       .trivial
       .rfl
      .simp
      trivial;apply Jy (xs:=zs) (p:=λz=>.tup [z.1,.str z.2.1]) (ok:=okZ) (I:=λfs=>∃t1 t2 t4 t5 y7 y8,fs=[vl (scT z7 z8 K N G),vl t1,vl t2,vl (.str m),vl t4,vl t5,vl (.str k),y7,y8]/\Fre y7/\Fre y8) (E:=λc so=>∃τ,so=.exc c τ)
      case hi =>rw[<- (O4 zs).1];trivial
      case hE=>rintro _ _ ⟨τ,rfl⟩;exact True.intro
      case h1=>exact⟨_,_,_,_,_,_,rfl,True.intro,True.intro⟩
      case s0 =>
       rintro z mz ho _ ⟨t1,t2,t4,t5,y7,y8,rfl,f7,f8⟩
       obtain⟨hb,h⟩:=WD ho;obtain⟨_,_,e4⟩:=(hz z mz).2.1 hb;trivial;exact⟨_,_,_,_,_,_,rfl,Am,Am⟩
      case s1 =>
       rintro z mz c ho _ ⟨t1,t2,t4,t5,y7,y8,rfl,f7,f8⟩
       rcases SX ho with⟨hb,rfl⟩|⟨hb,h,rfl⟩
       .obtain⟨_,_,e4⟩:=(hz z mz).2.2 hb;apply Jbq
        .trivial
        apply q_X
        .apply e_if;apply Ja7;apply Ja5;apply YI;apply Ja4
         .trivial
         .exact e4
        exact q_i ⟨_,rfl⟩
       .obtain⟨_,_,e4⟩:=(hz z mz).2.1 hb;have hp:=Tf (lp.2 _ (ug.mpr ⟨z,mz,rfl⟩));trivial
        .exact ZW rfl ez rfl hp (q_i ⟨_,rfl⟩)
        trivial
      case k0 =>
       rintro e _ ⟨t1,t2,t4,t5,y7,y8,rfl,f7,f8⟩
       trivial;exact q_i (.inl ⟨e,q_o (VQ True.intro rfl)⟩)
      case k1=>exact λc e so h=>.inr ⟨c,e,h⟩
     cases e0:zs.findSome? okZ with
     |none =>
      rw[e0]at lk;refine⟨false,k,lk,λ_=>⟨hk,?_⟩,nofun⟩;rcases q_o kw with⟨_,h⟩|⟨c,e,_⟩
      .apply AX;exact q_i h
      .rw[e0]at e;cases e
     |some c =>
      rw[e0]at lk;refine⟨true,c,lk,nofun,λ_=>⟨?_,?_⟩⟩
      .obtain⟨z,mz,ho⟩:=List.exists_of_findSome?_eq_some e0;rcases SX ho with⟨hb,rfl⟩|⟨_,_,rfl⟩
       .exact((hz z mz).2.2 hb).1
       .decide +kernel
      .rcases q_o kw with⟨e,_⟩|⟨c,e,h⟩
       .rw[e0]at e;cases e
       .rw[e0]at e;cases e;apply DI;exact q_i h
    .refine⟨true,"BadCount",?_,nofun,λ_=>⟨by decide +kernel,?_⟩⟩
     .apply AX;unfold DA;rcases a with⟨rfl,rfl⟩|⟨rfl,hv⟩
      .trivial
      .trivial
     .apply DI;unfold AI;trivial
   .refine⟨true,c,?_,nofun,λ_=>⟨mc,?_⟩⟩
    .apply AX;unfold DA;rcases a with⟨rfl,rfl,rfl⟩|⟨rfl,hv,rfl⟩
     .trivial
     .trivial
    .apply DI;unfold AI;apply LB
     .trivial
     .simp[gx]
     apply Sj;apply E8
     .trivial
     apply ZV
     .apply Ja6;apply YI;apply Jbx
      .trivial
      .exact e
     exact VM
end
theorem U1{n:Nat}{j:Int}{ts:List T}{fs:FS}(hj:j=(n:Int)):Jm (.t (.tup ts)) (some (j+1)) none fs=.ok (.t (.tup (ts.drop (n+1)))) fs:=U2 (by rw[hj];rfl)
theorem Wx.mono{l l':Nat}(hl:l<=l'):∀{n n':Nat}{t:T},Wx l n t->n<=n'->Wx l' n' t
 |n+1,n'+1,t,h,hn=>by
  rcases h with h|⟨f,m,ts,hf,hm,lt,ht,e⟩
  .exact .inl h
  .exact .inr ⟨f,m,ts,hf,hm,by lia,λu mu=>(ht u mu).mono hl (by lia),e⟩
theorem Jbz{l:Nat}(hl:l<=100){ws:List Str}(hw:∀w∈ws,Lw w)(aP:ws≠[]):∀(n d:Nat)(t:T)(num:Int),d<=n->Wx l d t->∃t',(∃τ,AS n [vl t,iv num,vl (.lst (ws.map .str))]=.ok (.t t') τ)/\Wx (l+1) (d+1) t'
 |n+1,d+1,t,num,hd,ht=>by
  have g0:0<(ws.map T.str).length:=by rw[tZ];exact vd.mpr aP
  obtain⟨w1,m1,i1⟩:=CG aP T.str (num/6);obtain⟨w2,m2,i2⟩:=CG aP T.str (num/6/4)
  suffices h:∃r τ,AS (n+1) [vl t,iv num,vl (.lst (ws.map .str))]=.ok r τ/\∃t',r=.t t'/\Wx (l+1) (d+1+1) t' by obtain⟨_,τ,e,t',rfl,w⟩:=h;exact⟨t',⟨τ,e⟩,w⟩
  rcases ht with⟨x,hx,rfl⟩|⟨f,m,ts,hf,hm,lt,ht,rfl⟩
  .unfold exN;obtain⟨t',i3,wt⟩:∃t',atI [T.tup [.str "name",.str w1],.tup [.str "call",.str w1,.tup []]] (if decide (4<num%6)=true then 1 else 0)=some t'/\Wx (l+1) (d+1+1) t':=by
    by_cases h:4<num%6
    .exact⟨_,by simp only[h,decide_true,if_true];exact at1,.inr ⟨"call",w1,[],.inr rfl,hw w1 m1,by simp,nofun,rfl⟩⟩
    .exact⟨_,by simp only[h,decide_false];exact at0,.inl ⟨w1,hw w1 m1,rfl⟩⟩
   apply Ib;unfold Cm;trivial
   .exact⟨_,rfl,wt⟩
   trivial
  .have h:¬f="name":=by rcases hf with rfl|rfl;exact Fy.2.1;exact Fy.2.2.1
   obtain⟨a,hj,ha⟩:∃a:Nat,num/6%((ts.length:Int)+1)=(a:Int)/\a<=ts.length:=by have h1:=vQ (num/6) (show((ts.length:Int)+1)≠0 by lia);have h2:=vM (num/6) (show(0:Int)<(ts.length:Int)+1 by lia);exact⟨(num/6%((ts.length:Int)+1)).toNat,by lia,by lia⟩
   obtain⟨f',il,i3⟩:∃f':Str,(f'="make"\/f'="call")/\atI [T.str "make",T.str "call"] (num/6/4%2)=some (.str f'):=by
    rcases Int.emod_two_eq (num/6/4)with e|e<;>rw[e]
    .exact⟨_,.inl rfl,at0⟩
    .exact⟨_,.inr rfl,at1⟩
   have tk:∀(i:Nat),∀u∈ts.take i,Wx (l+1) (d+1) u:=λi u mu=>(ht u (uY mu)).mono (by lia) (by lia)
   have dr:∀(i:Nat),∀u∈ts.drop i,Wx (l+1) (d+1) u:=λi u mu=>(ht u (vw mu)).mono (by lia) (by lia)
   have al:∀u∈ts,Wx (l+1) (d+1) u:=λu mu=>(ht u mu).mono (by lia) (by lia)
   have mk:∀{f m:Str}{us:List T},(f="make"\/f="call")->Lw m->us.length<=l+1->(∀u∈us,Wx (l+1) (d+1) u)->∃t',Rv.t (.tup [.str f,.str m,.tup us])=.t t'/\Wx (l+1) (d+1+1) t':=λ{f m us} a b c d=>⟨_,rfl,.inr ⟨f,m,us,a,b,c,d,rfl⟩⟩
   have key:(∃u u',atI ts (num/6%((ts.length:Int)+1))=some u/\(∃τ,AS n [vl u,iv (num/6/4),vl (.lst (ws.map .str))]=.ok (.t u') τ)/\Wx (l+1) (d+1) u')\/ts.length<=a:=by
    by_cases h:a<ts.length
    .obtain⟨u',e,w⟩:=Jbz hl hw aP n d ts[a] (num/6/4) (by lia) (ht _ (v8 h));exact .inl ⟨ts[a],u',by rw[hj];exact BF (tO h),e,w⟩
    .exact .inr (by lia)
   apply Ib;unfold Cm exP;trivial
   .exact mk hf (hw w2 m2) (by lia) al
   trivial
   .exact mk hf hm (by simp;lia) λu mu=>(tW.mp mu).elim (tk _ u) (dr _ u)
   trivial
   .refine mk hf hm (by simp;lia) λu mu=>?_
    rcases tW.mp mu with mu|mu
    .rcases tW.mp mu with mu|mu
     .exact tk _ u mu
     .rw[ub.mp mu];exact .inl ⟨w2,hw w2 m2,rfl⟩
    .exact dr _ u mu
   trivial
   .exact mk il hm (by simp;lia) λu mu=>al u (List.mem_reverse.mp mu)
   rcases key with⟨u,u',i4,⟨_,re⟩,wu⟩|gz
   .trivial
    .refine mk hf hm (by simp;lia) λv mv=>?_
     rcases tW.mp mv with mv|mv
     .rcases tW.mp mv with mv|mv
      .exact tk _ v mv
      .rw[ub.mp mv];exact wu
     .exact dr _ v mv
    trivial;exact mk hf (hw w2 m2) (by lia) al
   .trivial;exact mk hf (hw w2 m2) (by lia) al
 |0,_+1,_,_,hd,_=>absurd hd (by lia)
 |_,0,_,_,_,ht=>ht.elim
abbrev rwV(g:Fd):T:=.l (g.rows.map kyR) (g.rows.map (rvT g))
abbrev prT(cP z8:Addr)(K:Kd)(G:List Fd):T:=.ins cP PF [stT z8 K,.l (hkD G) (hvD G),.l (hkD G) (G.map rwV)]
section
variable{fs:FS}{C:Addr}{G:List Fd}
theorem Ko:∀G:List Fd,Me (G.map rwD)=G.map rwV
 | []=>by simp[Me]
 |g::G=>by simp[Me,Ko G,rwD,toT]
theorem Zt{t:T}{ks:List Key}{vs:List T}:fzR (.nw (.ins C PF [.val t,.l ks vs,.dO ks (G.map rwD)])) fs=.ok (.t (.ins C PF [t,.l ks vs,.l ks (G.map rwV)])) fs:=by unfold fzR;simp only[toT,Me,Ko]
end
section
variable{cP z7 z8:Addr}{K:Kd}{N:List (Str×Str)}{G:List Fd}
theorem J5(W:Well K):∃τ,Bk [vl (kT K)]=.ok (.nw (.lst ((mks K).map .str))) τ:=by
 suffices h:∃o τ,Bk [vl (kT K)]=.ok (.nw o) τ/\o=.lst ((mks K).map .str) by obtain⟨_,τ,e,rfl⟩:=h;exact⟨τ,e⟩
 apply H0;unfold Dt;trivial;have len:∀D kd R Z r Y,D++kd::R=K->Z++r::Y=kd.2->(mks D).length+Z.length<1000:=λD kd R Z r Y e e2=>by
  have h1:=JJ W.hi λkd m=>(W.rw kd m).2
  rw[<- e,Fm,DO,<- e2]at h1;simp at h1
  lia
 apply Bo (I:=λD fs=>∃y2 y3 y4 y5,fs=[vl (kT K),some (.own (.lst ((mks D).map .str))),y2,y3,y4,y5]/\Fre y2/\Fre y3/\Fre y4/\Fre y5) (xs:=K) (p:=A9)
 case hi=>trivial
 case h0=>exact⟨none,none,none,none,rfl,True.intro,True.intro,True.intro,True.intro⟩
 case st =>
  rintro D kd R _ e ⟨y2,y3,y4,y5,rfl,f2,f3,f4,f5⟩
  trivial;apply Ep (I:=λ(Z:List (Str×List Str)) fs=>∃y4 y5,fs=[vl (kT K),some (.own (.lst ((mks D++Z.map (·.1)).map .str))),vl (.str kd.1),vl (.lst (kd.2.map EA)),y4,y5]/\Fre y4/\Fre y5) (xs:=kd.2) (p:=EA)
  case hi=>trivial
  case h0=>exact⟨y4,y5,by rw[u3,uK];rfl,f4,f5⟩
  case st =>
   rintro Z r Y _ e2 ⟨y4,y5,rfl,f4,f5⟩
   have:=len D kd R Z r Y e e2;trivial;exact⟨_,_,by rw[tU (f:=Prod.fst),<- uL,tU (l₂:=[r].map Prod.fst)];rfl,Am,Am⟩
  case k =>
   rintro _ ⟨y4,y5,rfl,f4,f5⟩
   trivial;exact⟨_,_,_,_,by rw[Fm,DO,show mks []=[]from rfl,uK],Am,Am,f4,f5⟩
 case k =>
  rintro _ ⟨y2,y3,y4,y5,rfl,f2,f3,f4,f5⟩
  trivial;exact VR rfl rfl
theorem calls(nd:(G.map Fd.nm).Nodup)(lG:G.length<=100):∃τ,DZ [vl (.lst (G.map Fd.t))]=.ok (.nw (.l (hkD G) (hvD G))) τ:=by
 suffices h:∃o τ,DZ [vl (.lst (G.map Fd.t))]=.ok (.nw o) τ/\o=.l (hkD G) (hvD G) by obtain⟨_,τ,e,rfl⟩:=h;exact⟨τ,e⟩
 apply H0;unfold Lm;trivial;apply Bo (I:=λD fs=>∃y2,fs=[vl (.lst (G.map Fd.t)),some (.own (.l (hkD D) (hvD D))),y2]/\Fre y2) (xs:=G) (p:=Fd.t)
 case hi=>trivial
 case h0=>exact⟨none,rfl,True.intro⟩
 case st =>
  rintro D g R _ e ⟨y2,rfl,f2⟩
  have:=Cp e;have hn:ky g.nm∉hkD D:=kyD (by rw[<- e,tU,tR]at nd;exact λm=>(tQ.mp nd).2.2 _ m _ uj rfl);trivial;exact⟨_,by simp only[hkD,hvD,tU];rfl,Am⟩
 case k =>
  rintro _ ⟨y2,rfl,f2⟩
  trivial;exact VR rfl rfl
theorem Tp{t:T}{b:Bool}{c:Str}(h:Kst z7 z8 K N G 20 t b c):(b=false->∃τ,C3 cP z7 z8 [vl (prT cP z8 K G),vl (.l (nK N) (nV N)),vl t]=.ok (.t (.str c)) τ)/\(b=true->∃τ,C3 cP z7 z8 [vl (prT cP z8 K G),vl (.l (nK N) (nV N)),vl t]=.exc c τ):=by
 obtain⟨_,si⟩:=Gx (c:=z7) (A:=stT z8 K) (B:=.l (hkD G) (hvD G)) (D:=.l (nK N) (nV N)) (E:=.o) (F:=.lst []);refine⟨λhb=>?_,λhb=>?_⟩
 .obtain⟨_,_,e⟩:=h.2.1 hb;apply AX;unfold FR;trivial
 .obtain⟨_,_,e⟩:=h.2.2 hb;apply DI;unfold FR;apply q_X
  .apply Ut;apply Ja4
   .trivial
   .exact e
  exact VM
theorem KZ(nd:(N.map (·.1)).Nodup):∀M:List (Str×Str),(∀p∈M,p∈N)->eqD (nK N) (nV N) (nK M) (nV M)=some true
 | [],_=>rfl
 |p::M,h=>by
  have:=OF nd (h p uj);have ih:=KZ nd M λp m=>h p (tV _ m)
  simp only[nK,nV,tR,eqD]at this ih ⊢;rw[this];simp only[NY,uZ,ih];simp
theorem Pm{fs:FS}(nd:(N.map (·.1)).Nodup):JaG true (.t (.l (nK N) (nV N))) (.t (.x (nK N) (nV N))) fs=.ok (.t (.v false)) fs:=by
 have e:Xr true (.t (.l (nK N) (nV N))) (.t (.x (nK N) (nV N))) fs=.ok (.t (.v false)) fs:=by unfold Xr;simp only[HA,KZ nd N λ_ h=>h];simp[okT]
 with_unfolding_all exact e
theorem Ty.wx(W:Well K)(gK:∀s∈mks K,Lw s)(hN:∀p∈N,Lw p.1)(hG:∀g∈G,Lw g.nm/\g.ks.length<=3):∀{n:Nat}{t:T}{k:Str},Ty K (knN N) (clD G) n t k->Wx 3 n t
 |n+1,t,k,h=>by
  rcases h with⟨x,a,b⟩|⟨m,ps,ts,⟨kd,m1,_,m2⟩,b,e⟩|⟨f,ps,ts,⟨g,mg,rfl,rfl,_⟩,b,e⟩
  .exact .inl ⟨x,hN _ a,b⟩
  .exact .inr ⟨"make",m,ts,.inl rfl,gK _ (JM m1 m2),by have:=b.len;have:=W.two kd m1 _ m2;simp only at this;lia,λu mu=>by obtain⟨p,h⟩:=b.flip.r u mu;exact h.wx W gK hN hG,e⟩
  .exact .inr ⟨"call",g.nm,ts,.inr rfl,(hG g mg).1,by have:=b.len;have:=(hG g mg).2;lia,λu mu=>by obtain⟨p,h⟩:=b.flip.r u mu;exact h.wx W gK hN hG,e⟩
theorem Xk(W:Well K)(n1:(N.map (·.1)).Nodup)(n2:(G.map Fd.nm).Nodup)(l1:N.length<=1000)(l2:G.length<=1000)(hN:∀p∈N,p.2∈K.map (·.1))(hD:∀g∈G,∀x∈g.ks,x∈K.map (·.1))(hK:K.length<=3)(h3:∀g∈G,g.ks.length<=100){kd:Str×List (Str×List Str)}(hk:kd∈K)(num:Int):∃e,(∃τ,CK [vl (kT K),vl (.x (nK N) (nV N)),vl (.x (hkD G) (hvD G)),vl (.str kd.1),iv num,iv 4]=.ok (.t e) τ)/\Ty K (knN N) (clD G) 6 e kd.1:=by obtain⟨e,fR,⟨_,h⟩,ht⟩:=stream W n1 n2 l1 l2 hN hD hK h3 3 6 (by lia) kd hk num;refine⟨e,?_,ht⟩;apply AX;unfold HH;trivial
end
theorem good(cP z7 z8:Addr):∀ns:List Int,ns.length<=63->Cs ns<=2^20->∃fs,Ye cP z7 z8 [some (.val (.zY (ns.map T.int)))]=.ok (.t (.v true)) fs:=by
 intro ns hl mT;obtain⟨K,ks,ws,n,m,k1,k3,jG,hk,hw,lK,jR,rg,qL,_,jc⟩:=kinds ns;have W:=Vk k1 k3 jG hk hw lK jR;have iH:∀(j:Nat) s,ws[12+j]?=some s->s∉mks K:=λj s e ms=>by
  obtain⟨kd,m1,m2⟩:=u0.mp ms;obtain⟨r,m3,rfl⟩:=ug.mp m2;obtain⟨a,ha⟩:=u6.mp m1;obtain⟨i,i4,_,ei⟩:=JS jR ha m3;have:=hw.inj (by lia) ei e;have:=(tX.mp ha).1
  lia
 have gK:∀s∈mks K,Lw s:=λs ms=>by obtain⟨kd,m1,m2⟩:=u0.mp ms;obtain⟨r,m3,rfl⟩:=ug.mp m2;obtain⟨a,ha⟩:=u6.mp m1;obtain⟨i,i4,_,ei⟩:=JS jR ha m3;exact hw.lw (uP ei)
 have j5:∀s∈K.map (·.1),Lw s:=λs ms=>hk.lw (by rw[<- Nt lK jR];exact ms)
 obtain⟨G,qd,g4,mI,iR,_,gx⟩:=DW (ns:=ns) W (by lia) jG hw iH rg qL;have iQ:(G.map Fd.nm).Nodup:=by rw[mI];exact((hw.nd (by lia)).sublist (List.drop_sublist _ _)).sublist (vt _ _)
 have gk:∀g∈G,(Lw g.nm/\g.ks.length<=3)/\Lw g.k/\g.ks.length<=100/\(∀x∈g.ks,Lw x)/\∀x∈g.ks,x∈K.map (·.1):=λg mg=>by
  obtain⟨A,B,e⟩:=vK mg;have O:=iR A g B e.symm;obtain⟨kd,kr,_,eT,_,l2,_⟩:=O.ex;have l3:g.ks.length<=3:=by rw[eT];simp;lia
  have i1:=λx mx=>O.ind x (ud _ mx)
  exact⟨⟨hw.lw (vw (uY (mI▸ug.mpr ⟨g,mg,rfl⟩))),l3⟩,j5 _ (O.ind _ (by simp)),by lia,λx mx=>j5 _ (i1 x mx),i1⟩
 have c0:=B7 ns 0;obtain⟨hd,_,sT⟩:=mix (ns.getD 0 0) (k:=0) (by lia);obtain⟨_,si⟩:=Jr (C:=z8) W;obtain⟨_,pi⟩:=Ig (cP:=cP) (z7:=z7) (z8:=z8) (F:=.lst (G.map Fd.t)) W (.inl rfl) (by lia) qd iR;obtain⟨_,jT⟩:=calls iQ (by lia);obtain⟨_,em⟩:=J5 W;have sH:=B7 ns 13;obtain⟨n9,_,tB⟩:=mix (ns.getD 13 0) (k:=1) (by lia);obtain⟨p,vs,_,lv,q0,sY⟩:=words n9 (c:=4) (by lia);have nj:Wds n9 vs:=⟨p,q0⟩
 obtain⟨q,hq,hq4⟩:∃q:Nat,hd%5=(q:Int)/\q<=4:=⟨(hd%5).toNat,by lia,by lia⟩
 obtain⟨bn,hbn,hb3⟩:∃q:Nat,hd/15%3=(q:Int)/\q<3:=⟨(hd/15%3).toNat,by lia,by lia⟩
 have l8:(vs.take q).Nodup:=(nj.nd (by lia)).sublist (vt _ _);have tw:(vs.take q).length<=4:=by simp;lia
 have su:∀s∈vs.take q,Lw s:=λs ms=>nj.lw (uY ms)
 have ku:K≠[]:=λh=>by rw[h]at lK;simp at lK;lia
 have oX:0<(K.map A9).length:=by rw[tZ];exact vd.mpr ku
 obtain⟨kd,mk,ik⟩:=CG ku A9 (hd/5);have sI:=B7 ns 18;obtain⟨sr,_,tD⟩:=mix (ns.getD 18 0) (k:=3) (by lia);have ml:=JJ W.hi λkd m=>(W.rw kd m).2
 apply AX;unfold Yx;trivial;apply Bo (I:=λZ fs=>∃(N:List (Str×Str))(y7 y8:Option Sl),fs=[vl (.zY (ns.map T.int)),iv hd,vl (kT K),vl (.lst (G.map Fd.t)),some (.own (.l (hkD G) (hvD G))),vl (.lst ((vs.take q).map .str)),some (.own (.l (nK N) (nV N))),y7,y8,none,none,none,none,none,none,none,none,none]/\Fre y7/\Fre y8/\N.map (·.1)=Z.map (·.1)/\∀p∈N,p.2∈K.map (·.1)) (xs:=(vs.take q).zipIdx) (p:=λz=>.tup [.int z.2,.str z.1])
 case hi =>rw[<- Hx T.str (vs.take q) 0];trivial
 case h0=>exact⟨[],none,none,rfl,True.intro,True.intro,rfl,nofun⟩
 case st =>
  rintro Z ⟨s,i⟩ R _ e ⟨N,y7,y8,rfl,f7,f8,hZ,hN⟩
  have ck:=B7 ns (14+i);rw[show((14+i:Nat):Int)=14+(i:Int) by lia]at ck;obtain⟨vk,_,tE⟩:=mix (ns.getD (14+i) 0) (k:=2) (by lia);obtain⟨kd,mk,ik⟩:=CG ku A9 vk;have e1:=congrArg (List.map Prod.fst) e;rw[List.zipIdx_map_fst,tU,tR,<- hZ]at e1;have hn:(.inr s:Key)∉nK N:=by
   rw[<- e1]at l8;have:=GI λm=>(tQ.mp l8).2.2 _ m _ uj rfl
   rwa[uD]at this
  have lN:(nK N).length<1000:=by
   have:=congrArg List.length e1;simp at this ⊢
   lia
  dsimp only;trivial;refine⟨N++[(s,kd.1)],_,_,by simp only[nK,nV,tU];rfl,Am,Am,by rw[tU,hZ,tU];rfl,λp mp=>?_⟩;rcases tW.mp mp with mp|mp
  .exact hN p mp
  .rw[ub.mp mp];exact ug.mpr ⟨kd,mk,rfl⟩
 case k =>
  rintro _ ⟨N,y7,y8,rfl,f7,f8,hZ,hN⟩
  rw[List.zipIdx_map_fst]at hZ;have hn:(N.map (·.1)).Nodup:=hZ▸l8;have lN:N.length<=4:=by have:=congrArg List.length hZ;simp at this;lia
  have mn:∀p∈N,Lw p.1:=λp mp=>su _ (hZ▸ug.mpr ⟨p,mp,rfl⟩)
  obtain⟨e,⟨_,hg⟩,te⟩:=Xk W hn iQ (by lia) (by lia) hN (λg mg=>(gk g mg).2.2.2.2) (by lia) (λg mg=>(gk g mg).2.2.1) mk sr;trivial;obtain⟨wl,ewl,wlw,wne⟩:∃wl:List Str,(nK N).map KH++(hkD G).map KH++(mks K).map T.str++[T.str "zzzzzz"]=wl.map T.str/\(∀w∈wl,Lw w)/\wl≠[]:=by
   refine⟨N.map (·.1)++G.map Fd.nm++mks K++[("zzzzzz":Str)],by simp only[nK,hkD,tU,uD];rfl,λw mw=>?_,by simp⟩;rcases tW.mp mw with mw|mw
   .rcases tW.mp mw with mw|mw
    .rcases tW.mp mw with mw|mw
     .obtain⟨p,mp,rfl⟩:=ug.mp mw;exact mn p mp
     .obtain⟨g,mg,rfl⟩:=ug.mp mw;exact(gk g mg).1.1
    .exact gK w mw
   .rw[ub.mp mw];exact⟨by decide +kernel,by decide +kernel,by decide +kernel⟩
  rw[ewl];have w0:=te.wx W gK mn (λg mg=>(gk g mg).1);apply Bo (I:=λ(Z:List Nat) fs=>∃(t:T)(y7:Option Sl),fs=[vl (.zY (ns.map T.int)),iv hd,vl (kT K),vl (.lst (G.map Fd.t)),vl (.x (hkD G) (hvD G)),vl (.lst ((vs.take q).map .str)),vl (.x (nK N) (nV N)),y7,y8,vl (.str kd.1),vl t,vl (.lst (wl.map .str)),none,none,none,none,none,none]/\Fre y7/\Wx (3+Z.length) (6+Z.length) t) (xs:=List.range bn) (p:=λi=>.int (i:Nat))
  case hi =>
   trivial
   lia
  case h0=>exact⟨e,y7,rfl,f7,w0⟩
  case st =>
   rintro Z i R _ er ⟨t,y7,rfl,f7,wt⟩
   have lz:=Cp er;rw[uW]at lz;have ck:=B7 ns (19+i);rw[show((19+i:Nat):Int)=19+(i:Int) by lia]at ck;obtain⟨vb,_,mb⟩:=mix (ns.getD (19+i) 0) (k:=4) (by lia);obtain⟨t',⟨_,sP⟩,sA⟩:=Jbz (l:=3+Z.length) (by lia) wlw wne 20 (6+Z.length) t vb (by lia) wt;trivial;exact⟨t',_,rfl,Am,sA.mono (by simp;lia) (by simp;lia)⟩
  case k =>
   rintro _ ⟨t,y7,rfl,f7,wt⟩
   rw[uW]at wt;obtain⟨b,c,j6⟩:=both z7 z8 W hn iQ (λkd mk=>j5 _ (ug.mpr ⟨kd,mk,rfl⟩)) (λp mp=>j5 _ (hN p mp)) (λg mg=>⟨(gk g mg).2.1,(gk g mg).2.2.1,(gk g mg).2.2.2.1⟩) (l:=5) (by lia) 20 t (wt.mono (by lia) (by lia));obtain⟨_,kl⟩:=j6.1;have ko:=Tp (cP:=cP) j6;trivial;cases b with
   |false =>
    obtain⟨_,kf⟩:=ko.1 rfl;have h1:=Ni (j6.2.1 rfl).1;apply E8
    .apply UY;trivial
    trivial
    .apply QR
     .trivial
     .rfl
     apply QR
     .trivial
     .rfl
     trivial
    trivial;simp
   |true =>
    obtain⟨_,kx⟩:=ko.2 rfl;have h1:=(j6.2.2 rfl).1;obtain⟨kN,qz⟩:=Of h1;apply E8
    .apply YS (c:=c)
     .apply Ja3;apply YI;apply Jbx
      .trivial
      .exact kx
     .exact qz
     .trivial
     .trivial
     .trivial
    trivial
    .simp
    trivial
end
theorem us1{α:Type}{us:List α}(e:us.length=1):∃a,us=[a]:=by match us,e with| [a],_=>exact⟨a,rfl⟩
theorem us2{α:Type}{us:List α}(e:us.length=2):∃a b,us=[a,b]:=by match us,e with| [a,b],_=>exact⟨a,b,rfl⟩
theorem us3{α:Type}{us:List α}(e:us.length=3):∃a b c,us=[a,b,c]:=by match us,e with| [a,b,c],_=>exact⟨a,b,c,rfl⟩
theorem us4{α:Type}{us:List α}(e:us.length=4):∃a b c d,us=[a,b,c,d]:=by match us,e with| [a,b,c,d],_=>exact⟨a,b,c,d,rfl⟩
theorem us5{α:Type}{us:List α}(e:us.length=5):∃a b c d e,us=[a,b,c,d,e]:=by match us,e with| [a,b,c,d,e],_=>exact⟨a,b,c,d,e,rfl⟩
theorem us6{α:Type}{us:List α}(e:us.length=6):∃a b c d e f,us=[a,b,c,d,e,f]:=by match us,e with| [a,b,c,d,e,f],_=>exact⟨a,b,c,d,e,f,rfl⟩
abbrev DF(K:Fg)(n:Str)(st:Stmt):Prop:=∃f fd,nsIn K mainGlobals n=some (some (.ref f))/\Fun K n n st f fd
abbrev DM(K:Fg)(C:Addr)(m q:Str)(st:Stmt):Prop:=∃f fd,findIn K (.ref C) m=some (some (.ref f))/\isFn K (.ref f)=true/\Fun K m q st f fd
structure CC(K:Fg)(x:Str)(C:Addr):Prop where
 ac:nsIn K mainGlobals x=some (some (.ref C))
 yJ:makesIn K C=true
 kc:keepIn K (.ref C)=true
abbrev aF(P:Program)(w:World)(K:Fg)(mg:Str->Option Value)(base:Heap)(n:Str)(k:Nat)(ps:List Str)(p:Nat)(Fn:FS->Out Rv):Prop:=FnAt P w K mg base (CX1 P w) n k ps (spX K p Fn)
abbrev aM(P:Program)(w:World)(K:Fg)(mg:Str->Option Value)(base:Heap)(C:Addr)(n:Str)(k:Nat)(ps:List Str)(p:Nat)(Fn:FS->Out Rv):Prop:=UX P w K mg base (CX1 P w) C n k ps (spX K p Fn)
abbrev aK(P:Program)(w:World)(K:Fg)(mg:Str->Option Value)(base:Heap)(n:Str)(C:Addr)(k:Nat)(ps:List Str)(p:Nat)(Fn:FS->Out Rv):Prop:=YM P w K mg base (CX1 P w) n C k ps (spX K p Fn)
section
variable{P:Program}{w:World}{K:Fg}{mg:Str->Option Value}{base h:Heap}{CX:CXT}{n m q:Str}{st:Stmt}{k:Nat}{ps:List Str}{sp:Sp}{C:Addr}(X:K.In h)(G:h.Ns mainGlobals mg)
abbrev BA(x q:Str)(st:Stmt)(ps:List Str):Prop:=∀(kV cU pm:Value)(an:Option Addr)(cdv ct:Value)(us:List Value),us.length=ps.length->bindArgs (fnOf x q (FD st) (Dx st) (Be st) .none kV cU pm an cdv ct) ⟨us,[]⟩=pure (ps.zip us)
theorem Kf(X:K.In h)(G:h.Ns mainGlobals mg)(d:DF K n st)(B:BA n n st ps)(O:∀f fd,Fun K n n st f fd->(∀k sp,CS P w K mg base CX k f fd ps sp->FnAt P w K mg base CX n k ps sp)->CS P w K mg base CX k f fd ps sp):FnAt P w K mg base CX n k ps sp :=
 let⟨f,fd,a,F⟩:=d
 ⟨f,fd,O f fd F λ_ _ o=>⟨f,fd,o,mg_of X G a,F.kp,F.binds B⟩,mg_of X G a,F.kp,F.binds B⟩
theorem Jbb(c:Cls K C)(d:DM K C m q st)(B:BA m q st ps)(O:∀f fd,Fun K m q st f fd->CS P w K mg base CX k f fd ps sp):UX P w K mg base CX C m k ps sp :=
 let⟨f,fd,a,i,F⟩:=d
 ⟨c,f,fd,O f fd F,⟨a,i,F.kp⟩,F.binds B⟩
theorem Jbc(X:K.In h)(G:h.Ns mainGlobals mg)(c:CC K n C)(d:DM K C "__init__" q st)(B:BA "__init__" q st ps)(O:∀f fd,Fun K "__init__" q st f fd->CS P w K mg base CX k f fd ps sp):YM P w K mg base CX n C k ps sp :=
 let⟨f,fd,a,i,F⟩:=d
 ⟨mg_of X G c.ac,f,fd,O f fd F,⟨c.yJ,a,i,c.kc⟩,F.binds B⟩
end
section
variable{P:Program}{w:World}{K:Fg}{mg:Str->Option Value}{base h:Heap}{ak aj af:Addr}(X:K.In h)(G:h.Ns mainGlobals mg)(T:Tx K mg ak aj af)(bG:CC K "Program" ak)(cy:CC K "Scope" aj)(cz:CC K "Stock" af)
seal FE FT FA FW FP GS GSs GT GTs FI FAn FIf
set_option hygiene false in
local macro_rules|`(tactic|trivial)=>do
 let w1<-Zz9 "efe_v,_ rJaX,? eX2 rXF,?"
 let w2<-Zz9 "rX5,!,%,+,? rYc,?,? eXI rX6,!,!,? rXY,T.yP,? rXZ,T.xt,T.zT,#,? rXT,?,? eJaZ rXX,? rXS,!,%,+,?,? rX8,WT,PySem.F.slot_list_append,PySem.F.type_list_append,Iz,?,? rX8,Pr,PySem.F.slot_list_index,PySem.F.type_list_index,Pq,?,? eQi rUe,? rUg,T.za,? rXH,?,? eX3,* rX7,?,? rQf,T.zj,? rJaR,?,?,? rXR,?,? rXU,!,%,? rJaY,?,? eXQ rUh,T.yQ,? rJaS,?,? rL4,rfl,T.zb,T.yX,?"
 let w3<-Zz9 "rUc,_,? rXG,T.yN,? rJaU,hu,?,? rYa,?,? eJaW,T.zf rYb,T.yS,? rX0,T.xt,T.zT,T.zw,? rX9,T.yR,? rX1,?,? rXO,? rXJ,?,?,? eX3,* rXM,?,?"
 let w4<-Zz9 "rUi,?,? rX4,? rJaV,?,? rQg,_,? rNU,To,boot_str,T.zT,T.yO,? rQh,rfl,T.za,? rNT,rfl,T.zj,T.zm,? rQj,?,? rQk,T.zb,?"
 let w5<-Zz9 "eYd rUk,?,?"
 let w6<-Zz9 "rTK,? rPN,?,? eTL"
 let w7<-Zz9 "rXf,_,nd,@,? rJaw,?,?,? rXg,? rTM,? rXh,lk.own,rfl,?,?,?"
 let w8<-Zz9 "rXj,?,?"
 let w9<-Zz9 "rPR,&,lk,rfl,?"
 let w10<-Zz9 "ePU rNI,&,lk,rfl,? rLV,&,lk,rfl,? rLW,&,lk,rfl,?,?"
 let w11<-Zz9 "rQl,?,? eUj"
 let w12<-Zz9 "rIH,rfl,? rXe,rfl,?"
 let w13<-Zz9 "eTJ"
 let w14<-Zz9 "rJaO,?,? rXw,?"
 let w15<-Zz9 "rQb,hu,?,? rJaJ,?,? rJaM,hu,?,? rJaN,?,?"
 let w16<-Zz9 "rJaK,?,? rJaL,?,? rT3,<,?,? rXy,?,? rXx,<,?,? rFW.ft,?"
 let w17<-Zz9 "rXD,? rNS,T.yY,? rXC,T.yX,?,? rUa,T.zp,? rUb,?"
 let w18<-Zz9 "eT9 rT8,?"
 let w19<-Zz9 "rT6,? eT7"
 let w20<-Zz9 "rJaI,?,? rXu,? rXv,?,? rTZ,?"
 `(tactic|(
 intro cdv A outer s H E _ _ hr lk;have hu:=Jar hr;have a0:=T.zW;have a1:=T.zr;have a2:=T.zq;have a3:=T.zG;have a4:=T.z0;have a5:=T.zF;have a6:=T.zC;have a7:=T.zQ;have a8:=T.zE;have a9:=T.zv;have a10:=T.zB;have a11:=T.zP;have a12:=T.zS;have a13:=T.zR
 first
  | refine AF (GS.zero ?_) (AF (GS.zero ?_) (AF (GS.zero ?_) (AF (GS.zero ?_) (AF (GS.zero ?_) (AF (GS.zero ?_) (AF (GS.zero ?_) (AF (GS.zero ?_) (AF (GS.zero ?_) (AF (GS.zero ?_) (AF (GS.zero ?_) (AF (GS.zero ?_) (AF (GS.zero ?_) (AF (GS.zero ?_) (AF (GS.zero ?_) (AF (GS.zero ?_) (AF (PZ T.xt (by decide +kernel) 17 lk nd (fun _ _ lk=>?_) (fun _=>?_)) (GSs.zero ?_)))))))))))))))))
  | refine GSs.zero ?_
 repeat' first
  |(show FE _ _ _ _;first|$(⟨w1⟩):tactic|refine JaQ hu ?_ ?_ (fun _ _=>rfl)|$(⟨w2⟩):tactic|refine Ud (by assumption) (hr.mono (by first | decide | omega)) ?_ (fun ho=>Wh (by assumption) (hr.mono (by first | decide | omega)) Wo ho)|$(⟨w3⟩):tactic|refine Dv false ["_law_k","_law_kinds_here","_law_number"] [none,some 0,some 3] rfl ?_ (fun _ _ _ _ _=>Bu 0 (show List.Nodup (["_law_k","_law_kinds_here","_law_number"]:List Str) by decide +kernel) (Or.inl rfl) (hf:=.inr rfl)) (fun _ _ _ _ _=>?_) (fun _ _ _ _ _=>?_)|refine Dv false ["_law_one","_law_name","_law_other"] [none,some 1,some 2] rfl ?_ (fun _ _ _ _ _=>Bu 0 (show List.Nodup (["_law_one","_law_name","_law_other"]:List Str) by decide +kernel) (Or.inl rfl) (hf:=.inr rfl)) (fun _ _ _ _ _=>?_) (fun _ _ _ _ _=>?_)|refine Dv false ["_law_one"] [none] rfl ?_ (fun _ _ _ _ _=>Bu 0 (List.pairwise_singleton _ _) (Or.inl rfl) (hf:=.inr rfl)) (fun _ _ _ _ _=>?_) (fun _ _ _ _ _=>?_)|refine Dv false ["_law_part","_law_kinds_here"] [none,some 0] rfl ?_ (fun _ _ _ _ _=>Bu 0 (show List.Nodup (["_law_part","_law_kinds_here"]:List Str) by decide +kernel) (Or.inl rfl) (hf:=.inr rfl)) (fun _ _ _ _ _=>?_) (fun _ _ _ _ _=>?_)|refine Dv false ["kind","name","stock"] [none,some 1,some 0] rfl ?_ (fun _ _ _ _ _=>Bu 0 (show List.Nodup (["kind","name","stock"]:List Str) by decide +kernel) (Or.inl rfl) (hf:=.inr rfl)) (fun _ _ _ _ _=>?_) (fun _ _ _ _ _=>?_)|refine Dv false ["maker","parts"] [none,none] rfl ?_ (fun _ _ _ _ _=>IH rfl (DU (Bu 0 (show List.Nodup (["maker","parts"]:List Str) by decide +kernel) (Or.inl rfl) (hf:=.inr rfl)) ?_ (fun h1 h2=>DK h1 h2))) (fun _ _ _ _ _=>?_) (fun _ _ _ _ _=>?_)|refine Dv false ["sign"] [none] rfl ?_ (fun _ _ _ _ _=>Bu 0 (List.pairwise_singleton _ _) (Or.inl rfl) (hf:=.inr rfl)) (fun _ _ _ _ _=>?_) (fun _ _ _ _ _=>?_)|$(⟨w4⟩):tactic)
  |(show FA _ _ _ _;$(⟨w5⟩):tactic)
  |(show GSs _ _ _ _;$(⟨w6⟩):tactic)
  |(show GS _ _ _ _;first|refine B0 false _ ["_law_maker_here","_law_parts","_law_kind_here","_law_names","_law_words_here"] [none,none,some 4,some 6,some 2] rfl nd (Or.inl rfl) ?_ (fun _ _ _ _ _=>IH rfl (DU (Bu 0 (show List.Nodup (["_law_maker_here","_law_parts","_law_kind_here","_law_names","_law_words_here"]:List Str) by decide +kernel) (Or.inl rfl) (hf:=.inr rfl)) ?_ (fun h1 h2=>DK h1 h2))) (fun _ _ _ _ _=>?_) (fun _ _ _ _ _=>?_)|refine B0 false _ ["_law_name","_law_kind_here","_law_calls_here"] [none,some 3,some 2] rfl nd (Or.inl rfl) ?_ (fun _ _ _ _ _=>Bu 0 (show List.Nodup (["_law_name","_law_kind_here","_law_calls_here"]:List Str) by decide +kernel) (Or.inl rfl) (hf:=.inr rfl)) (fun _ _ _ _ _=>?_) (fun _ _ _ _ _=>?_)|refine B0 false _ ["_law_name","_law_kind_here","_law_known"] [none,some 3,some 1] rfl nd (Or.inl rfl) ?_ (fun _ _ _ _ _=>Bu 0 (show List.Nodup (["_law_name","_law_kind_here","_law_known"]:List Str) by decide +kernel) (Or.inl rfl) (hf:=.inr rfl)) (fun _ _ _ _ _=>?_) (fun _ _ _ _ _=>?_)|refine B0 false _ ["_law_name","_law_part","_law_wanted"] [none,none,some 5] rfl nd (Or.inl rfl) ?_ (fun _ _ _ _ _=>IH rfl (DU (Bu 0 (show List.Nodup (["_law_name","_law_part","_law_wanted"]:List Str) by decide +kernel) (Or.inl rfl) (hf:=.inr rfl)) ?_ (fun h1 h2=>DK h1 h2))) (fun _ _ _ _ _=>?_) (fun _ _ _ _ _=>?_)|refine B0 false _ ["each","kinds_by_name","kinds"] [none,some 13,some 6] rfl nd (Or.inl rfl) ?_ (fun _ _ _ _ _=>Bu 0 (show List.Nodup (["each","kinds_by_name","kinds"]:List Str) by decide +kernel) (Or.inl rfl) (hf:=.inr rfl)) (fun _ _ _ _ _=>?_) (fun _ _ _ _ _=>?_)|refine B0 false _ ["kind","makers"] [none,none] rfl nd (Or.inl rfl) ?_ (fun _ _ _ _ _=>IH rfl (DU (Bu 0 (show List.Nodup (["kind","makers"]:List Str) by decide +kernel) (Or.inl rfl) (hf:=.inr rfl)) ?_ (fun h1 h2=>DK h1 h2))) (fun _ _ _ _ _=>?_) (fun _ _ _ _ _=>?_)|$(⟨w7⟩):tactic|refine Xi (by assumption) (by assumption) _ ?_ (fun hv=>V5 (pv 0) hv rfl)|$(⟨w8⟩):tactic|refine PX (by assumption) (by assumption) _ _ ?_ (fun hv=>JA hu (Kw (pv _) rfl) (pv _) hv rfl)|refine PQ hu ?_ ?_ ?_ (fun he ho hi hs=>Q5 he (V9 ho hi hs))|$(⟨w9⟩):tactic|exact PV hu T.zW T.z0 0 4 (pv 0) (pv 4)|refine PY hu T.zW T.z0 0 4 9 (pv 0) (pv 4) (pv 9) ?_|$(⟨w10⟩):tactic)
  |(show FAn _ _ _ _;$(⟨w11⟩):tactic)
  |(show GT _ _ _;first|refine Bu _ (by first | exact nd | exact(show List.Nodup (["_law_k","_law_kinds_here","_law_number"]:List Str) by decide +kernel) | exact(show List.Nodup (["_law_maker_here","_law_parts","_law_kind_here","_law_names","_law_words_here"]:List Str) by decide +kernel) | exact(show List.Nodup (["_law_name","_law_kind_here","_law_calls_here"]:List Str) by decide +kernel) | exact(show List.Nodup (["_law_name","_law_kind_here","_law_known"]:List Str) by decide +kernel) | exact(show List.Nodup (["_law_name","_law_part","_law_wanted"]:List Str) by decide +kernel) | exact(show List.Nodup (["_law_one","_law_name","_law_other"]:List Str) by decide +kernel) | exact(show List.Nodup (["_law_part","_law_kinds_here"]:List Str) by decide +kernel) | exact(show List.Nodup (["each","kinds_by_name","kinds"]:List Str) by decide +kernel) | exact(show List.Nodup (["kind","makers"]:List Str) by decide +kernel) | exact(show List.Nodup (["kind","name","stock"]:List Str) by decide +kernel) | exact(show List.Nodup (["maker","parts"]:List Str) by decide +kernel)) (by first | exact Or.inl rfl | exact Or.inr rfl)|$(⟨w12⟩):tactic)
  |(show GTs _ _ _;first|refine DU ?_ ?_ (fun h1 h2=>DK h1 h2)|$(⟨w13⟩):tactic)
  |(show FT _ _ _ _;first|$(⟨w14⟩):tactic|refine Qa ?_ (fun _=>rfl)|$(⟨w15⟩):tactic|refine Qc of_le of_le ?_ ?_ ?_ (fun ha hb hc=>O0 SR SR ha hb hc)|$(⟨w16⟩):tactic)
  |(show FI _ _ _ _ _;$(⟨w17⟩):tactic)
  |(show FIf _ _ _;$(⟨w18⟩):tactic)
  |(show FP _ _ _ _;$(⟨w19⟩):tactic)
  |(show FW _ _ _ _;$(⟨w20⟩):tactic)))
set_option hygiene false in
local macro_rules | `(tactic| exists $N)=>`(tactic| (
 have nd:List.Nodup (($N):List Str):=by decide +kernel
 first
  | refine Kf X G d (fun kV dc pm an cdv ct us hl=>?_) fun f fd Fu _=>?_
  | refine Jbb (by first | exact T.zW | exact T.zr | exact T.zq) d (fun kV dc pm an cdv ct us hl=>?_) fun f fd Fu=>?_
  | refine Jbc X G (by assumption) d (fun kV dc pm an cdv ct us hl=>?_) fun f fd Fu=>?_
 ·first
   | (obtain⟨a,rfl⟩:=us1 hl;rfl)
   | (obtain⟨a,b,rfl⟩:=us2 hl;rfl)
   | (obtain⟨a,b,c,rfl⟩:=us3 hl;rfl)
   | (obtain⟨a,b,c,d,rfl⟩:=us4 hl;rfl)
   | (obtain⟨a,b,c,d,e,rfl⟩:=us5 hl;rfl)
   | (obtain⟨a,b,c,d,e,f,rfl⟩:=us6 hl;rfl)
 ·refine Es (N:=$N) Fu ⟨rfl,rfl,rfl,nd,rfl,by decide +kernel,by decide +kernel⟩ _ _ rfl rfl ?_;trivial))
include X G T
theorem SW(d:DF K "_law_mix" (top 45)):aF P w K mg base "_law_mix" 1 ["_law_cell","_law_k"] 2 Bx:=by exists ["_law_cell","_law_k","_law_number"]
variable(cD:aF P w K mg base "_law_mix" 1 ["_law_cell","_law_k"] 2 Bx)
theorem JD(d:DF K "_law_letters" (top 46)):aF P w K mg base "_law_letters" 1 ["_law_number","_law_many"] 2 Cy:=by exists ["_law_number","_law_many","_law_made","_law_k"]
variable(du:aF P w K mg base "_law_letters" 1 ["_law_number","_law_many"] 2 Cy)
include du in
theorem M4(d:DF K "_law_words" (top 47)):aF P w K mg base "_law_words" 2 ["_law_number","_law_many"] 2 Bm:=by exists ["_law_number","_law_many","_law_place","_law_made","_law_at","_law_own","_law_word","_law_sign"]
variable(bw:aF P w K mg base "_law_words" 2 ["_law_number","_law_many"] 2 Bm)
theorem JE(d:DF K "_law_cell_at" (top 44)):aF P w K mg base "_law_cell_at" 1 ["_law_script","_law_k"] 2 Az:=by exists ["_law_script","_law_k"]
variable(br:aF P w K mg base "_law_cell_at" 1 ["_law_script","_law_k"] 2 Az)
include cD bw br in
theorem M7(d:DF K "_law_kinds" (top 48)):aF P w K mg base "_law_kinds" 3 ["_law_script"] 1 DY:=by exists ["_law_script","_law_count","_law_kinds_here","_law_words_here","_law_made","_law_at","_law_number","_law_makers_here","_law_k","_law_parts","_law_spot"]
variable(fh:aF P w K mg base "_law_kinds" 3 ["_law_script"] 1 DY)
theorem Iy(d:DF K "_law_copy_row" (top 55)):aF P w K mg base "_law_copy_row" 1 ["_law_own","_law_kind_here","_law_maker_here","_law_parts","_law_names"] 5 CL:=by exists ["_law_own","_law_kind_here","_law_maker_here","_law_parts","_law_names","_law_arguments","_law_name","_law_part"]
variable(cW:aF P w K mg base "_law_copy_row" 1 ["_law_own","_law_kind_here","_law_maker_here","_law_parts","_law_names"] 5 CL)
theorem LM(d:DF K "_law_makers" (top 49)):aF P w K mg base "_law_makers" 1 ["_law_kinds_here","_law_kind_here"] 2 Cw:=by exists ["_law_kinds_here","_law_kind_here","_law_name","_law_makers_here"]
variable(aD:aF P w K mg base "_law_makers" 1 ["_law_kinds_here","_law_kind_here"] 2 Cw)
theorem Kz{f:Addr}{fd:FuncData}(Fu:Fun K "_law_put" "_law_put" (top 54) f fd)(bB:∀k sp,CS P w K mg base (CX1 P w) k f fd ["_law_expression","_law_name","_law_other"] sp->FnAt P w K mg base (CX1 P w) "_law_put" k ["_law_expression","_law_name","_law_other"] sp):∀n,CS P w K mg base (CX1 P w) (1+n) f fd ["_law_expression","_law_name","_law_other"] (spX K 3 (Et n))
 |0=>⟨λvs H Q E h=>by rw[h.1];rfl,λA outer s H args us vs Q E hr he hb hv h=>by obtain⟨_,F,bW,ok,h⟩:=h;exact h.elim⟩
 |n+1=>by
  have fj:=bB _ _ (Kz Fu bB n);have nd:List.Nodup (["_law_expression","_law_name","_law_other"]:List Str):=by decide +kernel
  have hb:=Es (P:=P) (w:=w) (mg:=mg) (base:=base) (k:=1+n) (g:=Je (Et n)) (N:=["_law_expression","_law_name","_law_other"]) (ps:=["_law_expression","_law_name","_law_other"]) Fu ⟨rfl,rfl,rfl,nd,rfl,by decide +kernel,by decide +kernel⟩ 3 0 rfl rfl (by trivial);exact hb
theorem SV(d:DF K "_law_put" (top 54)):aF P w K mg base "_law_put" 21 ["_law_expression","_law_name","_law_other"] 3 (Et 20):=Kf X G d (λ_ _ _ _ _ _ us hl=>by obtain⟨a,b,c,rfl⟩:=us3 hl;rfl) λf fd F bB=>Kz X G T  F bB 20
variable(ia:aF P w K mg base "_law_put" 21 ["_law_expression","_law_name","_law_other"] 3 (Et 20))
include aD in
theorem GD{f:Addr}{fd:FuncData}(Fu:Fun K "_law_least" "_law_least" (top 51) f fd)(bB:∀k sp,CS P w K mg base (CX1 P w) k f fd ["_law_kinds_here","_law_kind_here"] sp->FnAt P w K mg base (CX1 P w) "_law_least" k ["_law_kinds_here","_law_kind_here"] sp):∀n,CS P w K mg base (CX1 P w) (2+n) f fd ["_law_kinds_here","_law_kind_here"] (spX K 2 (Ci n))
 |0=>⟨λvs H Q E h=>by rw[h.1];rfl,λA outer s H args us vs Q E hr he hb hv h=>by obtain⟨_,F,bW,ok,h⟩:=h;exact h.elim⟩
 |n+1=>by
  have fj:=bB _ _ (GD Fu bB n);have nd:List.Nodup (["_law_kinds_here","_law_kind_here","_law_maker_here","_law_parts"]:List Str):=by decide +kernel
  have hb:=Es (P:=P) (w:=w) (mg:=mg) (base:=base) (k:=2+n) (g:=HG (Ci n)) (N:=["_law_kinds_here","_law_kind_here","_law_maker_here","_law_parts"]) (ps:=["_law_kinds_here","_law_kind_here"]) Fu ⟨rfl,rfl,rfl,nd,rfl,by decide +kernel,by decide +kernel⟩ 2 2 rfl rfl (by trivial);exact hb
include aD in
theorem M6(d:DF K "_law_least" (top 51)):aF P w K mg base "_law_least" 10 ["_law_kinds_here","_law_kind_here"] 2 (Ci 8):=Kf X G d (λ_ _ _ _ _ _ us hl=>by obtain⟨a,b,rfl⟩:=us2 hl;rfl) λf fd F bB=>GD X G T aD F bB 8
variable(bR:aF P w K mg base "_law_least" 10 ["_law_kinds_here","_law_kind_here"] 2 (Ci 8))
include aD bR in
theorem Fb{f:Addr}{fd:FuncData}(Fu:Fun K "_law_stream" "_law_stream" (top 52) f fd)(bB:∀k sp,CS P w K mg base (CX1 P w) k f fd ["_law_kinds_here","_law_known","_law_calls_here","_law_kind_here","_law_number","_law_levels"] sp->FnAt P w K mg base (CX1 P w) "_law_stream" k ["_law_kinds_here","_law_known","_law_calls_here","_law_kind_here","_law_number","_law_levels"] sp):∀n,CS P w K mg base (CX1 P w) (11+n) f fd ["_law_kinds_here","_law_known","_law_calls_here","_law_kind_here","_law_number","_law_levels"] (spX K 6 (Bw n))
 |0=>⟨λvs H Q E h=>by rw[h.1];rfl,λA outer s H args us vs Q E hr he hb hv h=>by obtain⟨_,F,bW,ok,h⟩:=h;exact h.elim⟩
 |n+1=>by
  have fj:=bB _ _ (Fb Fu bB n);have nd:List.Nodup (["_law_kinds_here","_law_known","_law_calls_here","_law_kind_here","_law_number","_law_levels","_law_names","_law_funs","_law_way","_law_word","_law_makers_here","_law_name","_law_wanted","_law_arguments","_law_one","_law_argument"]:List Str):=by decide +kernel
  have hb:=Es (P:=P) (w:=w) (mg:=mg) (base:=base) (k:=11+n) (g:=FX (Bw n)) (N:=["_law_kinds_here","_law_known","_law_calls_here","_law_kind_here","_law_number","_law_levels","_law_names","_law_funs","_law_way","_law_word","_law_makers_here","_law_name","_law_wanted","_law_arguments","_law_one","_law_argument"]) (ps:=["_law_kinds_here","_law_known","_law_calls_here","_law_kind_here","_law_number","_law_levels"]) Fu ⟨rfl,rfl,rfl,nd,rfl,by decide +kernel,by decide +kernel⟩ 6 10 rfl rfl (by trivial);exact hb
include aD bR in
theorem LL(d:DF K "_law_stream" (top 52)):aF P w K mg base "_law_stream" 17 ["_law_kinds_here","_law_known","_law_calls_here","_law_kind_here","_law_number","_law_levels"] 6 (Bw 6):=Kf X G d (λ_ _ _ _ _ _ us hl=>by obtain⟨a,b,c,d,e,f,rfl⟩:=us6 hl;rfl) λf fd F bB=>Fb X G T aD bR F bB 6
variable(cu:aF P w K mg base "_law_stream" 17 ["_law_kinds_here","_law_known","_law_calls_here","_law_kind_here","_law_number","_law_levels"] 6 (Bw 6))
include cu in
theorem M8(d:DF K "_law_grown" (top 53)):aF P w K mg base "_law_grown" 18 ["_law_kinds_here","_law_known","_law_calls_here","_law_kind_here","_law_number","_law_levels"] 6 CK:=by exists ["_law_kinds_here","_law_known","_law_calls_here","_law_kind_here","_law_number","_law_levels"]
variable(cY:aF P w K mg base "_law_grown" 18 ["_law_kinds_here","_law_known","_law_calls_here","_law_kind_here","_law_number","_law_levels"] 6 CK)
include ia cu cY in
theorem Pg(d:DF K "_law_body" (top 56)):aF P w K mg base "_law_body" 22 ["_law_kinds_here","_law_calls_here","_law_function_here","_law_known","_law_lessers","_law_digit"] 6 Fz:=by exists ["_law_kinds_here","_law_calls_here","_law_function_here","_law_known","_law_lessers","_law_digit","_law_own","_law_wanted","_law_kind_here","_law_more","_law_arguments","_law_one","_law_argument"]
variable(gj:aF P w K mg base "_law_body" 22 ["_law_kinds_here","_law_calls_here","_law_function_here","_law_known","_law_lessers","_law_digit"] 6 Fz)
include cD bw aD gj in
theorem Iw(d:DF K "_law_function" (top 57)):aF P w K mg base "_law_function" 23 ["_law_kinds_here","_law_own","_law_calls_here","_law_number"] 4 B5:=by exists ["_law_kinds_here","_law_own","_law_calls_here","_law_number","_law_words_here","_law_wanted","_law_kind_here","_law_others","_law_rows","_law_at","_law_maker_here","_law_parts","_law_names","_law_known","_law_lessers","_law_digit"]
variable(cX:aF P w K mg base "_law_function" 23 ["_law_kinds_here","_law_own","_law_calls_here","_law_number"] 4 B5)
include cD bw br cW cX in
theorem Hl(d:DF K "_law_functions" (top 58)):aF P w K mg base "_law_functions" 24 ["_law_script","_law_kinds_here"] 2 BP:=by exists ["_law_script","_law_kinds_here","_law_words_here","_law_number","_law_kind_here","_law_makers_here","_law_names","_law_rows","_law_made","_law_calls_here","_law_k","_law_function_here"]
variable(cB:aF P w K mg base "_law_functions" 24 ["_law_script","_law_kinds_here"] 2 BP)
theorem Nb(d:DF K "_law_calls" (top 59)):aF P w K mg base "_law_calls" 1 ["_law_functions_here"] 1 DZ:=by exists ["_law_functions_here","_law_made","_law_function_here"]
variable(eZ:aF P w K mg base "_law_calls" 1 ["_law_functions_here"] 1 DZ)
theorem M5(d:DF K "_law_maker" (top 60)):aF P w K mg base "_law_maker" 1 ["_law_kinds_here","_law_name"] 2 EU:=by exists ["_law_kinds_here","_law_name","_law_kind_here","_law_makers_here","_law_maker_here","_law_parts"]
variable(bS:aF P w K mg base "_law_maker" 1 ["_law_kinds_here","_law_name"] 2 EU)
include bS in
theorem Iu{f:Addr}{fd:FuncData}(Fu:Fun K "_law_kind" "_law_kind" (top 61) f fd)(bB:∀k sp,CS P w K mg base (CX1 P w) k f fd ["_law_kinds_here","_law_known","_law_calls_here","_law_own","_law_lessers","_law_expression"] sp->FnAt P w K mg base (CX1 P w) "_law_kind" k ["_law_kinds_here","_law_known","_law_calls_here","_law_own","_law_lessers","_law_expression"] sp):∀n,CS P w K mg base (CX1 P w) (2+n) f fd ["_law_kinds_here","_law_known","_law_calls_here","_law_own","_law_lessers","_law_expression"] (spX K 6 (Dw n))
 |0=>⟨λvs H Q E h=>by rw[h.1];rfl,λA outer s H args us vs Q E hr he hb hv h=>by obtain⟨_,F,bW,ok,h⟩:=h;exact h.elim⟩
 |n+1=>by
  have fj:=bB _ _ (Iu Fu bB n);have nd:List.Nodup (["_law_kinds_here","_law_known","_law_calls_here","_law_own","_law_lessers","_law_expression","_law_word","_law_name","_law_got","_law_kind_here","_law_wanted","_law_one","_law_argument","_law_told"]:List Str):=by decide +kernel
  have hb:=Es (P:=P) (w:=w) (mg:=mg) (base:=base) (k:=2+n) (g:=DA (Dw n)) (N:=["_law_kinds_here","_law_known","_law_calls_here","_law_own","_law_lessers","_law_expression","_law_word","_law_name","_law_got","_law_kind_here","_law_wanted","_law_one","_law_argument","_law_told"]) (ps:=["_law_kinds_here","_law_known","_law_calls_here","_law_own","_law_lessers","_law_expression"]) Fu ⟨rfl,rfl,rfl,nd,rfl,by decide +kernel,by decide +kernel⟩ 6 8 rfl rfl (by trivial);exact hb
include bS in
theorem Pf(d:DF K "_law_kind" (top 61)):aF P w K mg base "_law_kind" 22 ["_law_kinds_here","_law_known","_law_calls_here","_law_own","_law_lessers","_law_expression"] 6 (Dw 20):=Kf X G d (λ_ _ _ _ _ _ us hl=>by obtain⟨a,b,c,d,e,f,rfl⟩:=us6 hl;rfl) λf fd F bB=>Iu X G T bS F bB 20
variable(gm:aF P w K mg base "_law_kind" 22 ["_law_kinds_here","_law_known","_law_calls_here","_law_own","_law_lessers","_law_expression"] 6 (Dw 20))
theorem LK(d:DF K "is_name" (top 21)):aF P w K mg base "is_name" 1 ["text"] 1 A2:=by exists ["text"]
variable(aV:aF P w K mg base "is_name" 1 ["text"] 1 A2)
theorem Fh(d:DM K af "makers" "Stock.makers" (inClass (top 38) 2)):aM P w K mg base af "makers" 1 ["self","kind"] 2 (AV af):=by exists ["self","kind"]
variable(aL:aM P w K mg base af "makers" 1 ["self","kind"] 2 (AV af))
theorem Gi(d:DM K af "kinds" "Stock.kinds" (inClass (top 38) 1)):aM P w K mg base af "kinds" 1 ["self"] 1 (Bd af):=by exists ["self"]
variable(ba:aM P w K mg base af "kinds" 1 ["self"] 1 (Bd af))
include aL ba in
theorem JC(d:DF K "is_maker" (top 31)):aF P w K mg base "is_maker" 2 ["stock","name"] 2 (Dc af):=by exists ["stock","name"]
variable(dv:aF P w K mg base "is_maker" 2 ["stock","name"] 2 (Dc af))
include aV aL ba dv in
theorem Hh(d:DF K "check_head" (top 30)):aF P w K mg base "check_head" 3 ["stock","heads","function"] 3 (Ce af):=by exists ["stock","heads","function","name","kinds","kind","others","rows","each"]
variable(cG:aF P w K mg base "check_head" 3 ["stock","heads","function"] 3 (Ce af))
theorem Gh(d:DM K af "parts" "Stock.parts" (inClass (top 38) 3)):aM P w K mg base af "parts" 1 ["self","maker"] 2 (Bb af):=by exists ["self","maker"]
variable(bg:aM P w K mg base af "parts" 1 ["self","maker"] 2 (Bb af))
include aV in
theorem Ge(d:DF K "check_names" (top 33)):aF P w K mg base "check_names" 2 ["names"] 1 BW:=by exists ["names","ahead","name"]
variable(b8:aF P w K mg base "check_names" 2 ["names"] 1 BW)
theorem Hj(d:DM K af "home" "Stock.home" (inClass (top 38) 4)):aM P w K mg base af "home" 1 ["self","maker"] 2 (Cg af):=by exists ["self","maker"]
variable(cE:aM P w K mg base af "home" 1 ["self","maker"] 2 (Cg af))
include bg cE in
theorem EB(d:DF K "kinds_of_head" (top 29)):aF P w K mg base "kinds_of_head" 2 ["scope","form","head"] 3 (As aj af):=by exists ["scope","form","head"]
variable(aE:aF P w K mg base "kinds_of_head" 2 ["scope","form","head"] 3 (As aj af))
theorem Fc(d:DF K "kind_of_name" (top 28)):aF P w K mg base "kind_of_name" 1 ["scope","name"] 2 (A4 aj):=by exists ["scope","name"]
variable(aN:aF P w K mg base "kind_of_name" 1 ["scope","name"] 2 (A4 aj))
include aE aN in
theorem CY{f:Addr}{fd:FuncData}(Fu:Fun K "kind_within" "kind_within" (top 27) f fd)(bB:∀k sp,CS P w K mg base (CX1 P w) k f fd ["scope","expression"] sp->FnAt P w K mg base (CX1 P w) "kind_within" k ["scope","expression"] sp):∀n,CS P w K mg base (CX1 P w) (3+n) f fd ["scope","expression"] (spX K 2 (Au aj af n))
 |0=>⟨λvs H Q E h=>by rw[h.1];rfl,λA outer s H args us vs Q E hr he hb hv h=>by obtain⟨_,F,bW,ok,h⟩:=h;exact h.elim⟩
 |n+1=>by
  have fj:=bB _ _ (CY Fu bB n);have nd:List.Nodup (["scope","expression","form","head","arguments","wanted","kind","argument","kind_wanted"]:List Str):=by decide +kernel
  have hb:=Es (P:=P) (w:=w) (mg:=mg) (base:=base) (k:=3+n) (g:=AI aj af (Au aj af n)) (N:=["scope","expression","form","head","arguments","wanted","kind","argument","kind_wanted"]) (ps:=["scope","expression"]) Fu ⟨rfl,rfl,rfl,nd,rfl,by decide +kernel,by decide +kernel⟩ 2 7 rfl rfl (by trivial);exact hb
include aE aN in
theorem Gd(d:DF K "kind_within" (top 27)):aF P w K mg base "kind_within" 23 ["scope","expression"] 2 (Au aj af 20):=Kf X G d (λ_ _ _ _ _ _ us hl=>by obtain⟨a,b,rfl⟩:=us2 hl;rfl) λf fd F bB=>CY X G T aE aN F bB 20
variable(bh:aF P w K mg base "kind_within" 23 ["scope","expression"] 2 (Au aj af 20))
include cy in
theorem Hk(d:DM K aj "__init__" "Scope.__init__" (inClass (top 25) 0)):aK P w K mg base "Scope" aj 1 ["self","stock","heads","kinds_by_name","own","lessers"] 6 (BO aj):=by exists ["self","stock","heads","kinds_by_name","own","lessers"]
variable(bx:aK P w K mg base "Scope" aj 1 ["self","stock","heads","kinds_by_name","own","lessers"] 6 (BO aj))
include bg b8 bh bx in
theorem Iv(d:DF K "check_row" (top 32)):aF P w K mg base "check_row" 24 ["stock","heads","function","maker","row"] 5 (CJ aj af):=by exists ["stock","heads","function","maker","row","name","kinds","kind","others","rows","names","body","parts","kinds_by_name","lessers"]
variable(cZ:aF P w K mg base "check_row" 24 ["stock","heads","function","maker","row"] 5 (CJ aj af))
include bG aL cG cZ in
theorem Fi(d:DM K ak "__init__" "Program.__init__" (inClass (top 24) 0)):aK P w K mg base "Program" ak 25 ["self","stock","functions"] 3 (BH ak aj af):=by exists ["self","stock","functions","function","name","kinds","kind","others","rows","maker","row"]
variable(bT:aK P w K mg base "Program" ak 25 ["self","stock","functions"] 3 (BH ak aj af))
theorem Dk{f:Addr}{fd:FuncData}(Fu:Fun K "_law_bent_body" "_law_bent_body" (top 63) f fd)(bB:∀k sp,CS P w K mg base (CX1 P w) k f fd ["_law_body_here","_law_number","_law_words_here"] sp->FnAt P w K mg base (CX1 P w) "_law_bent_body" k ["_law_body_here","_law_number","_law_words_here"] sp):∀n,CS P w K mg base (CX1 P w) (1+n) f fd ["_law_body_here","_law_number","_law_words_here"] (spX K 3 (AS n))
 |0=>⟨λvs H Q E h=>by rw[h.1];rfl,λA outer s H args us vs Q E hr he hb hv h=>by obtain⟨_,F,bW,ok,h⟩:=h;exact h.elim⟩
 |n+1=>by
  have fj:=bB _ _ (Dk Fu bB n);have nd:List.Nodup (["_law_body_here","_law_number","_law_words_here","_law_way","_law_word","_law_name","_law_arguments","_law_at"]:List Str):=by decide +kernel
  have hb:=Es (P:=P) (w:=w) (mg:=mg) (base:=base) (k:=1+n) (g:=Cm (AS n)) (N:=["_law_body_here","_law_number","_law_words_here","_law_way","_law_word","_law_name","_law_arguments","_law_at"]) (ps:=["_law_body_here","_law_number","_law_words_here"]) Fu ⟨rfl,rfl,rfl,nd,rfl,by decide +kernel,by decide +kernel⟩ 3 5 rfl rfl (by trivial);exact hb
theorem Hm(d:DF K "_law_bent_body" (top 63)):aF P w K mg base "_law_bent_body" 21 ["_law_body_here","_law_number","_law_words_here"] 3 (AS 20):=Kf X G d (λ_ _ _ _ _ _ us hl=>by obtain⟨a,b,c,rfl⟩:=us3 hl;rfl) λf fd F bB=>Dk X G T  F bB 20
variable(cA:aF P w K mg base "_law_bent_body" 21 ["_law_body_here","_law_number","_law_words_here"] 3 (AS 20))
include aV in
theorem Gg(d:DF K "check_kinds" (top 39)):aF P w K mg base "check_kinds" 2 ["kinds"] 1 BX:=by exists ["kinds","above","kind","makers"]
variable(b4:aF P w K mg base "check_kinds" 2 ["kinds"] 1 BX)
include aV in
theorem Gf(d:DF K "check_maker" (top 41)):aF P w K mg base "check_maker" 2 ["maker","parts","makers_ahead","all_kinds"] 4 Bv:=by exists ["maker","parts","makers_ahead","all_kinds","part"]
variable(b7:aF P w K mg base "check_maker" 2 ["maker","parts","makers_ahead","all_kinds"] 4 Bv)
theorem Ff(d:DF K "check_ground" (top 42)):aF P w K mg base "check_ground" 1 ["maker","parts","kinds_above"] 3 Bj:=by exists ["maker","parts","kinds_above","part"]
variable(bU:aF P w K mg base "check_ground" 1 ["maker","parts","kinds_above"] 3 Bj)
include b7 bU in
theorem Fe(d:DF K "check_makers" (top 40)):aF P w K mg base "check_makers" 3 ["kinds"] 1 BG:=by exists ["kinds","all_kinds","kinds_above","makers_ahead","kind","makers","first","maker","parts"]
variable(bV:aF P w K mg base "check_makers" 3 ["kinds"] 1 BG)
include cz b4 bV in
theorem Hi(d:DM K af "__init__" "Stock.__init__" (inClass (top 38) 0)):aK P w K mg base "Stock" af 4 ["self","kinds"] 2 (Cf af):=by exists ["self","kinds","kind","makers","maker","parts"]
variable(cF:aK P w K mg base "Stock" af 4 ["self","kinds"] 2 (Cf af))
include bh bx in
theorem LJ(d:DF K "kind_of" (top 26)):aF P w K mg base "kind_of" 24 ["program","names","expression"] 3 (C3 ak aj af):=by exists ["program","names","expression"]
variable(eC:aF P w K mg base "kind_of" 24 ["program","names","expression"] 3 (C3 ak aj af))
theorem Fj(d:DF K "_law_every_maker" (top 50)):aF P w K mg base "_law_every_maker" 1 ["_law_kinds_here"] 1 Bk:=by exists ["_law_kinds_here","_law_made","_law_kind_here","_law_makers_here","_law_maker_here","_law_parts"]
variable(bQ:aF P w K mg base "_law_every_maker" 1 ["_law_kinds_here"] 1 Bk)
theorem Na(d:DF K "_law_class" (top 62)):aF P w K mg base "_law_class" 1 ["_law_kept"] 1 EV:=by exists ["_law_kept","_law_got","_law_names"]
variable(fg:aF P w K mg base "_law_class" 1 ["_law_kept"] 1 EV)
include cD bw br fh cY cB eZ gm bT cA cF eC bQ fg in
theorem WC{f:Addr}{fd:FuncData}(Fu:Fun K "law" "law" (top 64) f fd):CS P w K mg base (CX1 P w) 27 f fd ["_law_script"] (spX K 1 (Ye ak aj af)):=by
 have nd:List.Nodup (["_law_script","_law_head","_law_kinds_here","_law_functions_here","_law_calls_here","_law_names","_law_known","_law_k","_law_name","_law_kind_here","_law_expression","_law_words_here","_law_due","_law_told","_law_kept","_law_program","_law_handed","e"]:List Str):=by decide +kernel
 refine Es (N:=["_law_script","_law_head","_law_kinds_here","_law_functions_here","_law_calls_here","_law_names","_law_known","_law_k","_law_name","_law_kind_here","_law_expression","_law_words_here","_law_due","_law_told","_law_kept","_law_program","_law_handed","e"]) Fu ⟨rfl,rfl,rfl,nd,rfl,by decide +kernel,by decide +kernel⟩ _ _ rfl rfl ?_;trivial
end
def ON(K:Fg):Sp:=λvs H Q _=>∃(a:Addr)(ns:List Int),vs=[.ref a]/\SqL K H a (ns.map V.int)/\ns.length<=63/\Cs ns<=2^20/\∀H',Q (.v true) H'
theorem Ks{K:Fg}{F:Wd}{H:Hp}:∀(ns:List Int),Ad K F H (ns.map T.int) (ns.map V.int)
 | []=>by simp[Ad]
 |n::ns=>by simp only[tR,Ad];exact⟨_,_,rfl,by simp[Ar],Ks ns⟩
theorem WX{K:Fg}{Fn:FS->Out Rv}(good:∀ns:List Int,ns.length<=63->Cs ns<=2^20->∃fs,Fn [some (.val (.zY (ns.map T.int)))]=.ok (.t (.v true)) fs):∀vs H Q E,ON K vs H Q E->spX K 1 Fn vs H Q E:=by
 intro vs H Q E ⟨a,ns,e,hs,hl,hb,k⟩;subst e;obtain⟨fs,eg⟩:=good ns hl hb;have key:∀F:Wd,StL K F H a (ns.map V.int)->(∀b,F b->H b≠none)->(∀b,¬F.p b)->spX K 1 Fn [.ref a] H Q E:=λF st fd np=>by
  refine⟨rfl,F,[some (.val (.zY (ns.map T.int)))],⟨[],?_,uF,(λ_ m=>nomatch m),fd,?_,λb p=>(np b p).elim,λb _ p=>np b p,(λ_ m=>nomatch m)⟩,?_⟩
  .show An K F H [some (.val (.zY (ns.map T.int)))] [some (.ref a)] [];simp only[An];exact⟨_,_,rfl,by simp only[Ar];exact⟨a,_,rfl,st,Ks ns⟩,by first|exact⟨rfl,rfl⟩|trivial⟩
  .intro i o e;cases i with|zero=>cases e|succ i=>simp at e
  .rw[eg];intro F' H' u au _ q;obtain⟨L,L',_,⟨_,qu⟩,_⟩:=q;have:u=.v true:=qu;subst this;exact k H'
 rcases hs with hs|hs
 .exact key ⟨λb=>b=a,λ_=>False⟩ (.inl ⟨rfl,hs⟩) (λb e=>by have e':b=a:=e;subst e';rcases hs with z|⟨o,z⟩<;>(rw[z];exact λq=>nomatch q)) λ_ p=>p
 .exact key ⟨λ_=>False,λ_=>False⟩ (.inr hs) (λb e=>e.elim) λ_ p=>p
theorem all_mk{l:OpenLaw}{w:World}{K:Fg}{h:Heap}{mg:Str->Option Value}{fa ak aj af:Addr}(X:K.In h)(G:h.Ns mainGlobals mg)(qC:mg "law"=some (.ref fa))(bG:CC K "Program" ak)(cy:CC K "Scope" aj)(cz:CC K "Stock" af)(T:Tx K mg ak aj af)
  (d0:DF K "_law_mix" (top 45))
  (d1:DF K "_law_letters" (top 46))
  (d2:DF K "_law_words" (top 47))
  (d3:DF K "_law_cell_at" (top 44))
  (d4:DF K "_law_kinds" (top 48))
  (d5:DF K "_law_copy_row" (top 55))
  (d6:DF K "_law_makers" (top 49))
  (d7:DF K "_law_put" (top 54))
  (d8:DF K "_law_least" (top 51))
  (d9:DF K "_law_stream" (top 52))
  (pb:DF K "_law_grown" (top 53))
  (pe:DF K "_law_body" (top 56))
  (ph:DF K "_law_function" (top 57))
  (pj:DF K "_law_functions" (top 58))
  (pk:DF K "_law_calls" (top 59))
  (pq:DF K "_law_maker" (top 60))
  (pw:DF K "_law_kind" (top 61))
  (px:DF K "is_name" (top 21))
  (pz:DM K af "makers" "Stock.makers" (inClass (top 38) 2))
  (pA:DM K af "kinds" "Stock.kinds" (inClass (top 38) 1))
  (pB:DF K "is_maker" (top 31))
  (pC:DF K "check_head" (top 30))
  (pE:DM K af "parts" "Stock.parts" (inClass (top 38) 3))
  (pF:DF K "check_names" (top 33))
  (pG:DM K af "home" "Stock.home" (inClass (top 38) 4))
  (pH:DF K "kinds_of_head" (top 29))
  (pI:DF K "kind_of_name" (top 28))
  (pJ:DF K "kind_within" (top 27))
  (pK:DM K aj "__init__" "Scope.__init__" (inClass (top 25) 0))
  (pL:DF K "check_row" (top 32))
  (pM:DM K ak "__init__" "Program.__init__" (inClass (top 24) 0))
  (pN:DF K "_law_bent_body" (top 63))
  (pO:DF K "check_kinds" (top 39))
  (pP:DF K "check_maker" (top 41))
  (pQ:DF K "check_ground" (top 42))
  (pR:DF K "check_makers" (top 40))
  (pS:DM K af "__init__" "Stock.__init__" (inClass (top 38) 0))
  (pT:DF K "kind_of" (top 26))
  (pU:DF K "_law_every_maker" (top 50))
  (pV:DF K "_law_class" (top 62))
  (pW:DF K "law" (top 64)) :
  ∃fd:FuncData,(∀(s:Shared)(v:Value),BindsTo s fd ⟨[v],[]⟩ [("_law_script",v)])/\∀base:Heap,K.In base->base.Ns mainGlobals mg->CS l.prog w K mg base (CX1 l.prog w) 27 fa fd ["_law_script"] (ON K):=by
 obtain⟨f,fd,a,F⟩:=pW;cases qC.symm.trans (mg_of X G a);refine⟨fd,by obtain⟨_,_,_,_,_,_,_,_,_,rfl,_⟩:=F.ex;exact λs v=>.of_eq rfl,λbase _ _=>?_⟩;have G0:=SW (P:=l.prog) (w:=w) (base:=base) X G T  d0;have G1:=JD (P:=l.prog) (w:=w) (base:=base) X G T  d1;have G2:=M4 (P:=l.prog) (w:=w) (base:=base) X G T G1 d2;have G3:=JE (P:=l.prog) (w:=w) (base:=base) X G T  d3;have G4:=M7 (P:=l.prog) (w:=w) (base:=base) X G T G0 G2 G3 d4;have G5:=Iy (P:=l.prog) (w:=w) (base:=base) X G T  d5;have G6:=LM (P:=l.prog) (w:=w) (base:=base) X G T  d6;have G7:=SV (P:=l.prog) (w:=w) (base:=base) X G T  d7;have G8:=M6 (P:=l.prog) (w:=w) (base:=base) X G T G6 d8;have G9:=LL (P:=l.prog) (w:=w) (base:=base) X G T G6 G8 d9;have me:=M8 (P:=l.prog) (w:=w) (base:=base) X G T G9 pb;have oo:=Pg (P:=l.prog) (w:=w) (base:=base) X G T G7 G9 me pe;have oq:=Iw (P:=l.prog) (w:=w) (base:=base) X G T G0 G2 G6 oo ph;have ot:=Hl (P:=l.prog) (w:=w) (base:=base) X G T G0 G2 G3 G5 oq pj;have ou:=Nb (P:=l.prog) (w:=w) (base:=base) X G T  pk;have oy:=M5 (P:=l.prog) (w:=w) (base:=base) X G T  pq;have oz:=Pf (P:=l.prog) (w:=w) (base:=base) X G T oy pw;have jK:=LK (P:=l.prog) (w:=w) (base:=base) X G T  px;have kq:=Fh (P:=l.prog) (w:=w) (base:=base) X G T  pz;have mf:=Gi (P:=l.prog) (w:=w) (base:=base) X G T  pA;have oA:=JC (P:=l.prog) (w:=w) (base:=base) X G T kq mf pB;have oB:=Hh (P:=l.prog) (w:=w) (base:=base) X G T jK kq mf oA pC;have mh:=Gh (P:=l.prog) (w:=w) (base:=base) X G T  pE;have oC:=Ge (P:=l.prog) (w:=w) (base:=base) X G T jK pF;have oE:=Hj (P:=l.prog) (w:=w) (base:=base) X G T  pG;have oF:=EB (P:=l.prog) (w:=w) (base:=base) X G T mh oE pH;have oG:=Fc (P:=l.prog) (w:=w) (base:=base) X G T  pI;have mi:=Gd (P:=l.prog) (w:=w) (base:=base) X G T oF oG pJ;have mj:=Hk (P:=l.prog) (w:=w) (base:=base) X G T cy pK;have oH:=Iv (P:=l.prog) (w:=w) (base:=base) X G T mh oC mi mj pL;have oI:=Fi (P:=l.prog) (w:=w) (base:=base) X G T bG kq oB oH pM;have oJ:=Hm (P:=l.prog) (w:=w) (base:=base) X G T  pN;have oK:=Gg (P:=l.prog) (w:=w) (base:=base) X G T jK pO;have oM:=Gf (P:=l.prog) (w:=w) (base:=base) X G T jK pP;have oN:=Ff (P:=l.prog) (w:=w) (base:=base) X G T  pQ;have oO:=Fe (P:=l.prog) (w:=w) (base:=base) X G T oM oN pR;have oP:=Hi (P:=l.prog) (w:=w) (base:=base) X G T cz oK oO pS;have oQ:=LJ (P:=l.prog) (w:=w) (base:=base) X G T mi mj pT;have oR:=Fj (P:=l.prog) (w:=w) (base:=base) X G T  pU;have oS:=Na (P:=l.prog) (w:=w) (base:=base) X G T  pV;exact(WC (P:=l.prog) (w:=w) (base:=base) X G T G0 G2 G3 G4 me ot ou oz oI oJ oP oQ oR oS F).imp (WX (good ak aj af))
theorem exG{α:Type}{K:Fg}{h:Heap}{mg:Str->Option Value}{x:Str}{v:α->Value}{t:α}(X:K.In h)(G:h.Ns mainGlobals mg)(e:nsIn K mainGlobals x=some (some (v t))):∃t,mg x=some (v t):=⟨t,mg_of X G e⟩
theorem naG{K:Fg}{C:Addr}{f:Str}(e:findIn K (.ref C) f=some none):Ba K C f:=e
theorem walk{l:OpenLaw}{q:Program}{loose:List Str}{XP:(Str->Option Value)->Heap->Prop}{d:DefRec}{K:Params->Fg}{as:List Addr}{N tk:Nat}(hn:l.most=some 63)(i7:d.params.defaults=[])(hK:∀P:Params,as=(K P).map (·.1))
  (F:∀(w:World)(mg:Str->Option Value)(fa:Addr)(h:Heap),(K w.params).In h->h.Ns mainGlobals mg->mg d.name=some (.ref fa) ->
   ∃fd:FuncData,(∀(s:Shared)(u:Value),BindsTo s fd ⟨[u],[]⟩ [("_law_script",u)])/\∀base:Heap,(K w.params).In base->base.Ns mainGlobals mg->CS l.prog w (K w.params) mg base (CX1 l.prog w) 27 fa fd ["_law_script"] (ON (K w.params))) :
  WalkX q loose XP (PySem.W.X.obsZ as) (PySem.W.X.valZ K N tk) l.row.toRowW d [] (λf vs=>PySem.call f vs) :=
 L2.Jo (n:=63) (k:=27) (x:="_law_script") (CX:=λw=>CX1 l.prog w) (sp:=ON) hn (by decide) i7 ⟨rfl,by decide,by decide⟩ hK F (λ_ _ a ns hl hb _ hS=>⟨a,ns,rfl,hS,hl,hb,λ_=>rfl⟩) λ_ _ _ _ _ ⟨_,_,_,_,_,_,_,_,_,_,_,q⟩=>q
end Sy
structure PySem.W.Fast:Prop where(tw616997267748389623 tw9785981087649951752 tw5738085797853588390 tw4233252537579536127 tw3904218832524465065 tw8853546157555073350 tw12878438382216036789 tw12238030096458575506 tw7019611494757207845 tw16575121522901866122 tw16468649791302909867 tw14306760725319500231 tw4383308521897886581 tw15791697562802028919 tw393037060310241096 tw4864179514082120438 tw7736043467737291714 tw2995248938926388954 tw4365578401791270368 tw1297833862349225317 tw2589309822466297755 tw8951319068866021157 tw1042769098798686396 tw18382616541029372360 tw1210327528613197410 tw374331953673299319 tw6399280906245984113 tw2647187968332178783 tw2874976417145092409 tw1154436544525322016 tw11878487569002709661 tw5910523738193829059 tw5946042667629867714 tw13151919761029892553 tw7300804395701890902 tw246571715653671221 tw6847917415935379729 tw14847579482285127428 tw14889741002722056221 tw5267394580828056169 tw3343747258001801494 tw3285207845931884863 tw12770254141537575501 tw13155933174367211701 tw13093346064441150678 tw3311429805535213939 tw6534800190491333229 tw9622603808787652938 tw3197659157724815135 tw11876811674295908558 tw12820269700773180696 tw4334112169476720957 tw4312248148630253886 tw1870316428254715557 tw1566213812745030377 tw17342622646604935090 tw17870777741953174947 tw15348798523527428969 tw5102749263783900396 tw8121665558012098797 tw3694192438211799037 tw8272152019415688262 tw8372440853474295888 tw14376361539189678548 tw1293201591103933385 tw12538228134696432084 tw13497492609894948517 tw13917320451389941879 tw779656341409625740 tw13042477637482784681 tw7595762540661418767 tw12412238141970231829 tw17097158866321758762 tw874973191803649066 tw5794213082239246777 tw6111830885657508328 tw3905468974780847053 tw15413967309817897912 tw8742919795077898661 tw15368357030562718540 tw14836594831139539046 tw10733218302817834789 tw4817489060916955297 tw10271637644907951344 tw12161882042116266021 tw9388695954552808437 tw8686273841623991288 tw1759699720605083746 tw18307931305331370706 tw11992936893438547516 tw1817951351762435844 tw7196997375648246841 tw15114826105886762115 tw977499997244727754 tw4168675491686594163 tw15024375495071377557 tw10534480386041644630 tw5782325176984306623 tw10390107911625917191 tw7359048223282737941 tw2937321510606103944 tw4274970603885769858 tw5694254978620702031 tw2548722814171304110 tw4639150194731672829 tw5882620117233873976 tw6298529250581714542 tw8613870854462019799 tw14271589575325607764 tw14243903840386021585 tw6220247271528862472 tw5389456990789565198 tw13811459523375088957 tw17167501017318886496 tw11301379248634974437 tw17609983109107391381 tw1805125526964200983 tw571445894443761267 tw11433616209156396392 tw4093705698556191828 tw6532961947632229911 tw8366598465385169331 tw11942418139850635937 tw5544483201553118648 tw3683822954114827821 tw12511466607201202688 tw13135988860296551168 tw6732687899190511391 tw9373231096829302638 tw5430792241583843307 tw10620229673175852432 tw3880760583415625815 tw5732470400345759761 tw17034938726254071746 tw6718387185456448060 tw4293106203404946866 tw7818701897180807289 tw11962447570037680156 tw4641666934740883010 tw3270022294528497452 tw960664758836708824 tw1544775763341564062 tw2379877302076012723 tw14773201547350928997:True)
open PySem PySem.W PyProof.Rows
set_option maxRecDepth 100000 in
set_option maxHeartbeats 0 in
theorem PySem.Challenge.cw_stairsay_k13_kinds_of_expressions_holds : PySem.Challenge.rw_stairsay_k13_kinds_of_expressions.Holds := by
 w_on;o_law;z_head;(case hw=>w_witness2)
 k_fill
 refine Sy.walk (l:=PySem.Challenge.rw_stairsay_k13_kinds_of_expressions) rfl rfl (λP=>rfl) ?F
 case F =>
  intro w mg fa h KX G je;refine' Sy.all_mk KX G je ⟨?_,?_,?_⟩ ⟨?_,?_,?_⟩ ⟨?_,?_,?_⟩ ⟨PySem.W.mg_none_of KX G ?_,PySem.W.mg_none_of KX G ?_,PySem.W.mg_none_of KX G ?_,PySem.W.mg_none_of KX G ?_,PySem.W.mg_none_of KX G ?_,PySem.W.mg_none_of KX G ?_,PySem.W.mg_none_of KX G ?_,PySem.W.mg_none_of KX G ?_,PySem.W.mg_none_of KX G ?_,PySem.W.mg_none_of KX G ?_,PySem.W.mg_none_of KX G ?_,PySem.W.mg_none_of KX G ?_,PySem.W.mg_none_of KX G ?_,PySem.W.mg_none_of KX G ?_,PySem.W.mg_none_of KX G ?_,Sy.exG KX G ?_,Sy.exG KX G ?_,Sy.exG KX G ?_,Sy.exG KX G ?_,Sy.exG KX G ?_,Sy.exG KX G ?_,⟨?_,?_,?_,?_⟩,⟨?_,?_,?_,?_⟩,⟨?_,?_,?_,?_⟩,Sy.naG ?_,Sy.naG ?_,Sy.naG ?_,Sy.naG ?_,Sy.naG ?_,Sy.naG ?_,Sy.naG ?_,Sy.naG ?_,Sy.naG ?_,Sy.naG ?_,Sy.naG ?_,.of KX G (by kernel_rfl)⟩ ⟨_,_,?_,L2.Aw ?_ ?_ ?_⟩ ⟨_,_,?_,L2.Aw ?_ ?_ ?_⟩ ⟨_,_,?_,L2.Aw ?_ ?_ ?_⟩ ⟨_,_,?_,L2.Aw ?_ ?_ ?_⟩ ⟨_,_,?_,L2.Aw ?_ ?_ ?_⟩ ⟨_,_,?_,L2.Aw ?_ ?_ ?_⟩ ⟨_,_,?_,L2.Aw ?_ ?_ ?_⟩ ⟨_,_,?_,L2.Aw ?_ ?_ ?_⟩ ⟨_,_,?_,L2.Aw ?_ ?_ ?_⟩ ⟨_,_,?_,L2.Aw ?_ ?_ ?_⟩ ⟨_,_,?_,L2.Aw ?_ ?_ ?_⟩ ⟨_,_,?_,L2.Aw ?_ ?_ ?_⟩ ⟨_,_,?_,L2.Aw ?_ ?_ ?_⟩ ⟨_,_,?_,L2.Aw ?_ ?_ ?_⟩ ⟨_,_,?_,L2.Aw ?_ ?_ ?_⟩ ⟨_,_,?_,L2.Aw ?_ ?_ ?_⟩ ⟨_,_,?_,L2.Aw ?_ ?_ ?_⟩ ⟨_,_,?_,L2.Aw ?_ ?_ ?_⟩ ⟨_,_,?_,?_,L2.Aw ?_ ?_ ?_⟩ ⟨_,_,?_,?_,L2.Aw ?_ ?_ ?_⟩ ⟨_,_,?_,L2.Aw ?_ ?_ ?_⟩ ⟨_,_,?_,L2.Aw ?_ ?_ ?_⟩ ⟨_,_,?_,?_,L2.Aw ?_ ?_ ?_⟩ ⟨_,_,?_,L2.Aw ?_ ?_ ?_⟩ ⟨_,_,?_,?_,L2.Aw ?_ ?_ ?_⟩ ⟨_,_,?_,L2.Aw ?_ ?_ ?_⟩ ⟨_,_,?_,L2.Aw ?_ ?_ ?_⟩ ⟨_,_,?_,L2.Aw ?_ ?_ ?_⟩ ⟨_,_,?_,?_,L2.Aw ?_ ?_ ?_⟩ ⟨_,_,?_,L2.Aw ?_ ?_ ?_⟩ ⟨_,_,?_,?_,L2.Aw ?_ ?_ ?_⟩ ⟨_,_,?_,L2.Aw ?_ ?_ ?_⟩ ⟨_,_,?_,L2.Aw ?_ ?_ ?_⟩ ⟨_,_,?_,L2.Aw ?_ ?_ ?_⟩ ⟨_,_,?_,L2.Aw ?_ ?_ ?_⟩ ⟨_,_,?_,L2.Aw ?_ ?_ ?_⟩ ⟨_,_,?_,?_,L2.Aw ?_ ?_ ?_⟩ ⟨_,_,?_,L2.Aw ?_ ?_ ?_⟩ ⟨_,_,?_,L2.Aw ?_ ?_ ?_⟩ ⟨_,_,?_,L2.Aw ?_ ?_ ?_⟩ ⟨_,_,?_,L2.Aw ?_ ?_ ?_⟩
  all_goals try k_is
