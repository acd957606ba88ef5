import PyProof.Rows.All
import Wide.All
import OpenK.AllK
import Wide.FinOn
import PyProof.EqAt
import PyProof.EqKinds
import PyProof.TupleCall
import PyProof.DictWalks
import KE.KSortTup
import KE.KTryMore
import PyProof.NsDelKeeps
import PyProof.ReprStr
import PyProof.StrLawsRepr
import PyProof.Rows.FStr
import PyProof.ListMulRoad
import PyProof.FactsAll.tuple_2
import KE.KPairComp
import PyProof.AttrMissHeap
import PyProof.FactsAll.zip_1
import KE.KDictOf
import KE.KMinBuiltin
import PyProof.Rows.CallKwBuiltin
import KE.KEqDict
import PySem.Challenge.RW_stairsay_k12_rows_told
set_option Elab.async false
set_option linter.all false
set_option maxRecDepth 100000
set_option maxHeartbeats 4000000
set_option bootstrap.genMatcherCode false
set_option genSizeOf false
noncomputable section
open PySem.W (Frag instObj methodObj lookIn InstAt plainGet hasDictIn findIn handedIn plainGet_of isFn plainOver takerIn makesIn emptyDict keepIn specialIn takesIn mroIn kitOne kia_one kitx_list kitx_dict methodCall_KW callWith_K fnOf codeIn excIn exmOne Looks clsIn OpenLaw WalkO WalkX nsIn mg_of)
open PyProof.Rows (callWith_type1 slot_tuple_getitem boot_sum boot_all boot_list boot_tuple boot_int boot_isinstance boot_dict envOfC boot_any)
open PySem.F (slot_tuple_add entry_tuple_add args_tuple_add_2)
abbrev aa:=@PySem.wpAny_bind
abbrev af:=@PySem.Heap.get?_push_of_some
abbrev ag:=@List.getElem?_eq_getElem
abbrev ah:=@List.nodup_append
abbrev aj:=@List.map_cons
abbrev ak:=@List.getElem?_eq_some_iff
abbrev ao:=@List.mem_cons_of_mem
abbrev aq:=@List.map_append
abbrev ar:=@List.length_map
abbrev au:=@PySem.wpAny_pure
abbrev av:=@List.mem_append
abbrev ax:=@List.size_toArray
abbrev az:=@PySem.Heap.lt_size
abbrev aA:=@Option.map_eq_some_iff
abbrev aB:=@List.mem_append_left
abbrev aC:=@List.mem_append_right
abbrev aD:=@PySem.Heap.get?_push_size
abbrev aE:=@Nat.lt_of_lt_of_le
abbrev aG:=@List.mem_singleton
abbrev aH:=@List.mem_cons
abbrev aI:=@List.mem_map
abbrev aJ:=@Nat.le_refl
abbrev aL:=@Bool.and_eq_true
abbrev aN:=@List.mem_cons_self
abbrev aO:=@of_decide_eq_true
abbrev aP:=@List.getElem?_map
abbrev aQ:=@Bool.false_ne_true
abbrev aR:=@Nat.le_trans
abbrev aS:=@Nat.ne_of_lt
abbrev aT:=@decide_eq_false
abbrev aU:=@List.map_map
abbrev aV:=@decide_eq_true
abbrev aW:=@List.nodup_nil
abbrev aX:=@List.length_cons
abbrev aY:=@PySem.wpAny_field
abbrev aZ:=@List.not_mem_nil
abbrev ba:=@Option.bind_eq_some_iff
abbrev bg:=@List.length_append
abbrev bh:=@List.nodup_cons
abbrev bj:=@List.append_nil
abbrev bp:=@List.getElem?_set_self
abbrev bq:=@List.mem_of_getElem?
abbrev br:=@List.lookup_cons
abbrev bt:=@List.length_take
abbrev bu:=@List.append_assoc
abbrev bw:=@List.getElem?_set_ne
abbrev bx:=@List.all_eq_true
abbrev bz:=@List.pairwise_iff_getElem
abbrev bA:=@Nat.lt_irrefl
abbrev bB:=@List.mem_iff_getElem?
abbrev bC:=@Bool.false_eq_true
abbrev bD:=@Int.toNat_natCast
abbrev bE:=@Option.bind_some
abbrev bF:=@PySem.Heap.size_push
abbrev bG:=@List.length_range
abbrev bH:=@List.mem_filter
abbrev bI:=@PySem.Heap.get?_update_other
abbrev bJ:=@List.getElem?_append_right
abbrev bK:=@List.mem_flatMap
abbrev bL:=@List.mem_of_mem_take
abbrev bM:=@Option.isSome_iff_exists
abbrev bN:=@List.nil_append
abbrev bO:=@Bool.eq_iff_iff
abbrev bP:=@Array.length_toList
abbrev bQ:=@List.length_drop
abbrev bR:=@List.getElem_map
abbrev bS:=@List.eq_nil_of_length_eq_zero
abbrev bT:=@List.mem_range
abbrev bU:=@List.take_of_length_le
abbrev bV:=@List.append_of_mem
abbrev bW:=@Nat.lt_trans
abbrev bX:=@List.forIn_cons
abbrev bY:=@Bool.or_eq_true
abbrev bZ:=@Array.getElem?_eq_some_iff
abbrev b4:=@List.getElem?_append_left
abbrev b7:=@Array.getElem?_eq_getElem
abbrev b8:=@List.map_fst_zip
abbrev b9:=@List.map_flatMap
abbrev cb:=@List.filter_cons
abbrev cf:=@List.cons_append
abbrev cg:=@List.length_pos_iff
abbrev cj:=@List.getElem_of_mem
abbrev cm:=@List.filterMap_cons
abbrev cn:=@List.map_nil
abbrev cq:=@List.of_mem_zip
abbrev cu:=@List.getElem?_cons_zero
abbrev cw:=@List.find?_cons
abbrev cx:=@List.any_cons
abbrev cy:=@List.take_sublist
abbrev cz:=@List.take_append_drop
abbrev cA:=@List.getElem?_eq_none
abbrev cB:=@PySem.Heap.get?_update_self
abbrev cD:=@List.mem_of_mem_drop
abbrev cE:=@Option.map_some
abbrev cF:=@List.length_zip
abbrev cG:=@Nat.ne_of_gt
abbrev cH:=@Nat.le_of_lt
abbrev cI:=@List.mem_filterMap
abbrev cJ:=@Int.emod_lt_of_pos
abbrev cK:=@List.mem_take_iff_getElem
abbrev cL:=@List.drop_eq_getElem_cons
abbrev cM:=@List.reverse_cons
abbrev cN:=@List.getElem?_take_of_lt
abbrev cO:=@List.any_eq_false
abbrev cQ:=@List.pairwise_singleton
abbrev cR:=@List.all_cons
abbrev cS:=@List.any_eq_true
abbrev cU:=@List.drop_eq_nil_of_le
abbrev Fg:=Frag
namespace L2
open PySem PySem.Spec PyProof.Rows
abbrev Key:=Sum Int Str
noncomputable def Gz:Key->Value->Bool
 |.inl k,v=>Value.isInt k v
 |.inr x,v=>Value.isStrOf x v
noncomputable def JbJ(w:World):Key->Int
 |.inl k=>hashInt k
 |.inr x=>hashStr w x
theorem AX:∀{k:Key}{v:Value},Gz k v=true->(∃i t,k=Sum.inl i/\v=Value.int i t)\/(∃x t,k=Sum.inr x/\v=Value.str x t)
 |.inl i,v,h=>by obtain⟨t,e⟩:=Value.isInt_shape (k:=i) (v:=v) h;exact .inl ⟨i,t,rfl,e⟩
 |.inr x,v,h=>by obtain⟨t,e⟩:=Value.isStrOf_shape (x:=x) (v:=v) h;exact .inr ⟨x,t,rfl,e⟩
theorem Ny(i:Int)(t:Tok):Gz (.inl i) (.int i t)=true:=by simp[Gz,Value.isInt]
theorem Nu(x:Str)(t:Tok):Gz (.inr x) (.str x t)=true:=by simp[Gz,Value.isStrOf]
theorem WB(a b:Int):decide ((Sum.inl a:Key)=Sum.inl b)=(a==b):=by
 by_cases e:a=b
 .subst e;simp
 .have h:¬(Sum.inl a:Key)=Sum.inl b:=λq=>e (Sum.inl.inj q)
  rw[aT h];exact(beq_eq_false_iff_ne.mpr e).symm
theorem Wy(a b:Str):decide ((Sum.inr a:Key)=Sum.inr b)=decide (a=b):=by
 by_cases e:a=b
 .subst e;simp
 .have h:¬(Sum.inr a:Key)=Sum.inr b:=λq=>e (Sum.inr.inj q)
  rw[aT h,aT e]
theorem WA(a:Int)(b:Str):decide ((Sum.inl a:Key)=Sum.inr b)=false:=aT (λq=>nomatch q)
theorem Wz(a:Str)(b:Int):decide ((Sum.inr a:Key)=Sum.inl b)=false:=aT (λq=>nomatch q)
noncomputable def A0(prog:Program)(w:World):PySem.KeyKind prog w Key where
 is:=Gz
 hash:=JbJ w
 inj:=λv a b ha hb=>by
  rcases AX ha with⟨i,t,rfl,rfl⟩|⟨x,t,rfl,rfl⟩
  .rcases AX hb with⟨j,u,rfl,e⟩|⟨y,u,rfl,e⟩
   .injection e with e1 _;rw[e1]
   .exact nomatch e
  .rcases AX hb with⟨j,u,rfl,e⟩|⟨y,u,rfl,e⟩
   .exact nomatch e
   .injection e with e1 _;rw[e1]
 byValue:=λk v h=>by rcases AX h with⟨i,t,rfl,rfl⟩|⟨x,t,rfl,rfl⟩<;>rfl
 pyHash:=λhv h=>by
  rcases AX hv with⟨i,t,rfl,rfl⟩|⟨x,t,rfl,rfl⟩
  .exact wpAny_pyHash_int h
  .exact wpAny_pyHash_str h
 eqBool:=λhu hv h=>by
  rcases AX hu with⟨i,t,rfl,rfl⟩|⟨x,t,rfl,rfl⟩
  .rcases AX hv with⟨j,u,rfl,rfl⟩|⟨y,u,rfl,rfl⟩
   .rw[WB]at h;exact wpAny_eqBool_int h
   .rw[WA]at h;exact SeqAt.EqAt.int_str i t y u _ _ _ _ h
  .rcases AX hv with⟨j,u,rfl,rfl⟩|⟨y,u,rfl,rfl⟩
   .rw[Wz]at h;exact SeqAt.EqAt.str_int x t j u _ _ _ _ h
   .rw[Wy]at h;exact wpAny_eqBool_str h
 «strs»:=λk x t v h=>by
  rcases AX h with⟨i,u,rfl,e⟩|⟨y,u,rfl,e⟩
  .exact nomatch e
  .injection e with e1 _
   subst e1;cases v<;>rfl
theorem JR(prog:Program)(w:World)(i:Int)(t:Tok):(A0 prog w).is (.inl i) (.int i t)=true:=Ny i t
theorem JQ(prog:Program)(w:World)(x:Str)(t:Tok):(A0 prog w).is (.inr x) (.str x t)=true:=Nu x t
inductive V where
 |v|o (b:Bool)|int (i:Int)|str (x:Str)|zG (b:Array UInt8)|zg (b:UInt64)|ref (a:Addr)|ty (n:String)
 deriving DecidableEq
def RelV:V->Value->Prop
 |.v,u=>u=Value.none
 |.o b,u=>u=Value.bool b
 |.int i,u=>∃t,u=Value.int i t
 |.str x,u=>∃t,u=Value.str x t
 |.zG b,u=>∃t,u=Value.bytes b t
 |.zg b,u=>∃t,u=Value.float b t
 |.ref a,u=>u=Value.ref a
 |.ty n,u=>u=Value.type n
abbrev Vals:List V->List Value->Prop:=Paired RelV
theorem Vals.length{xs:List V}{us:List Value}(r:Vals xs us):xs.length=us.length:=Paired.length r
theorem Vals.get:∀{xs:List V}{us:List Value}{i:Nat}{x:V},Vals xs us->xs[i]?=some x->∃u,us[i]?=some u/\RelV x u
 |_,_,_,_,.nil,e=>by simp at e
 |_,_,0,_,.cons r _,e=>by simp at e;subst e;exact⟨_,rfl,r⟩
 |_,_,i+1,x,.cons _ t,e=>by obtain⟨u,h1,h2⟩:=Vals.get (i:=i) (x:=x) t (by simpa using e);exact⟨u,by simpa using h1,h2⟩
theorem Vals.set{x:V}{u:Value}(r:RelV x u):∀{xs:List V}{us:List Value}(i:Nat),Vals xs us->Vals (xs.set i x) (us.set i u)
 |_,_,_,.nil=>.nil
 |_,_,0,.cons _ t=>.cons r t
 |_,_,i+1,.cons q t=>.cons q (Vals.set r i t)
theorem Vals.append:∀{xs ys:List V}{us ws:List Value},Vals xs us->Vals ys ws->Vals (xs++ys) (us++ws)
 |_,_,_,_,.nil,s=>s
 |_,_,_,_,.cons r t,s=>.cons r (Vals.append t s)
theorem Vals.take:∀{xs:List V}{us:List Value}(n:Nat),Vals xs us->Vals (xs.take n) (us.take n)
 |_,_,0,_=>.nil
 |_,_,_+1,.nil=>.nil
 |_,_,n+1,.cons r t=>.cons r (Vals.take n t)
theorem Vals.drop:∀{xs:List V}{us:List Value}(n:Nat),Vals xs us->Vals (xs.drop n) (us.drop n)
 |_,_,0,r=>r
 |_,_,_+1,.nil=>.nil
 |_,_,n+1,.cons _ t=>Vals.drop n t
def Ap:Option V->Option Value->Prop
 |some v,some u=>RelV v u
 |none,none=>True
 |_,_=>False
def KV{κ:Type}:List (κ×V)->List (κ×Value)->Prop:=Paired λ(p:κ×V)(q:κ×Value)=>p.1=q.1/\RelV p.2 q.2
noncomputable def kV:Key->V
 |.inl i=>.int i
 |.inr x=>.str x
inductive HO where
 |lst (xs:List V)
 |tup (xs:List V)
 |l (kvs:List (Key×V))|dT (kvs:List (List Key×V))
 |set (S:Int->Bool) (n:Nat)
 |ins (C dx:Addr) (fs:List (Str×V))
 |own (x:Addr)
 |xd (fs:List (Str×V))
 |met (f x:Addr)
 |yU (lo hi:Int)
 |frz (o:Obj) (u:HO)
 |zi (ps:Array Value)
 |ext (φ:Heap->Prop)
abbrev Hp:=Addr->Option HO
noncomputable def upd(H:Hp)(a:Addr)(o:HO):Hp:=λb=>if b=a then some o else H b
theorem Ak{H:Hp}{a:Addr}{o:HO}:upd H a o a=some o:=by unfold upd;rw[if_pos rfl]
theorem Ai{H:Hp}{a b:Addr}{o:HO}(h:b≠a):upd H a o b=H b:=by unfold upd;rw[if_neg h]
theorem ZU{H:Hp}{a b:Addr}{o u:HO}(h:H a=some o)(h':H b=some u)(d:o≠u):a≠b:=by intro e;subst e;rw[h]at h';exact d (Option.some.inj h')
theorem Bb{H:Hp}{a b:Addr}{o:HO}(h:H a=some o)(h':H b=none):a≠b:=by intro e;subst e;rw[h]at h';cases h'
section
variable(P:Program)(w:World)
def A4(H:Hp)(h:Heap)(a:Addr):HO->Prop
 |.lst xs=>xs.length<=sizeLine/\∃(its:List Value)(n:Nat),Vals xs its/\h.get? a=some {cls:=.type "list",data:=.seq its.toArray n}
 |.tup xs=>xs.length<=sizeLine/\∃its:List Value,Vals xs its/\IsTup h a its.toArray
 |.l kvs=>kvs.length<=sizeLine/\(a==sysModules)=false/\∃vs,KV kvs vs/\h.DictOf (A0 P w) a vs
 |.dT kvs=>kvs.length<=sizeLine/\(a==sysModules)=false/\∃xs:List (List Key×Addr×Value),
   Paired (λ(p:List Key×V)(q:List Key×Addr×Value)=>p.1=q.1/\H q.2.1=some (.tup (p.1.map kV))/\RelV p.2 q.2.2) kvs xs /\
   ∃o es ep,h.get? a=some o/\o.ExactDict/\o.data=.dict es ep/\es.toList=xs.map (entryOfKey (tupleKind (A0 P w)))/\(xs.map (·.1)).Nodup
 |.set S n=>h.SetOf (intKind P w) a S n
 |.ins C dx fs=>H dx=some (.own a)/\fs.length<=1000/\dx≠a/\h.get? a=some (instObj C dx) /\
   ∃mA,h.Ns1 dx mA/\(∀f,Ap (fs.lookup f) (mA f))/\PySem.Within mA (fs.map (·.1))
 |.own _=>∃o,h.get? a=some o
 |.xd fs=>∃mA,h.Ns1 a mA/\∀f,Ap (fs.lookup f) (mA f)
 |.yU lo hi=>∃t u v,h.get? a=some {cls:=.type "range",data:=.fields #[.int lo t,.int hi u,.int 1 v]}
 |.frz o u=>h.get? a=some o/\A4 H h a u
 |.zi ps=>h.get? a=some {cls:=.none,data:=.fields ps}
 |.met f x=>h.get? a=some (methodObj (.ref f) (.ref x))
 |.ext φ=>φ h/\(∃o,h.get? a=some o)/\∀h1 h2:Heap,φ h1->(∀o,h1.get? a=some o->h2.get? a=some o)->φ h2
def HOk(H:Hp)(h:Heap):Prop:=∀a o,H a=some o->A4 P w H h a o
end
section
variable{P:Program}{w:World}{H H':Hp}{h h':Heap}{a:Addr}{o:HO}
theorem A4.lt(x:A4 P w H h a o):a<h.objs.size:=by cases o with|lst xs=>obtain⟨_,_,_,_,e⟩:=x;exact az e|tup xs=>obtain⟨_,_,_,p⟩:=x;exact p.lt|l kvs=>obtain⟨_,_,_,_,o,_,_,e,_⟩:=x;exact az e|dT kvs=>obtain⟨_,_,_,_,o,_,_,e,_⟩:=x;exact az e|set S n=>obtain⟨o,_,_,_,e,_⟩:=x;exact az e|ins C dx fs=>obtain⟨_,_,_,e,_⟩:=x;exact az e|own y=>obtain⟨_,e⟩:=x;exact az e|xd fs=>obtain⟨_,⟨_,_,_,e,_⟩,_⟩:=x;exact az e|yU lo hi=>obtain⟨_,_,_,e⟩:=x;exact az e|frz ob u=>obtain⟨e,_⟩:=x;exact az e|zi ps=>exact az (show h.get? a=some _ from x)|met f y=>exact az (show h.get? a=some _ from x)|ext φ=>obtain⟨_,⟨_,e⟩,_⟩:=x;exact az e
theorem Paired.ZW{α β:Type}{F G:α->β->Prop}:∀{l₁:List α}{l₂:List β},Paired F l₁ l₂->(∀a b,F a b->G a b)->Paired G l₁ l₂
 |_,_,.nil,_=>.nil
 |_,_,.cons r t,f=>.cons (f _ _ r) (Paired.ZW t f)
theorem A4.MG(x:A4 P w H h a o)(k:∀b u,(b=a\/H b=some (.own a))->h.get? b=some u->h'.get? b=some u)
  (ho:∀b,H b=some (.own a)->H' b=some (.own a)) (ht:∀b xs,H b=some (.tup xs)->H' b=some (.tup xs)):A4 P w H' h' a o:=by
 induction o with|lst xs=>obtain⟨z,its,n,r,e⟩:=x;exact⟨z,its,n,r,k _ _ (.inl rfl) e⟩|tup xs=>obtain⟨z,its,r,ob,e,c⟩:=x;exact⟨z,its,r,ob,k _ _ (.inl rfl) e,c⟩|l kvs=>obtain⟨z,y,vs,r,ob,es,ep,e,c⟩:=x;exact⟨z,y,vs,r,ob,es,ep,k _ _ (.inl rfl) e,c⟩|dT kvs =>obtain⟨z,y,xs,r,ob,es,ep,e,c⟩:=x;exact⟨z,y,xs,Paired.ZW r λp q z=>⟨z.1,ht _ _ z.2.1,z.2.2⟩,ob,es,ep,k _ _ (.inl rfl) e,c⟩|set S n=>obtain⟨ob,es,ep,t,e,c⟩:=x;exact⟨ob,es,ep,t,k _ _ (.inl rfl) e,c⟩|ins C dx fs =>obtain⟨d,z,ne,e,mA,⟨od,es,ep,e2,c⟩,r⟩:=x;exact⟨ho _ d,z,ne,k _ _ (.inl rfl) e,mA,⟨od,es,ep,k _ _ (.inr d) e2,c⟩,r⟩|own y=>obtain⟨ob,e⟩:=x;exact⟨ob,k _ _ (.inl rfl) e⟩|xd fs=>obtain⟨mA,⟨od,es,ep,e,c⟩,r⟩:=x;exact⟨mA,⟨od,es,ep,k _ _ (.inl rfl) e,c⟩,r⟩|yU lo hi=>obtain⟨t,u,v,e⟩:=x;exact⟨t,u,v,k _ _ (.inl rfl) e⟩|frz ob u ih=>obtain⟨e,q⟩:=x;exact⟨k _ _ (.inl rfl) e,ih q⟩|zi ps =>have e:h.get? a=some {cls:=.none,data:=.fields ps}:=x;show h'.get? a=some {cls:=.none,data:=.fields ps};exact k a _ (.inl rfl) e|met f y =>have e:h.get? a=some (methodObj (.ref f) (.ref y)):=x;show h'.get? a=some (methodObj (.ref f) (.ref y));exact k a _ (.inl rfl) e|ext φ=>obtain⟨p,⟨o,e⟩,st⟩:=x;exact⟨st _ _ p λo q=>k _ _ (.inl rfl) q,⟨o,k _ _ (.inl rfl) e⟩,st⟩
theorem HOk.lt(x:HOk P w H h)(e:H a=some o):a<h.objs.size:=(x a o e).lt
theorem HOk.fresh(x:HOk P w H h)(e:h.objs.size<=a):H a=none:=by cases q:H a with|none=>rfl|some u=>exact absurd (aE (x.lt q) e) (bA _)
theorem HOk.kept(x:HOk P w H h)(k:∀b u,h.get? b=some u->h'.get? b=some u):HOk P w H h':=λa o e =>(x a o e).MG (λb u _ q=>k b u q) (λ_ q=>q) λ_ _ q=>q
theorem HOk.laid(x:HOk P w H h)(k:∀b u,h.get? b=some u->h'.get? b=some u)(hp:h.objs.size<=a)(new:A4 P w (upd H a o) h' a o):HOk P w (upd H a o) h':=λb u e=>by
 have hn:=x.fresh hp;by_cases hb:b=a
 .subst hb;rw[Ak]at e;cases e;exact new
 .rw[Ai hb]at e;exact(x b u e).MG (λc v _ q=>k c v q) (λc q=>by rw[Ai (Bb q hn)];exact q) λc xs q=>by rw[Ai (Bb q hn)];exact q
end
def Rd(H:Hp)(a:Addr)(u:HO):Prop:=H a=some u\/∃o,H a=some (.frz o u)
theorem Rd.ok{P:Program}{w:World}{H:Hp}{h:Heap}{a:Addr}{u:HO}(r:Rd H a u)(x:HOk P w H h):A4 P w H h a u:=by
 rcases r with r|⟨o,r⟩
 .exact x a u r
 .obtain⟨_,q⟩:=x a _ r;exact q
def Mut:Option HO->Prop
 |some (.lst _)=>True
 |some (.l _)=>True
 |some (.dT _)=>True
 |some (.set _ _)=>True
 |some (.ins _ _ _)=>True
 |some (.ext _)=>True
 |_=>False
section
variable{P:Program}{w:World}{H:Hp}{h h':Heap}{x e:Addr}{o':HO}
theorem HOk.write(ok:HOk P w H h)(mu:Mut (H x))(he:e=x\/H e=some (.own x))(k:∀b u,b≠e->h.get? b=some u->h'.get? b=some u)(heo:∃u,h'.get? e=some u)
  (new:A4 P w (upd H x o') h' x o'):HOk P w (upd H x o') h':=λb u q=>by
 have nown:∀c y,H c=some (.own y)->c≠x:=λc y r z=>by subst z;rw[r]at mu;exact mu
 have ntup:∀c xs,H c=some (.tup xs)->c≠x:=λc xs r z=>by subst z;rw[r]at mu;exact mu
 by_cases hb:b=x
 .subst hb;rw[Ak]at q;cases q;exact new
 .rw[Ai hb]at q;by_cases hbe:b=e
  .have q':H b=some (.own x):=by
    rcases he with z|z
    .exact absurd (hbe.trans z) hb
    .rw[hbe];exact z
   rw[q]at q';cases q';obtain⟨v,hv⟩:=heo;exact⟨v,by rw[hbe];exact hv⟩
  .refine(ok b u q).MG (λc v hc r=>k c v ?_ r) (λc r=>by rw[Ai (nown c b r)];exact r) λc xs r=>by rw[Ai (ntup c xs r)];exact r
   rcases hc with rfl|hc
   .exact hbe
   .rintro rfl
    rcases he with z|z
    .exact nown c b hc z
    .rw[hc]at z;cases z;exact hb rfl
end
structure Un(fs ex:List Addr)(H H':Hp)(h h':Heap):Prop where
 keep:∀b o,h.get? b=some o->H b=none->b∉fs->b∉ex->h'.get? b=some o
 slot:∀b o,h.get? b=some o->H b=none->b∈fs->b∉ex->∃sl,h'.get? b=some {o with slots:=sl}
 free:∀b o,h.get? b=some o->H b=none->b∉ex->H' b=none
 there:∀b o,h.get? b=some o->b∉ex->∃o',h'.get? b=some o'
 zL:∀b xs,H b=some (.tup xs)->H' b=some (.tup xs)
 zX:∀b o u,H b=some (.frz o u)->H' b=some (.frz o u)
 zN:∀b ps,H b=some (.zi ps)->∃more,H' b=some (.zi (ps++more))
section
variable{fs fs' ex ex':List Addr}{H H1 H2:Hp}{h h1 h2 h':Heap}{a x e:Addr}{o:HO}
theorem Un.any(u:Un fs ex H H1 h h1){b:Addr}{ob:Obj}(q:h.get? b=some ob)(n:H b=none)(hx:b∉ex):∃sl,h1.get? b=some {ob with slots:=sl}:=by
 by_cases hb:b∈fs
 .exact u.slot b ob q n hb hx
 .exact⟨ob.slots,u.keep b ob q n hb hx⟩
theorem Un.kept(k:∀b u,h.get? b=some u->h'.get? b=some u):Un fs ex H H h h' :=
 ⟨λb ob q _ _ _=>k b ob q,λb ob q _ _ _=>⟨ob.slots,k b ob q⟩,λ_ _ _ n _=>n,λb ob q _=>⟨ob,k b ob q⟩,λ_ _ q=>q,λ_ _ _ q=>q,λ_ ps q=>⟨#[],by rw[q];simp⟩⟩
theorem Un.refl:Un fs ex H H h h:=Un.kept λ_ _ q=>q
theorem Un.laid(k:∀b u,h.get? b=some u->h'.get? b=some u)(hp:h.objs.size<=a)(hn:H a=none):Un fs ex H (upd H a o) h h' where
 keep:=λb u q _ _ _=>k b u q
 slot:=λb u q _ _ _=>⟨u.slots,k b u q⟩
 free:=λb u q n _=>by rw[Ai (aS (aE (az q) hp))];exact n
 there:=λb u q _=>⟨u,k b u q⟩
 zL:=λb xs q=>by rw[Ai (Bb q hn)];exact q
 zX:=λb u xs q=>by rw[Ai (Bb q hn)];exact q
 zN:=λb ps q=>⟨#[],by rw[Ai (Bb q hn),q];simp⟩
theorem Un.write(mu:Mut (H x))(he:e=x\/H e=some (.own x))(k:∀b u,b≠e->h.get? b=some u->h'.get? b=some u)(heo:∃u,h'.get? e=some u):Un fs ex H (upd H x o) h h':=by
 have hx:∀b,H b=none->b≠x:=λb n z=>by subst z;rw[n]at mu;exact mu
 have hb:∀b,H b=none->b≠e:=λb n z=>by
  subst z;rcases he with r|r
  .exact hx b n r
  .rw[n]at r;cases r
 have hm:∀b u,H b=some u->¬Mut (some u)->b≠x:=λb u q nm z=>by subst z;rw[q]at mu;exact nm mu
 refine⟨λb u q n _ _=>k b u (hb b n) q,λb u q n _ _=>⟨u.slots,k b u (hb b n) q⟩,λb u q n _=>by rw[Ai (hx b n)];exact n,λb u q _=>?_,
  λb xs q=>by rw[Ai (hm b _ q λz=>z)];exact q,λb u xs q=>by rw[Ai (hm b _ q λz=>z)];exact q,λb ps q=>⟨#[],by rw[Ai (hm b _ q λz=>z),q];simp⟩⟩
 by_cases hbe:b=e
 .subst hbe;exact heo
 .exact⟨u,k b u hbe q⟩
end
noncomputable def trk(h:Heap)(H:Hp):List Addr:=(List.range h.objs.size).filter λa=>(H a).isSome
noncomputable def PQ(h:Heap)(H:Hp):Heap:=PySem.W.hideAll h (trk h H)
theorem NK(h:Heap)(H:Hp):(PQ h H).objs.size=h.objs.size:=PySem.W.hideAll_size _ _
theorem PN{h:Heap}{H:Hp}{b:Addr}{o:Obj}(e:h.get? b=some o)(n:H b=none):(PQ h H).get? b=some o :=
 PySem.W.hideAll_get _ e λhm=>by have q:(H b).isSome=true:=(bH.mp hm).2;rw[n]at q;simp at q
theorem S6{h:Heap}{H:Hp}{b:Addr}{o:Obj}(e:(PQ h H).get? b=some o):h.get? b=some o/\H b=none:=by have e':h.get? b=some o:=PySem.W.of_hideAll (trk h H) e;refine⟨e',?_⟩;cases q:H b with|none=>rfl|some x =>have hm:b∈trk h H:=bH.mpr ⟨bT.mpr (az e'),by simp[q]⟩;have z:(PQ h H).get? b=none:=PySem.W.hideAll_none (trk h H) hm;rw[z]at e;cases e
structure Mod(K:Fg)(mg:Str->Option Value)(base:Heap):Prop where
 zb:K.In base
 glob:base.Ns mainGlobals mg
 blt:∃mb,base.Ns builtinsNs mb/\∀x:Str,x≠"__name__"->mb x=bootBuiltins x
 nolimit:base.NoLimit
structure Cx where
 prog:Program
 w:World
 K:Fg
 mg:Str->Option Value
 base:Heap
 A:Around
 N:List Str
 zZ:Shared
 zu:Hp
 env:Env
 outer:List Env
 stack:List Env
 ex:List Addr
 fn:Str->Bool
 calm:Bool
 pn:List (Addr×Obj)
 xe:Value->Shared->Prop
noncomputable def frs(l:List Env):List Addr:=l.filterMap (·.frame)
abbrev Cx.fs(X:Cx):List Addr:=frs X.outer
def Vis(sc:Scope)(x:Str):Prop:=sc.names.lookup x=some .local\/sc.names.lookup x=some .cell\/sc.names.lookup x=some .free
def Loc(sc:Scope)(x:Str):Prop:=sc.names.lookup x=some .local\/sc.names.lookup x=some .cell
def Look(env:Env)(h:Heap)(m:Str->Option Value)(x:Str)(u:Value):Prop :=
 (env.kindOf x=some .local/\m x=some u)\/((env.kindOf x=some .cell\/env.kindOf x=some .free)/\∃c,env.cells.lookup x=some c/\h.IsCell c (some u))
structure Cx.Ok(X:Cx):Prop where
 mod:Mod X.K X.mg X.base
 kind:X.env.scope.kind=.function
 glob:X.env.globals=mainGlobals
 blt:X.env.builtins=builtinsNs
 above:X.zZ.heap.objs.size<=X.env.locals
 inj:∀x y c,X.env.cells.lookup x=some c->X.env.cells.lookup y=some c->x=y
 has:∀x,(X.env.kindOf x=some .cell\/X.env.kindOf x=some .free)->∃c,X.env.cells.lookup x=some c
 zh:∀x c,X.fn x=true->X.env.cells.lookup x=some c->X.zZ.heap.objs.size<=c
 hd:X.calm=true->X.A.handled=none
 frames:X.A.frames=some X.stack
 y1:X.stack=X.outer\/(X.stack=X.env::X.outer/\X.env.frame=some X.env.locals)
 yX:∀b∈X.ex,b≠X.env.locals/\∀x c,X.env.cells.lookup x=some c->c≠b
 bs:∀b o,X.base.get? b=some o->X.zZ.heap.get? b=some o/\X.zu b=none
 zA:X.base.objs.size<=X.zZ.heap.objs.size
 zx:∀b o,X.base.get? b=some o->b∉X.ex
 zy:∀b∈X.ex,b∉X.fs
 K0:X.zZ.heap.FunFrames X.base X.outer
 zo:∀b∈X.fs,X.zu b=none
structure Inv(X:Cx)(pins:List (Addr×Obj))(U:List (Option V))(H:Hp)(s:Shared):Prop where
 ok:X.Ok
 os:s.os=X.zZ.os
 bare:AllBare s.gens
 base:Un X.fs X.ex X.zu H X.zZ.heap s.heap
 loc:∃m,s.heap.Ns X.env.locals m/\∀(i:Nat)(x:Str)(v:V),X.N[i]?=some x->U[i]?=some (some v)->Vis X.env.scope x->∃u,RelV v u/\Look X.env s.heap m x u
 cell:∀x c,X.env.cells.lookup x=some c->∃v,s.heap.IsCell c v
 free:H X.env.locals=none
 zY:∀x c,X.env.cells.lookup x=some c->H c=none
 pin:∀p∈X.pn++pins,s.heap.get? p.1=some p.2/\H p.1=none/\p.1≠X.env.locals/\p.1∉X.fs/\∀v,p.2.data≠.cell v
 z9:HOk X.prog X.w H s.heap
 len:U.length=X.N.length
section
variable{X:Cx}{pins:List (Addr×Obj)}{U:List (Option V)}{H H':Hp}{s:Shared}{h':Heap}
theorem Cx.Ok.JbG(ok:X.Ok){b:Addr}{o:Obj}(e:X.base.get? b=some o):b∉X.fs:=λhb=>by have:=(ok.K0.mem hb).1;rw[e]at this;cases this
theorem Inv.bs(I:Inv X pins U H s):∀b o,X.base.get? b=some o->s.heap.get? b=some o/\H b=none:=λb o e =>⟨I.base.keep b o (I.ok.bs b o e).1 (I.ok.bs b o e).2 (I.ok.JbG e) (I.ok.zx b o e),I.base.free b o (I.ok.bs b o e).1 (I.ok.bs b o e).2 (I.ok.zx b o e)⟩
theorem Inv.bk(I:Inv X pins U H s):∀b o,X.base.get? b=some o->s.heap.get? b=some o:=λb o e=>(I.bs b o e).1
theorem Inv.mod(I:Inv X pins U H s):Mod X.K X.mg X.base:=I.ok.mod
theorem Inv.kIn(I:Inv X pins U H s):X.K.In s.heap:=I.ok.mod.zb.keeps I.bk
theorem Inv.lt(I:Inv X pins U H s):X.env.locals<s.heap.objs.size:=let⟨_,hn,_⟩:=I.loc;hn.lt
theorem Inv.sz(I:Inv X pins U H s):X.zZ.heap.objs.size<=s.heap.objs.size:=aR I.ok.above (cH I.lt)
theorem Inv.JbF(I:Inv X pins U H s){a:Addr}(h:s.heap.objs.size<=a):a∉X.fs:=λhb=>by obtain⟨_,o,ho,_⟩:=I.ok.K0.mem hb;exact absurd (aE (az ho) (aR I.sz h)) (bA _)
theorem Inv.cne(I:Inv X pins U H s):∀x c,X.env.cells.lookup x=some c->c≠X.env.locals:=λx c e z=>by obtain⟨v,o,ho,hd⟩:=I.cell x c e;obtain⟨m,⟨o',es,ep,ho',hd',_⟩,_⟩:=I.loc;rw[z,ho']at ho;cases ho;rw[hd']at hd;cases hd
theorem Inv.K0(I:Inv X pins U H s):s.heap.FunFrames X.base X.outer:=by
 have all:∀(l:List Env),(∀b∈frs l,b∈X.fs)->X.zZ.heap.FunFrames X.base l->s.heap.FunFrames X.base l:=by
  intro l
  induction l with
  |nil=>intro _ _;trivial
  |cons env r ih =>
   intro hs hl;obtain⟨hk,⟨L,o,hf,hn,ho,hd⟩,hr⟩:=hl;have hL:L∈X.fs:=hs L (by unfold frs;rw[cm,hf];exact aN);obtain⟨sl,e⟩:=I.base.slot L o ho (I.ok.zo L hL) hL λz=>I.ok.zy L z hL
   exact⟨hk,⟨L,_,hf,hn,e,hd⟩,ih (λb hb=>hs b (by unfold frs;rw[cm,hf];exact ao _ hb)) hr⟩
 exact all X.outer (λ_ hb=>hb) I.ok.K0
theorem Inv.stack(I:Inv X pins U H s):s.heap.FunFrames X.base X.stack:=by
 rcases I.ok.y1 with e|⟨e,hf⟩
 .rw[e];exact I.K0
 .rw[e];obtain⟨m,hn,_⟩:=I.loc;refine .cons (by rw[I.ok.kind];decide) hf hn ?_ I.K0;exact Heap.get?_none_of_le (aR I.ok.zA I.ok.above)
theorem Inv.Ih(I:Inv X pins U H s):∀b∈frs X.stack,b∈X.env.locals::X.fs:=λb hb=>by
 rcases I.ok.y1 with e|⟨e,hf⟩
 .rw[e]at hb;exact ao _ hb
 .rw[e]at hb;unfold frs at hb;rw[cm,hf]at hb;exact hb
theorem Inv.Jz(I:Inv X pins U H s):∀b∈frs X.stack,H b=none:=λb hb=>by
 rcases aH.mp (I.Ih b hb)with e|hb
 .rw[e];exact I.free
 .obtain⟨_,o,ho,_⟩:=I.ok.K0.mem hb;exact I.base.free b o ho (I.ok.zo b hb) λz=>I.ok.zy b z hb
theorem Inv.step{g':Array GenState}{t':Nat}{d':Drawn}{ch:List Addr}(I:Inv X pins U H s)
  (hch:∀b∈ch,(b∈X.ex\/X.zZ.heap.objs.size<=b)/\b≠X.env.locals/\(∀x c,X.env.cells.lookup x=some c->c≠b)/\∀p∈X.pn++pins,p.1≠b)
  (keep:∀b o,b≠X.env.locals->b∉X.fs->b∉ch->s.heap.get? b=some o->H b=none->h'.get? b=some o)
  (slot:∀b o,b≠X.env.locals->b∈X.fs->b∉ch->s.heap.get? b=some o->H b=none->∃sl,h'.get? b=some {o with slots:=sl}) (free:∀b o,b∉ch->s.heap.get? b=some o->H b=none->H' b=none)
  (there:∀b o,b∉ch->s.heap.get? b=some o->∃o',h'.get? b=some o')
  (zL:∀b xs,H b=some (.tup xs)->H' b=some (.tup xs)) (zX:∀b o u,H b=some (.frz o u)->H' b=some (.frz o u)) (zN:∀b ps,H b=some (.zi ps)->∃more,H' b=some (.zi (ps++more)))
  (ns:∀m,s.heap.Ns X.env.locals m->h'.Ns X.env.locals m) (z9:HOk X.prog X.w H' h') (hg:AllBare g') :
  Inv X pins U H' {s with heap:=h',gens:=g',drawn:=d',toks:=t' }:=by
 have neL:∀b o,X.zZ.heap.get? b=some o->b≠X.env.locals:=λb o e=>aS (aE (az e) I.ok.above)
 have neC:∀b o,X.zZ.heap.get? b=some o->b∉X.ex->b∉ch:=λb o e hx hb=>by
  rcases(hch b hb).1 with z|z
  .exact hx z
  .exact absurd (aE (az e) z) (bA _)
 have cellK:∀x c,X.env.cells.lookup x=some c->∀v,s.heap.IsCell c v->h'.IsCell c v:=λx c e v ⟨o,ho,hd⟩=>by
  have nch:c∉ch:=λz=>(hch c z).2.2.1 x c e rfl
  by_cases hc:c∈X.fs
  .obtain⟨sl,q⟩:=slot c o (I.cne x c e) hc nch ho (I.zY x c e);exact⟨_,q,hd⟩
  .exact⟨o,keep c o (I.cne x c e) hc nch ho (I.zY x c e),hd⟩
 refine⟨I.ok,I.os,hg,⟨λb o e n hb hx=>?_,λb o e n hb hx=>?_,λb o e n hx=>?_,λb o e hx=>?_,λb xs e=>zL b xs (I.base.zL b xs e),λb o xs e=>zX b o xs (I.base.zX b o xs e),λb ps e=>?_⟩,?_,λx c e=>?_,?_,λx c e=>?_,λp hp=>?_,z9,I.len⟩
 .exact keep b o (neL b o e) hb (neC b o e hx) (I.base.keep b o e n hb hx) (I.base.free b o e n hx)
 .obtain⟨sl,e1⟩:=I.base.slot b o e n hb hx;obtain⟨sl',e2⟩:=slot b _ (neL b o e) hb (neC b o e hx) e1 (I.base.free b o e n hx);exact⟨sl',e2⟩
 .obtain⟨o',e1⟩:=I.base.there b o e hx;exact free b o' (neC b o e hx) e1 (I.base.free b o e n hx)
 .obtain⟨o',e1⟩:=I.base.there b o e hx;exact there b o' (neC b o e hx) e1
 .obtain⟨m1,e1⟩:=I.base.zN b ps e;obtain⟨m2,e2⟩:=zN b _ e1;exact⟨m1++m2,by rw[e2,Array.append_assoc]⟩
 .obtain⟨m,hn,hl⟩:=I.loc;refine⟨m,ns m hn,λi x v e1 e2 e3=>?_⟩;obtain⟨u,r,l⟩:=hl i x v e1 e2 e3;refine⟨u,r,?_⟩;rcases l with l|⟨k,c,e,z⟩
  .exact .inl l
  .exact .inr ⟨k,c,e,cellK x c e _ z⟩
 .obtain⟨v,z⟩:=I.cell x c e;exact⟨v,cellK x c e v z⟩
 .obtain⟨m,⟨o,_,_,ho,_⟩,_⟩:=I.loc;exact free _ o (λz=>(hch _ z).2.1 rfl) ho I.free
 .obtain⟨v,o,ho,hd⟩:=I.cell x c e;exact free c o (λz=>(hch c z).2.2.1 x c e rfl) ho (I.zY x c e)
 .obtain⟨e,n,ne,nf,d⟩:=I.pin p hp;have nch:p.1∉ch:=λz=>(hch p.1 z).2.2.2 p hp rfl
  exact⟨keep p.1 p.2 ne nf nch e n,free p.1 p.2 nch e n,ne,nf,d⟩
theorem Inv.un{t':Nat}(I:Inv X pins U H s)(u:Un X.fs [] H H' s.heap h')(z9:HOk X.prog X.w H' h'):Inv X pins U H' {s with heap:=h',toks:=t' }:=by obtain⟨m,⟨o,es,ep,ho,r⟩,_⟩:=id I.loc;obtain⟨sl,hL⟩:=u.any ho I.free (by simp);exact I.step (g':=s.gens) (d':=s.drawn) (ch:=[]) (λ_ z=>nomatch z) (λb o _ hb _ e n=>u.keep b o e n hb (by simp)) (λb o _ hb _ e n=>u.slot b o e n hb (by simp)) (λb o _ e n=>u.free b o e n (by simp)) (λb o _ e=>u.there b o e (by simp)) u.zL u.zX u.zN (λm' hm=>by obtain⟨o',es',ep',ho',r'⟩:=hm;rw[ho]at ho';cases ho';exact⟨_,es',ep',hL,r'⟩) z9 I.bare
theorem Inv.call{g':Array GenState}{t':Nat}{d':Drawn}{ch:List Addr}(I:Inv X pins U H s)(u:Un (frs X.stack) ch H H' s.heap h')(z9:HOk X.prog X.w H' h')(hg:AllBare g')
  (hch:∀b∈ch,(b∈X.ex\/X.zZ.heap.objs.size<=b)/\b≠X.env.locals/\(∀x c,X.env.cells.lookup x=some c->c≠b)/\∀p∈X.pn++pins,p.1≠b) :
  Inv X pins U H' {s with heap:=h',gens:=g',drawn:=d',toks:=t' }:=by
 obtain⟨m,⟨o,es,ep,ho,r⟩,_⟩:=id I.loc;obtain⟨sl,hL⟩:=u.any ho I.free λz=>(hch _ z).2.1 rfl
 exact I.step (ch:=ch) hch (λb o hL hb hc e n=>u.keep b o e n (λz=>(aH.mp (I.Ih b z)).elim hL hb) hc) (λb o _ _ hc e n=>u.any e n hc) (λb o hc e n=>u.free b o e n hc) (λb o hc e=>u.there b o e hc) u.zL u.zX u.zN (λm' hm=>by obtain⟨o',es',ep',ho',r'⟩:=hm;rw[ho]at ho';cases ho';exact⟨_,es',ep',hL,r'⟩) z9 hg
theorem Inv.turned{t':Nat}{it:Addr}(I:Inv X pins U H s)(k:∀b o,b≠it->s.heap.get? b=some o->h'.get? b=some o)(hn:H it=none)(hL:it≠X.env.locals)
  (h1:it∈X.ex\/X.zZ.heap.objs.size<=it) (h2:∀x c,X.env.cells.lookup x=some c->c≠it) (h3:∀p∈X.pn++pins,p.1≠it):Inv X pins U H {s with heap:=h',toks:=t' }:=by
 have nit:∀b u,H b=some u->b≠it:=λb u e z=>by rw[z,hn]at e;cases e
 refine I.step (g':=s.gens) (d':=s.drawn) (ch:=[it]) (λb hb=>?_) (λb o _ _ hc e _=>k b o (λz=>hc (by simp[z])) e) (λb o _ _ hc e _=>⟨o.slots,k b o (λz=>hc (by simp[z])) e⟩) (λ_ _ _ _ n=>n)
  (λb o hc e=>⟨o,k b o (λz=>hc (by simp[z])) e⟩) (λ_ _ e=>e) (λ_ _ _ e=>e) (λb ps e=>⟨#[],by rw[e];simp⟩) (λm hm=>?_) (λb u e=>?_) I.bare
 .have e:b=it:=by simpa using hb
  subst e;exact⟨h1,hL,h2,h3⟩
 .obtain⟨o,es,ep,ho,r⟩:=hm;exact⟨o,es,ep,k _ o (Ne.symm hL) ho,r⟩
 .refine(I.z9 b u e).MG (λc v hc q=>k c v ?_ q) (λ_ q=>q) λ_ _ q=>q
  rcases hc with z|z
  .rw[z];exact nit b u e
  .exact nit c _ z
theorem Inv.tok(I:Inv X pins U H s)(t:Nat):Inv X pins U H {s with toks:=t}:=I.un (h':=s.heap) (t':=t) Un.refl I.z9
theorem Inv.kept{t':Nat}(I:Inv X pins U H s)(k:∀b u,s.heap.get? b=some u->h'.get? b=some u):Inv X pins U H {s with heap:=h',toks:=t' }:=I.un (Un.kept k) (I.z9.kept k)
theorem Inv.laid{a:Addr}{o:HO}{t':Nat}(I:Inv X pins U H s)(k:∀b u,s.heap.get? b=some u->h'.get? b=some u)(hp:s.heap.objs.size<=a)(new:A4 X.prog X.w (upd H a o) h' a o) :
  Inv X pins U (upd H a o) {s with heap:=h',toks:=t' }:=I.un (Un.laid k hp (I.z9.fresh hp)) (I.z9.laid k hp new)
theorem Inv.write{x e:Addr}{o:HO}{t':Nat}(I:Inv X pins U H s)(mu:Mut (H x))(he:e=x\/H e=some (.own x))(k:∀b u,b≠e->s.heap.get? b=some u->h'.get? b=some u)(heo:∃u,h'.get? e=some u)
  (new:A4 X.prog X.w (upd H x o) h' x o):Inv X pins U (upd H x o) {s with heap:=h',toks:=t' }:=I.un (Un.write mu he k heo) (I.z9.write mu he k heo new)
theorem Inv.Hw{pins':List (Addr×Obj)}(I:Inv X pins U H s)(h:∀p∈pins',s.heap.get? p.1=some p.2/\H p.1=none/\p.1≠X.env.locals/\p.1∉X.fs/\∀v,p.2.data≠.cell v):Inv X pins' U H s :=
 ⟨I.ok,I.os,I.bare,I.base,I.loc,I.cell,I.free,I.zY,λp hp=>(av.mp hp).elim (λz=>I.pin p (aB _ z)) (h p),I.z9,I.len⟩
theorem HC{N:List Str}(hN:N.Nodup){i j:Nat}{x:Str}(a:N[i]?=some x)(b:N[j]?=some x):i=j:=by obtain⟨h1,e1⟩:=ak.mp a;obtain⟨h2,e2⟩:=ak.mp b;exact(List.getElem_inj hN).mp (e1.trans e2.symm)
theorem Ig{M:Model}{A:Around}{E:Value->Shared->Prop}{i:Nat}{x:Str}{v:V}{u:Value}{Q:Unit->Shared->Prop}(I:Inv X pins U H s)(hN:X.N.Nodup)(hi:X.N[i]?=some x)(hx:Loc X.env.scope x)(r:RelV v u)
  (h:∀s',Inv X pins (U.set i (some v)) H s'->(∃a,Heap.SameBut a s.heap s'.heap/\(a=X.env.locals\/X.env.cells.lookup x=some a))->Q () s') (hf:X.fn x=true\/X.env.scope.names.lookup x=some .local:=by first|exact .inl rfl|exact .inr rfl|assumption):wpAny M A (storeName X.env x u) Q E s:=by
 obtain⟨m,hn,hl⟩:=id I.loc;have hcls:(X.env.scope.kind==.class||(X.env.scope.kind==.module&&X.env.locals !=X.env.globals))=false:=by rw[I.ok.kind];rfl
 have hiσ:i<U.length:=by rw[I.len];exact(ak.mp hi).1
 have cne:=I.cne;have tracked:∀{a:Addr}{h':Heap},(∃o,s.heap.get? a=some o/\H a=none)->Heap.SameBut a s.heap h'->HOk X.prog X.w H h':=λ{a h'} ha hs b ob e=>by
  obtain⟨_,_,hfree⟩:=ha;refine(I.z9 b ob e).MG (λc w' hc q=>(hs.2 c ?_).trans q) (λ_ q=>q) λ_ _ q=>q
  rintro rfl
  rcases hc with rfl|hc
  .rw[hfree]at e;cases e
  .rw[hfree]at hc;cases hc
 rcases hx with hk|hk
 .refine wpAny_storeName_local hk hn (λh' hn' hs=>?_) hcls;obtain⟨oL,_,_,hoL,_⟩:=id hn;refine h _ ⟨I.ok,I.os,I.bare,⟨λb o e n hb hx=>?_,λb o e n hb hx=>?_,I.base.free,λb o e hx=>?_,I.base.zL,I.base.zX,I.base.zN⟩,⟨_,hn',λj y v' e1 e2 e3=>?_⟩,λy c e=>?_,I.free,I.zY,λp hp=>?_,tracked ⟨oL,hoL,I.free⟩ hs,by simpa using I.len⟩ ⟨_,hs,.inl rfl⟩
  .exact(hs.2 b (aS (aE (az e) I.ok.above))).trans (I.base.keep b o e n hb hx)
  .obtain⟨sl,e1⟩:=I.base.slot b o e n hb hx;exact⟨sl,(hs.2 b (aS (aE (az e) I.ok.above))).trans e1⟩
  .obtain⟨o',e1⟩:=I.base.there b o e hx;exact⟨o',(hs.2 b (aS (aE (az e) I.ok.above))).trans e1⟩
  .by_cases hj:j=i
   .subst hj;rw[hi]at e1;cases e1;rw[bp hiσ]at e2;cases e2;exact⟨u,r,.inl ⟨hk,by simp⟩⟩
   .rw[bw (Ne.symm hj)]at e2;obtain⟨u',r',q⟩:=hl j y v' e1 e2 e3;refine⟨u',r',?_⟩;rcases q with⟨k,e⟩|⟨k,c,e,z⟩
    .refine .inl ⟨k,?_⟩;have:y≠x:=λe=>hj (HC hN e1 (e▸hi))
     simp[this,e]
    .exact .inr ⟨k,c,e,z.sameBut hs (cne y c e)⟩
  .obtain⟨w',z⟩:=I.cell y c e;exact⟨w',z.sameBut hs (cne y c e)⟩
  .obtain⟨e,n,ne,nf,d⟩:=I.pin p hp;exact⟨(hs.2 p.1 ne).trans e,n,ne,nf,d⟩
 .have hfn:X.fn x=true:=by
   rcases hf with z|z
   .exact z
   .rw[z]at hk;cases hk
  obtain⟨c,hc⟩:=I.ok.has x (.inl hk);obtain⟨w',z⟩:=I.cell x c hc;refine wpAny_storeName_cell I.ok.kind hk hc z (λh' hc' hs=>?_);obtain⟨oc,hoc,hocd⟩:=id z;refine h {s with heap:=h' } ⟨I.ok,I.os,I.bare,⟨λb o e n hb hx=>?_,λb o e n hb hx=>?_,I.base.free,λb o e hx=>?_,I.base.zL,I.base.zX,I.base.zN⟩,⟨m,hn.sameBut hs (Ne.symm (cne x c hc)),λj y v' e1 e2 e3=>?_⟩,λy c' e=>?_,I.free,I.zY,λp hp=>?_,tracked ⟨oc,hoc,I.zY x c hc⟩ hs,by simpa using I.len⟩ ⟨c,hs,.inr hc⟩
  .exact(hs.2 b (aS (aE (az e) (I.ok.zh x c hfn hc)))).trans (I.base.keep b o e n hb hx)
  .obtain⟨sl,e1⟩:=I.base.slot b o e n hb hx;exact⟨sl,(hs.2 b (aS (aE (az e) (I.ok.zh x c hfn hc)))).trans e1⟩
  .obtain⟨o',e1⟩:=I.base.there b o e hx;exact⟨o',(hs.2 b (aS (aE (az e) (I.ok.zh x c hfn hc)))).trans e1⟩
  .by_cases hj:j=i
   .subst hj;rw[hi]at e1;cases e1;rw[bp hiσ]at e2;cases e2;exact⟨u,r,.inr ⟨.inl hk,c,hc,hc'⟩⟩
   .rw[bw (Ne.symm hj)]at e2;obtain⟨u',r',q⟩:=hl j y v' e1 e2 e3;refine⟨u',r',?_⟩;rcases q with q|⟨k,c',e,z'⟩
    .exact .inl q
    .refine .inr ⟨k,c',e,z'.sameBut hs ?_⟩
     rintro rfl
     exact hj (HC hN e1 (I.ok.inj _ _ _ e hc▸hi))
  .by_cases hcc:c'=c
   .subst hcc;exact⟨_,hc'⟩
   .obtain⟨w2,z2⟩:=I.cell y c' e;exact⟨w2,z2.sameBut hs hcc⟩
  .obtain⟨e,n,ne,nf,d⟩:=I.pin p hp;refine⟨(hs.2 p.1 ?_).trans e,n,ne,nf,d⟩;intro q;rw[q,hoc]at e;have q':oc=p.2:=Option.some.inj e;exact d w' (by rw[<- q'];exact hocd)
theorem E4{M:Model}{A:Around}{E:Value->Shared->Prop}{i:Nat}{x:Str}{v:V}{u:Value}{Q:Unit->Shared->Prop}(I:Inv X pins U H s)(hN:X.N.Nodup)(hi:X.N[i]?=some x)(hx:Loc X.env.scope x)(r:RelV v u)
  (h:∀s',Inv X pins (U.set i (some v)) H s'->Q () s') (hf:X.fn x=true\/X.env.scope.names.lookup x=some .local:=by first|exact .inl rfl|exact .inr rfl|assumption):wpAny M A (storeName X.env x u) Q E s :=
 Ig I hN hi hx r (λs' I' _=>h s' I') hf
theorem Inv.XZ{s':Shared}{ch:List Addr}(I:Inv X pins U H s)(ho:s'.os=s.os)(u:Un (frs X.stack) ch H H' s.heap s'.heap)(z9:HOk X.prog X.w H' s'.heap)(hg:AllBare s'.gens)
  (hch:∀b∈ch,(b∈X.ex\/X.zZ.heap.objs.size<=b)/\b≠X.env.locals/\(∀x c,X.env.cells.lookup x=some c->c≠b)/\∀p∈X.pn++pins,p.1≠b):Inv X pins U H' s':=by
 obtain⟨h',g',d',t',o'⟩:=s';have e:o'=s.os:=ho;subst e;exact I.call (g':=g') (t':=t') (d':=d') u z9 hg hch
end
abbrev XK:=Value->Option Addr->Hp->Prop
abbrev St:=List (Option V)
abbrev VK:=V->Hp->Prop
abbrev TE:=St->Hp->VK->Prop
abbrev TT:=St->Hp->(Bool->Hp->Prop)->Prop
abbrev TA:=St->Hp->(List V->Hp->Prop)->Prop
structure Ends where
 nx:St->Hp->Prop
 rt:VK
 bk:St->Hp->Prop:=λ_ _=>False
 ct:St->Hp->Prop:=λ_ _=>False
abbrev TS:=Ends->St->Hp->Prop
def EP(X:Cx)(pins:List (Addr×Obj))(U:St)(Q:VK)(u:Value)(s':Shared):Prop:=∃v H',Inv X pins U H' s'/\RelV v u/\Q v H'
def TP(X:Cx)(pins:List (Addr×Obj))(U:St)(Q:Bool->Hp->Prop)(b:Bool)(s':Shared):Prop:=∃H',Inv X pins U H' s'/\Q b H'
def AP(X:Cx)(pins:List (Addr×Obj))(U:St)(Q:List V->Hp->Prop)(us:List Value)(s':Shared):Prop:=∃vs H',Inv X pins U H' s'/\Vals vs us/\Q vs H'
def SP(X:Cx)(pins:List (Addr×Obj))(D:Ends)(f:Flow)(s':Shared):Prop :=
 match f with|.next=>∃σ' H',Inv X pins σ' H' s'/\D.nx σ' H'|.brk=>∃σ' H',Inv X pins σ' H' s'/\D.bk σ' H'|.cont=>∃σ' H',Inv X pins σ' H' s'/\D.ct σ' H'|.ret u=>∃v σ' H',Inv X pins σ' H' s'/\RelV v u/\D.rt v H'
def PE(X:Cx)(e:Expr)(t:TE):Prop :=
 ∀(pins:List (Addr×Obj))(s:Shared)(U:St)(H:Hp)(Q:VK),Inv X pins U H s->t U H Q->wpAny (model X.prog X.w) X.A (eval e X.env) (EP X pins U Q) X.xe s
def PT(X:Cx)(e:Expr)(t:TT):Prop :=
 ∀(pins:List (Addr×Obj))(s:Shared)(U:St)(H:Hp)(Q:Bool->Hp->Prop),Inv X pins U H s->t U H Q->wpAny (model X.prog X.w) X.A (isTrue e X.env (eval e X.env)) (TP X pins U Q) X.xe s
def PW(X:Cx)(e:Expr)(t:TT):Prop :=
 ∀(whole:Sem Value)(pins:List (Addr×Obj))(s:Shared)(U:St)(H:Hp)(Q:Bool->Hp->Prop),Inv X pins U H s->t U H Q->wpAny (model X.prog X.w) X.A (isTrue e X.env whole) (TP X pins U Q) X.xe s
theorem PW.pt{X:Cx}{e:Expr}{t:TT}(h:PW X e t):PT X e t:=h _
def PA(X:Cx)(es:List Expr)(t:TA):Prop :=
 ∀(pos:Pos)(pins:List (Addr×Obj))(s:Shared)(U:St)(H:Hp)(Q:List V->Hp->Prop),Inv X pins U H s->t U H Q->wpAny (model X.prog X.w) X.A (spliced (backTo pos (starEach es X.env))) (AP X pins U Q) X.xe s
def PS(X:Cx)(st:Stmt)(t:TS):Prop :=
 ∀(pins:List (Addr×Obj))(s:Shared)(U:St)(H:Hp)(D:Ends),Inv X pins U H s->t D U H->wpAny (model X.prog X.w) X.A (exec st X.env) (SP X pins D) X.xe s
def PSs(X:Cx)(st:List Stmt)(t:TS):Prop :=
 ∀(pins:List (Addr×Obj))(s:Shared)(U:St)(H:Hp)(D:Ends),Inv X pins U H s->t D U H->wpAny (model X.prog X.w) X.A (execs st X.env) (SP X pins D) X.xe s
theorem thn{α:Type}{t:Sem α}{Q Q':α->Shared->Prop}{M:Model}{A:Around}{E:Value->Shared->Prop}{s:Shared}(h:wpAny M A t Q E s)(hQ:∀a s,Q a s->Q' a s):wpAny M A t Q' E s:=wpAny_mono h hQ λ_ _ x=>x
section
variable{X:Cx}
def OE(i:Nat):TE:=λU H Q=>∃v,U[i]?=some (some v)/\Q v H
def tC(v:V):TE:=λ_ H Q=>Q v H
theorem VR{i:Nat}{x:Str}{pos:Pos}(hN:X.N[i]?=some x)(hv:Vis X.env.scope x)(hd:(x==("__debug__":Str))=false:=by decide)(hcd:(x==("__classdict__":Str))=false:=by decide):PE X (.Name x pos) (OE i):=by
 intro pins s U H Q I h;obtain⟨v,e,h⟩:=h;obtain⟨m,hn,hl⟩:=I.loc;obtain⟨u,r,l⟩:=hl i x v hN e hv;have fin:EP X pins U Q u s:=⟨v,H,I,r,h⟩
 rcases l with⟨hk,hm⟩|⟨hk,c,hc,hcell⟩
 .exact wpAny_Name (wpAny_loadName_local I.ok.kind hk hn hm fin) hd
 .rcases hk with hk|hk
  .exact wpAny_Name (wpAny_loadName_cell I.ok.kind hk hc hcell fin) hd
  .exact wpAny_Name (wpAny_loadName_free I.ok.kind hk hc hcell fin hcd) hd
theorem VY{i j pos}:PE X (.Constant (.int i) j pos) (tC (.int i)):=λ_ _ _ H _ I h=>wpAny_Constant_int ⟨.int i,H,I.tok _,⟨_,rfl⟩,h⟩
theorem ZN{b j pos}:PE X (.Constant (.bool b) j pos) (tC (.o b)):=λ_ _ _ H _ I h=>Constant_bool ⟨.o b,H,I,rfl,h⟩
theorem VU{j pos}:PE X (.Constant .none j pos) (tC .v):=λ_ _ _ H _ I h=>Constant_none ⟨.v,H,I,rfl,h⟩
theorem M0{x j pos}:PE X (.Constant (.str x) j pos) (tC (.str x)):=λ_ _ _ H _ I h=>Calls.Constant_str ⟨.str x,H,I.tok _,⟨_,rfl⟩,h⟩
def Gl(X:Cx)(x:Str):Prop:=X.env.kindOf x=some .globalImplicit
theorem EB{E:Value->Shared->Prop}{pins:List (Addr×Obj)}{s:Shared}{U:St}{H:Hp}{x:Str}{u:Value}{pos:Pos}{Q:Value->Shared->Prop}(I:Inv X pins U H s)(hg:Gl X x)(hm:X.mg x=some u)(h:Q u s)
  (hd:(x==("__debug__":Str))=false:=by decide):wpAny (model X.prog X.w) X.A (eval (.Name x pos) X.env) Q E s :=
 Calls.Name_function_global I.ok.kind hg (Calls.loadGlobal_global (by rw[I.ok.glob];exact I.mod.glob.keeps I.bk) hm h) hd
theorem ER{E:Value->Shared->Prop}{pins:List (Addr×Obj)}{s:Shared}{U:St}{H:Hp}{x:Str}{u:Value}{pos:Pos}{Q:Value->Shared->Prop}(I:Inv X pins U H s)(hg:Gl X x)(hm:X.mg x=none)(hv:bootBuiltins x=some u)(h:Q u s)
  (hn:x≠"__name__":=by decide) (hd:(x==("__debug__":Str))=false:=by decide):wpAny (model X.prog X.w) X.A (eval (.Name x pos) X.env) Q E s:=by
 obtain⟨mb,h1,h2⟩:=I.mod.blt;exact Calls.Name_function_global I.ok.kind hg (Calls.loadGlobal_builtin (by rw[I.ok.glob];exact I.mod.glob.keeps I.bk) hm (by rw[I.ok.blt];exact h1.keeps I.bk) ((h2 x hn).trans hv) h) hd
theorem M4{x:Str}{v:V}{u:Value}{pos:Pos}(hg:Gl X x)(hm:X.mg x=some u)(r:RelV v u)(hd:(x==("__debug__":Str))=false:=by decide):PE X (.Name x pos) (tC v) :=
 λ_ _ _ H _ I h=>EB I hg hm ⟨v,H,I,r,h⟩ hd
theorem M6{x:Str}{v:V}{u:Value}{pos:Pos}(hg:Gl X x)(hm:X.mg x=none)(hv:bootBuiltins x=some u)(r:RelV v u)(hn:x≠"__name__":=by decide)(hd:(x==("__debug__":Str))=false:=by decide):PE X (.Name x pos) (tC v) :=
 λ_ _ _ H _ I h=>ER I hg hm hv ⟨v,H,I,r,h⟩ hn hd
variable{a b:Expr}{ta tb:TE}{pos:Pos}
variable{tA tB':TT}{rest:List Expr}
def Jbs(t u:TT):TT:=λU H Q=>t U H λc H1=>if c=true then u U H1 Q else Q false H1
def tOr(t u:TT):TT:=λU H Q=>t U H λc H1=>if c=true then Q true H1 else u U H1 Q
def Jbl(t:TT):TT:=λU H Q=>t U H λc H1=>Q (!c) H1
theorem So(ha:PT X a tA):PW X (.BoolOp .And [a] pos) tA:=by intro wh pins s U H Q I h;refine isTrue_and (thn (ha pins s U H Q I h) λc s1 e=>?_);cases c with|true=>exact isTrue_and_nil e|false=>exact e
theorem VD(ha:PT X a tA):PW X (.BoolOp .Or [a] pos) tA:=by intro wh pins s U H Q I h;refine isTrue_or (thn (ha pins s U H Q I h) λc s1 e=>?_);cases c with|false=>exact isTrue_or_nil e|true=>exact e
theorem VE(ha:PT X a tA)(hb:PW X (.BoolOp .And (b::rest) pos) tB'):PW X (.BoolOp .And (a::b::rest) pos) (Jbs tA tB'):=by intro wh pins s U H Q I h;refine isTrue_and (thn (ha pins s U H _ I h) λc s1 hpt=>?_);obtain⟨H1,I1,q1⟩:= hpt;cases c with|true=>exact hb wh pins s1 U H1 Q I1 q1|false=>exact⟨H1,I1,q1⟩
theorem ZD(ha:PT X a tA)(hb:PW X (.BoolOp .Or (b::rest) pos) tB'):PW X (.BoolOp .Or (a::b::rest) pos) (tOr tA tB'):=by intro wh pins s U H Q I h;refine isTrue_or (thn (ha pins s U H _ I h) λc s1 hpt=>?_);obtain⟨H1,I1,q1⟩:= hpt;cases c with|true=>exact⟨H1,I1,q1⟩|false=>exact hb wh pins s1 U H1 Q I1 q1
theorem VG(ha:PT X a tA):PT X (.UnaryOp .Not a pos) (Jbl tA):=by intro pins s U H Q I h;exact isTrue_not (ha pins s U H (λc H1=>Q (!c) H1) I h)
def Zn(ta tb:TE):TE:=λU H Q=>ta U H λx H1=>∃c,x=.o c/\if c=true then tb U H1 Q else Q (.o false) H1
def Jbk(ta tb:TE):TE:=λU H Q=>ta U H λx H1=>∃c,x=.o c/\if c=true then Q (.o true) H1 else tb U H1 Q
theorem VT{op}{t:TE}(h:PE X a t):PE X (.BoolOp op [a] pos) t:=λpins s U H Q I hw=>BoolOp_one (h pins s U H Q I hw)
theorem V3(ha:PE X a ta)(hb:PE X (.BoolOp .And (b::rest) pos) tb):PE X (.BoolOp .And (a::b::rest) pos) (Zn ta tb):=by intro pins s U H Q I h;refine BoolOp_and (thn (ha pins s U H _ I h) λv s1 hpt=>?_);obtain⟨x,H1,I1,r1,q1⟩:= hpt;obtain⟨c,rfl,q1⟩:=q1;cases r1;refine wpAny_truthy_bool ?_;cases c with|true=>exact hb pins s1 U H1 Q I1 q1|false=>exact⟨.o false,H1,I1,rfl,q1⟩
theorem ZF(ha:PE X a ta)(hb:PE X (.BoolOp .Or (b::rest) pos) tb):PE X (.BoolOp .Or (a::b::rest) pos) (Jbk ta tb):=by intro pins s U H Q I h;refine BoolOp_or (thn (ha pins s U H _ I h) λv s1 hpt=>?_);obtain⟨x,H1,I1,r1,q1⟩:= hpt;obtain⟨c,rfl,q1⟩:=q1;cases r1;refine wpAny_truthy_bool ?_;cases c with|false=>exact hb pins s1 U H1 Q I1 q1|true=>exact⟨.o true,H1,I1,rfl,q1⟩
end
def SqL(K:Fg)(H:Hp)(a:Addr)(xs:List V):Prop :=
 Rd H a (.lst xs)\/
  ∃(o:Obj)(its:Array Value)(n:Nat),K.lookup a=some o/\o.cls=.type "list"/\o.dict=none/\o.data=.seq its n/\its.size<=sizeLine/\Vals xs its.toList
def SqT(K:Fg)(H:Hp)(a:Addr)(xs:List V):Prop :=
 Rd H a (.tup xs)\/
  ∃(o:Obj)(its:Array Value)(n:Nat),K.lookup a=some o/\o.cls=.type "tuple"/\o.data=.seq its n/\its.size<=sizeLine/\Vals xs its.toList
noncomputable def JbT:Value->Option V
 |.none=>some .v
 |.bool b=>some (.o b)
 |.int i _=>some (.int i)
 |.str x _=>some (.str x)
 |.bytes b _=>some (.zG b)
 |.float b _=>some (.zg b)
 |.ref a=>some (.ref a)
 |.type n=>some (.ty n)
 |_=>none
theorem RelV.abs{x:V}{u:Value}(r:RelV x u):JbT u=some x:=by cases x with|v=>cases r;rfl|o _=>cases r;rfl|int _=>obtain⟨t,rfl⟩:=r;rfl|str _=>obtain⟨t,rfl⟩:=r;rfl|zG _=>obtain⟨t,rfl⟩:=r;rfl|zg _=>obtain⟨t,rfl⟩:=r;rfl|ref _=>cases r;rfl|ty _=>cases r;rfl
theorem RelV.inj{x y:V}{u:Value}(r:RelV x u)(q:RelV y u):x=y:=Option.some.inj (r.abs.symm.trans q.abs)
theorem Vals.inj:∀{xs ys:List V}{us:List Value},Vals xs us->Vals ys us->xs=ys
 |_,_,_,.nil,.nil=>rfl
 |_,_,_,.cons r t,.cons r' t'=>by rw[r.inj r',Vals.inj t t']
section
variable{X:Cx}{pins:List (Addr×Obj)}{U:St}{H:Hp}{s:Shared}{a:Addr}{xs ys:List V}
theorem SqL.of{K:Fg}(h:H a=some (.lst xs)):SqL K H a xs:=.inl (.inl h)
theorem SqT.of{K:Fg}(h:H a=some (.tup xs)):SqT K H a xs:=.inl (.inl h)
theorem Inv.list(I:Inv X pins U H s)(h:SqL X.K H a xs):∃its:List Value,Vals xs its/\PlainL s.heap a its.toArray/\xs.length<=sizeLine:=by
 rcases h with h|⟨o,its,n,hk,hc,hd,hs,hz,r⟩
 .obtain⟨z,its,n,r,e⟩:=h.ok I.z9;exact⟨its,r,⟨_,n,e,rfl,rfl,rfl⟩,z⟩
 .refine⟨its.toList,r,⟨o,n,I.kIn a o hk,hc,hd,by simpa using hs⟩,?_⟩;have e:=r.length;simp only[bP]at e
  lia
theorem Inv.tuple(I:Inv X pins U H s)(h:SqT X.K H a xs):∃its:List Value,Vals xs its/\IsTup s.heap a its.toArray/\xs.length<=sizeLine:=by
 rcases h with h|⟨o,its,n,hk,hc,hs,hz,r⟩
 .obtain⟨z,its,r,p⟩:=h.ok I.z9;exact⟨its,r,p,z⟩
 .refine⟨its.toList,r,⟨o,I.kIn a o hk,hc,n,by simpa using hs⟩,?_⟩;have e:=r.length;simp only[bP]at e
  lia
theorem Inv.KR(I:Inv X pins U H s)(h:SqL X.K H a xs)(h':SqL X.K H a ys):xs=ys:=by
 obtain⟨its,r,⟨o,n,e,_,_,d⟩,_⟩:=I.list h;obtain⟨its',r',⟨o',n',e',_,_,d'⟩,_⟩:=I.list h';rw[e]at e';cases e';rw[d]at d';injection d' with d1 _;have:its=its':=by simpa using congrArg Array.toList d1
 subst this;exact r.inj r'
theorem Inv.Ie(I:Inv X pins U H s)(h:SqT X.K H a xs)(h':SqT X.K H a ys):xs=ys:=by
 obtain⟨its,r,⟨o,e,_,n,d⟩,_⟩:=I.tuple h;obtain⟨its',r',⟨o',e',_,n',d'⟩,_⟩:=I.tuple h';rw[e]at e';cases e';rw[d]at d';injection d' with d1 _;have:its=its':=by simpa using congrArg Array.toList d1
 subst this;exact r.inj r'
end
abbrev Cx.Fj(X:Cx)(E:Value->Shared->Prop):Cx:={X with xe:=E}
theorem Cx.Ok.Fj{X:Cx}(ok:X.Ok)(E:Value->Shared->Prop):(X.Fj E).Ok :=
 ⟨ok.mod,ok.kind,ok.glob,ok.blt,ok.above,ok.inj,ok.has,ok.zh,ok.hd,ok.frames,ok.y1,ok.yX,ok.bs,ok.zA,ok.zx,ok.zy,ok.K0,ok.zo⟩
theorem Cx.Ok.DO{X:Cx}{E:Value->Shared->Prop}(ok:(X.Fj E).Ok):X.Ok :=
 ⟨ok.mod,ok.kind,ok.glob,ok.blt,ok.above,ok.inj,ok.has,ok.zh,ok.hd,ok.frames,ok.y1,ok.yX,ok.bs,ok.zA,ok.zx,ok.zy,ok.K0,ok.zo⟩
section
variable{X:Cx}{pins:List (Addr×Obj)}{U:St}{H:Hp}{s:Shared}{E:Value->Shared->Prop}
theorem Inv.Fj(I:Inv X pins U H s)(E:Value->Shared->Prop):Inv (X.Fj E) pins U H s:=⟨I.ok.Fj E,I.os,I.bare,I.base,I.loc,I.cell,I.free,I.zY,I.pin,I.z9,I.len⟩
theorem Inv.DO(I:Inv (X.Fj E) pins U H s):Inv X pins U H s:=⟨I.ok.DO,I.os,I.bare,I.base,I.loc,I.cell,I.free,I.zY,I.pin,I.z9,I.len⟩
theorem SP.DO{D:Ends}{f:Flow}{s':Shared}(h:SP (X.Fj E) pins D f s'):SP X pins D f s':=by cases f with|next=>obtain⟨σ',H',I,q⟩:=h;exact⟨σ',H',I.DO,q⟩|brk=>obtain⟨σ',H',I,q⟩:=h;exact⟨σ',H',I.DO,q⟩|cont=>obtain⟨σ',H',I,q⟩:=h;exact⟨σ',H',I.DO,q⟩|ret u=>obtain⟨v,σ',H',I,r,q⟩:=h;exact⟨v,σ',H',I.DO,r,q⟩
end
section
variable{X:Cx}{st:Stmt}{rest:List Stmt}{t u:TS}{e:Expr}{te:TE}{pos:Pos}
def Zi:TS:=λD U H=>D.nx U H
def JaE(t u:TS):TS:=λD U H=>t {D with nx:=u D} U H
theorem Ss:PSs X [] Zi:=λ_ _ U H _ I h=>wpAny_execs_nil ⟨U,H,I,h⟩
theorem O5(h1:PS X st t)(h2:PSs X rest u):PSs X (st::rest) (JaE t u):=by intro pins s U H D I h;refine wpAny_execs_cons (thn (h1 pins s U H {D with nx:=u D} I h) λf s1 q=>?_);cases f with|next =>obtain⟨σ',H',I',q⟩:=q;exact h2 pins s1 σ' H' D I' q|ret v=>exact q|brk=>exact q|cont=>exact q
theorem Sr(h1:PS X st t):PSs X [st] t:=by intro pins s U H D I h;refine wpAny_execs_cons (thn (h1 pins s U H D I h) λf s1 q=>?_);cases f with|next=>exact wpAny_execs_nil q|ret v=>exact q|brk=>exact q|cont=>exact q
theorem Inv.quiet{pins:List (Addr×Obj)}{U:St}{H:Hp}{s:Shared}(I:Inv X pins U H s):interactive X.env=false:=by simp[interactive,I.ok.kind]
def Zj(te:TE):TS:=λD U H=>te U H λ_ H1=>D.nx U H1
theorem Su(he:PE X e te)(hs:swapsWith e none pos.line X.env=pure false:=by rfl):PS X (.Expr e pos) (Zj te):=by intro pins s U H D I h;exact wpAny_Expr_any (thn (he pins s U H _ I h) λv s1 ⟨x,H1,I1,r1,q1⟩=>⟨U,H1,I1,q1⟩) I.quiet hs
def Jbj(te:TE):TS:=λD U H=>te U H D.rt
theorem VI(he:PE X e te):PS X (.Return (some e) pos) (Jbj te):=by intro pins s U H D I h;exact wpAny_Return_some (thn (he pins s U H _ I h) λv s1 ⟨x,H1,I1,r1,q1⟩=>⟨x,U,H1,I1,r1,q1⟩)
def Jbn(c:TT)(t u:TS):TS:=λD U H=>c U H λb H1=>if b=true then t D U H1 else u D U H1
theorem ZE{c:Expr}{a b:List Stmt}{tc:TT}(hc:PT X c tc)(ha:PSs X a t)(hb:PSs X b u):PS X (.If c a b pos) (Jbn tc t u):=by intro pins s U H D I h;refine wpAny_If (thn (hc pins s U H _ I h) λd s1 hpt=>?_);obtain⟨H1,I1,q1⟩:= hpt;cases d with|true=>exact ha pins s1 U H1 D I1 q1|false=>exact hb pins s1 U H1 D I1 q1
def Vd:TS:=λ_ _ _=>False
theorem O6:PS X st Vd:=λ_ _ _ _ _ _ h=>h.elim
end
abbrev TG:=V->St->Hp->(St->Hp->Prop)->Prop
abbrev TGs:=List V->St->Hp->(St->Hp->Prop)->Prop
def PG(X:Cx)(target:Expr)(t:TG):Prop :=
 ∀(pins:List (Addr×Obj))(s:Shared)(U:St)(H:Hp)(v:V)(u:Value)(Q:St->Hp->Prop),Inv X pins U H s->RelV v u->t v U H Q ->
  wpAny (model X.prog X.w) X.A (assign target X.env u) (λ_ s'=>∃σ' H',Inv X pins σ' H' s'/\Q σ' H') X.xe s
def PGs(X:Cx)(ts:List Expr)(t:TGs):Prop :=
 ∀(pins:List (Addr×Obj))(s:Shared)(U:St)(H:Hp)(vs:List V)(us:List Value)(Q:St->Hp->Prop),Inv X pins U H s->Vals vs us->t vs U H Q ->
  wpAny (model X.prog X.w) X.A (assignInOrder ((assignEach ts X.env).map (·.2)) us) (λ_ s'=>∃σ' H',Inv X pins σ' H' s'/\Q σ' H') X.xe s
abbrev RN:=V->V->V->Hp->(Hp->Prop)->Prop
def QN(X:Cx)(t:RN):Prop :=
 ∀(pins:List (Addr×Obj))(s:Shared)(U:St)(H:Hp)(o i v:V)(ov iv u:Value)(Q:Hp->Prop),Inv X pins U H s->RelV o ov->RelV i iv->RelV v u->t o i v H Q ->
  wpAny (model X.prog X.w) X.A (setItem ov iv u) (λ_ s'=>∃H',Inv X pins U H' s'/\Q H') X.xe s
section
variable{X:Cx}{pos:Pos}
def P9(i:Nat):TG:=λv U H Q=>Q (U.set i (some v)) H
theorem SG{i:Nat}{x:Str}(hN:X.N.Nodup)(hi:X.N[i]?=some x)(hx:Loc X.env.scope x)(hf:X.fn x=true\/X.env.scope.names.lookup x=some .local:=by first|exact .inl rfl|exact .inr rfl|assumption):PG X (.Name x pos) (P9 i):=by intro pins s U H v u Q I r h;exact wpAny_assign_Name (E4 I hN hi hx r (λs' I'=>⟨_,H,I',h⟩) hf)
noncomputable def JbO:TGs:=λvs U H Q=>vs=[]/\Q U H
noncomputable def WX(t:TG)(u:TGs):TGs:=λvs U H Q=>∃v r,vs=v::r/\t v U H λσ' H'=>u r σ' H' Q
theorem SE:PGs X [] JbO:=by intro pins s U H vs us Q I r h;obtain⟨e,h⟩:=h;subst e;cases r;exact assignInOrder_nil ⟨U,H,I,h⟩
theorem CG{e:Expr}{es:List Expr}{t:TG}{u:TGs}(h1:PG X e t)(h2:PGs X es u)
  (hs:(assignEach (e::es) X.env).map (·.2)=assign e X.env::(assignEach es X.env).map (·.2):=by rfl):PGs X (e::es) (WX t u):=by
 intro pins s U H vs us Q I r h;obtain⟨v,vr,e1,h⟩:=h;subst e1;cases r with|cons r rr =>rw[hs];refine assignInOrder_cons (thn (h1 pins s U H _ _ _ I r h) λ_ s1 hpt=>?_);obtain⟨σ1,H1,I1,q1⟩:= hpt;exact h2 pins s1 σ1 H1 _ _ Q I1 rr q1
def JbN(K:Fg)(n:Nat)(t:TGs):TG:=λv U H Q=>∃a xs,v=.ref a/\SqT K H a xs/\xs.length=n/\t xs U H Q
theorem VO{es:List Expr}{k:Nat}{t:TGs}{n:Nat}(hc:X.calm=true)(h:PGs X es t)
  (hn:(assignEach es X.env).length=n:=by rfl) (hst:(assignEach es X.env).findIdx? (·.1)=none:=by rfl):PG X (.Tuple es k pos) (JbN X.K n t):=by
 intro pins s U H v u Q I r hw;obtain⟨a,xs,e1,hq,hl,hw⟩:=hw;subst e1;cases r;obtain⟨its,rv,ht,hz⟩:=I.tuple hq;refine assign_Tuple_tuple (I.ok.hd hc) ht (by simp[hn,<- hl,rv.length]) hst λh' hx=>?_
 have I1:Inv X pins U H {s with heap:=h' }:=I.kept (t':=s.toks) λb o e=>hx b o (aS (az e)) e
 exact h pins _ U H xs _ Q I1 (by simpa using rv) hw
def Z4(to ti:TE)(t:RN):TG:=λv U H Q=>to U H λo H1=>ti U H1 λi H2=>t o i v H2 λH3=>Q U H3
theorem VP{o i:Expr}{to ti:TE}{t:RN}(ho:PE X o to)(hi:PE X i ti)(hs:QN X t)
  (ha:∀v,assign (.Subscript o i pos) X.env v=(do
   let ov <- holding [v] (eval o X.env)
   let iv <- holding [v,ov] (eval i X.env)
   standAt pos
   holding [v,ov,iv] (setItem ov iv v)
   release [v,ov,iv] []):=by intro _;rfl):PG X (.Subscript o i pos) (Z4 to ti t):=by
 intro pins s U H v u Q I r h;rw[ha];refine aa (wpAny_holding (thn (ho pins s U H _ I h) λov s1 hpt=>?_));obtain⟨x,H1,I1,r1,q1⟩:= hpt;refine aa (wpAny_holding (thn (hi pins s1 U H1 _ I1 q1) λiv s2 hpt=>?_));obtain⟨y,H2,I2,r2,q2⟩:= hpt;refine aa (wpAny_standAt (aa (wpAny_holding (thn (hs pins s2 U H2 x y v ov iv u _ I2 r1 r2 r q2) λ_ s3 hpt=>?_))));obtain⟨H3,I3,q3⟩:= hpt;exact wpAny_release ⟨U,H3,I3,q3⟩
def Vi(te:TE)(g:TG):TS:=λD U H=>te U H λx H1=>g x U H1 D.nx
theorem Q4{tg e:Expr}{te:TE}{g:TG}(he:PE X e te)(hg:PG X tg g)(hs:swapsWithSole [tg] e pos.line X.env=pure false:=by rfl)(hw:swappedStores [tg] e X.env=pure none:=by rfl)
  (h1:(assignEach [tg] X.env).map (·.2)=[assign tg X.env]:=by rfl):PS X (.Assign [tg] e pos) (Vi te g):=by
 intro pins s U H D I h;refine wpAny_Assign_stores (thn (he pins s U H _ I h) λv s1 hpt=>?_) hs hw;obtain⟨x,H1,I1,r1,q1⟩:= hpt;rw[h1];exact thn (hg pins s1 U H1 x v _ I1 r1 q1) λ_ s2 q=>q
theorem VH{i:Nat}{x:Str}{e:Expr}{te:TE}{pos':Pos}(hN:X.N.Nodup)(hi:X.N[i]?=some x)(hx:Loc X.env.scope x)(he:PE X e te)(hs:swapsWith e (some (.Name x pos')) pos.line X.env=pure false:=by rfl)(hf:X.fn x=true\/X.env.scope.names.lookup x=some .local:=by first|exact .inl rfl|exact .inr rfl|assumption) :
  PS X (.Assign [.Name x pos'] e pos) (Vi te (P9 i)):=by
 intro pins s U H D I h;refine wpAny_Assign_Name (thn (he pins s U H _ I h) λv s1 hpt=>?_) hs;obtain⟨y,H1,I1,r1,q1⟩:= hpt;exact E4 I1 hN hi hx r1 (λs2 I2=>⟨_,H1,I2,q1⟩) hf
end
section
variable{X:Cx}{pos:Pos}
end
structure It where
 go:Nat->Hp->Prop
 yW:Nat->Hp->V->Hp->Prop
 stop:Nat->Hp->Prop
def Jt(X:Cx)(pins:List (Addr×Obj))(H:Hp)(b:Addr):Prop :=
 H b=none/\b≠X.env.locals/\b∉X.fs/\(b∈X.ex\/X.zZ.heap.objs.size<=b)/\(∀x c,X.env.cells.lookup x=some c->c≠b)/\∀p∈X.pn++pins,p.1≠b
theorem Inv.Rm{X:Cx}{pins:List (Addr×Obj)}{U:St}{H H':Hp}{s:Shared}{b:Addr}(I:Inv X pins U H s)(hb:s.heap.objs.size<=b)(hn:H' b=none):Jt X pins H' b:=by
 refine⟨hn,cG (aE I.lt hb),I.JbF hb,.inr (aR I.sz hb),λx c e z=>?_,λp hp z=>?_⟩
 .obtain⟨v,q⟩:=I.cell x c e;exact absurd (aE q.lt (by rw[z];exact hb)) (bA _)
 .exact absurd (aE (az (I.pin p hp).1) (by rw[z];exact hb)) (bA _)
structure Turn(P:Program)(w:World)(K:Fg)(tg:Expr)(J:It)(fp:List Addr)(it:Addr)(tn:Nat->Heap->Prop):Prop where
 mem:it∈fp
 obj:∀i h,tn i h->∀b∈fp,∃o,h.get? b=some o/\∀v,o.data≠.cell v
 keep:∀i h h',tn i h->(∀b∈fp,∀o,h.get? b=some o->h'.get? b=some o)->tn i h'
 item:∀(X:Cx),X.prog=P->X.w=w->X.K=K->X.calm=true->∀(i:Nat)(pins:List (Addr×Obj))(s:Shared)(U:St)(H:Hp)(E:Value->Shared->Prop),Inv X pins U H s->(∀b∈fp,Jt X pins H b)->tn i s.heap->J.go i H ->
  wpAny (model P w) X.A (pyNext (.ref it)) (λr s1=>∃u,r=some u /\
   wpAny (model P w) X.A (letOwnedTupleGo tg (.ref it) u) (λ_ s2=>∃x H',Inv X pins U H' s2/\RelV x u/\J.yW i H x H'/\tn (i+1) s2.heap/\∀b∈fp,H' b=none) E s1) E s
 done:∀(X:Cx),X.prog=P->X.w=w->X.K=K->X.calm=true->∀(i:Nat)(pins:List (Addr×Obj))(s:Shared)(U:St)(H:Hp)(E:Value->Shared->Prop),Inv X pins U H s->(∀b∈fp,Jt X pins H b)->tn i s.heap->J.stop i H ->
  wpAny (model P w) X.A (pyNext (.ref it)) (λr s1=>r=none/\Inv X pins U H s1) E s
 self:∀(A:Around)(i:Nat)(s:Shared)(Q:Value->Shared->Prop)(E:Value->Shared->Prop),tn i s.heap->Q (.ref it) s->wpAny (model P w) A (pyIter (.ref it)) Q E s
abbrev TI:=St->Hp->(It->Hp->Prop)->Prop
def PIE(X:Cx)(pins:List (Addr×Obj))(U:St)(tg:Expr)(R:It->Hp->Prop)(itv:Value)(s2:Shared):Prop :=
 ∃(it:Addr)(fp:List Addr)(tn:Nat->Heap->Prop)(J:It)(H':Hp),itv=.ref it/\Inv X pins U H' s2/\Turn X.prog X.w X.K tg J fp it tn/\tn 0 s2.heap/\(∀b∈fp,Jt X pins H' b)/\R J H'
def PI(X:Cx)(tg iter:Expr)(wi:TI):Prop :=
 ∀(pins:List (Addr×Obj))(s:Shared)(U:St)(H:Hp)(R:It->Hp->Prop),Inv X pins U H s->wi U H R ->
  wpAny (model X.prog X.w) X.A (eval iter X.env) (λv s1=>wpAny (model X.prog X.w) X.A (pyIter v) (PIE X pins U tg R) X.xe s1) X.xe s
theorem P2{M:Model}{A:Around}{E:Value->Shared->Prop}{s:Shared}{tg:Expr}{it:Addr}{u:Value}{o:Obj}{n:String}{vs:Array Value}{Q:Unit->Shared->Prop}(ho:s.heap.get? it=some o)(hc:o.cls=.type n)(hd:o.data=.fields vs)
    (hn:["enumerate","zip","dict_itemiterator","dict_reverseitemiterator","odict_iterator","itertools.zip_longest","itertools.pairwise"].contains n=false) (hQ:Q () s):wpAny M A (letOwnedTupleGo tg (.ref it) u) Q E s:=by
  unfold letOwnedTupleGo;cases tg<;>first
    |exact au hQ
    | (cases u <;> first
        |exact au hQ
        | (refine aa (wpAny_load ho ?_)
           rw[hc,hd];show wpAny M A (if(["enumerate","zip","dict_itemiterator","dict_reverseitemiterator","odict_iterator","itertools.zip_longest","itertools.pairwise"].contains n&&vs[0]?==some (rawInt _))=true then _ else _) Q E s;rw[if_neg (by intro h;rw[hn,Bool.false_and]at h;cases h)];exact au hQ))
def Itl(K:Fg)(a:Addr):It :=
 ⟨λi H=>∃xs x,SqL K H a xs/\xs[i]?=some x,λi H x H'=>H'=H/\∀xs,SqL K H a xs->xs[i]?=some x,λi H=>∃xs,SqL K H a xs/\xs.length<=i⟩
def Itt(K:Fg)(a:Addr):It :=
 ⟨λi H=>∃xs x,SqT K H a xs/\xs[i]?=some x,λi H x H'=>H'=H/\∀xs,SqT K H a xs->xs[i]?=some x,λi H=>∃xs,SqT K H a xs/\xs.length<=i⟩
def Itr(lo:Int)(n:Nat):It:=⟨λi _=>i<n,λi H x H'=>H'=H/\x=.int (lo+i),λi _=>n<=i⟩
theorem MB{P:Program}{w:World}{K:Fg}{tg:Expr}(a it:Addr):Turn P w K tg (Itl K a) [it] it (λi h=>h.IsListIter it a i) where
 mem:=by simp
 obj:=λi h st b hb=>by
  have e:b=it:=by simpa using hb
  subst e;obtain⟨o,e,c,d⟩:=st;exact⟨o,e,λv z=>by rw[d]at z;cases z⟩
 keep:=λi h h' st k=>st.at λo e=>k it (by simp) o e
 item:=by
  intro X hP hw hK hc i pins s U H E I hf st hg;subst hP hw hK;obtain⟨xs,x,hq,hx⟩:=hg;obtain⟨its,rv,p,hz⟩:=I.list hq;obtain⟨u,hu,ru⟩:=rv.get hx;obtain⟨f0,f1,f2,f3,f4,f5⟩:=hf it (by simp);refine wpAny_pyNext_list_item st p.isList (x:=u) (by simpa using hu) λh' st' sb=>?_
  have I1:Inv X pins U H {s with heap:=h' }:=I.turned (t':=s.toks) (λb o hb e=>(sb.2 b hb).trans e) f0 f1 f3 f4 f5;obtain⟨o,e,c,d⟩:=id st';exact⟨u,rfl,P2 (s:={s with heap:=h' }) e c d (by decide) ⟨x,H,I1,ru,⟨rfl,λys hy=>by rw[I.KR hy hq];exact hx⟩,st',λb hb=>(hf b hb).1⟩⟩
 done:=by intro X hP hw hK hc i pins s U H E I hf st hg;subst hP hw hK;obtain⟨xs,hq,hx⟩:=hg;obtain⟨its,rv,p,hz⟩:=I.list hq;obtain⟨f0,f1,f2,f3,f4,f5⟩:=hf it (by simp);have hl:=rv.length;exact wpAny_pyNext_list_end (I.ok.hd hc) st p.isList (by simp;lia) λh' eb=>⟨rfl,I.turned (t':=s.toks) (λb o hb e=>eb b o hb e) f0 f1 f3 f4 f5⟩
 self:=λ_ _ _ _ _ st h=>wpAny_pyIter_listiter st h
theorem Lv{P:Program}{w:World}{K:Fg}{tg:Expr}(a it:Addr):Turn P w K tg (Itt K a) [it] it (λi h=>h.IsTupleIter it a i) where
 mem:=by simp
 obj:=λi h st b hb=>by
  have e:b=it:=by simpa using hb
  subst e;obtain⟨o,e,c,d⟩:=st;exact⟨o,e,λv z=>by rw[d]at z;cases z⟩
 keep:=λi h h' st k=>st.at λo e=>k it (by simp) o e
 item:=by
  intro X hP hw hK hc i pins s U H E I hf st hg;subst hP hw hK;obtain⟨xs,x,hq,hx⟩:=hg;obtain⟨its,rv,p,hz⟩:=I.tuple hq;obtain⟨u,hu,ru⟩:=rv.get hx;obtain⟨f0,f1,f2,f3,f4,f5⟩:=hf it (by simp);refine wpAny_pyNext_tuple_item st (show s.heap.IsTuple a its.toArray from p) (x:=u) (by simpa using hu) λh' st' sb=>?_
  have I1:Inv X pins U H {s with heap:=h' }:=I.turned (t':=s.toks) (λb o hb e=>(sb.2 b hb).trans e) f0 f1 f3 f4 f5;obtain⟨o,e,c,d⟩:=id st';exact⟨u,rfl,P2 (s:={s with heap:=h' }) e c d (by decide) ⟨x,H,I1,ru,⟨rfl,λys hy=>by rw[I.Ie hy hq];exact hx⟩,st',λb hb=>(hf b hb).1⟩⟩
 done:=by intro X hP hw hK hc i pins s U H E I hf st hg;subst hP hw hK;obtain⟨xs,hq,hx⟩:=hg;obtain⟨its,rv,p,hz⟩:=I.tuple hq;obtain⟨f0,f1,f2,f3,f4,f5⟩:=hf it (by simp);have hl:=rv.length;exact wpAny_pyNext_tuple_end (I.ok.hd hc) st (show s.heap.IsTuple a its.toArray from p) (by simp;lia) λh' eb=>⟨rfl,I.turned (t':=s.toks) (λb o hb e=>eb b o hb e) f0 f1 f3 f4 f5⟩
 self:=λ_ _ _ _ _ st h=>wpAny_pyIter_tupleiter st h
theorem Lx{P:Program}{w:World}{K:Fg}{tg:Expr}(it:Addr)(lo:Int)(n:Nat):Turn P w K tg (Itr lo n) [it] it (λi h=>IsRangeIter h it (lo+(i:Nat)*1) ((n:Int)-(i:Nat)) 1) where
 mem:=by simp
 obj:=λi h st b hb=>by
  have e:b=it:=by simpa using hb
  subst e;exact⟨_,st,λv z=>by have z':Data.fields _=Data.cell v:=z;cases z'⟩
 keep:=λi h h' st k=>k it (by simp) _ st
 item:=by
  intro X hP hw hK hc i pins s U H E I hf st hg;subst hP hw hK;obtain⟨f0,f1,f2,f3,f4,f5⟩:=hf it (by simp);have W:=Walks.range (prog:=X.prog) (w:=X.w) (I.ok.hd hc) it lo 1 n;refine W.item i s _ _ hg st λv h' tk hv st' kk=>?_
  obtain⟨t,rfl⟩:=hv;have I1:Inv X pins U H {s with heap:=h',toks:=tk}:=I.turned (λb o hb e=>kk b o (by simpa using hb) e) f0 f1 f3 f4 f5;refine⟨_,rfl,P2 (s:={s with heap:=h',toks:=tk}) (n:="range_iterator") st' rfl rfl (by decide) ⟨.int (lo+i),H,I1,⟨t,?_⟩,⟨rfl,rfl⟩,st',λb hb=>(hf b hb).1⟩⟩;rw[Int.mul_one]
 done:=by intro X hP hw hK hc i pins s U H E I hf st hg;subst hP hw hK;obtain⟨f0,f1,f2,f3,f4,f5⟩:=hf it (by simp);exact wpAny_pyNext_range_end (I.ok.hd hc) st (by have:n<=i:=hg;lia) λh' eb=>⟨rfl,I.turned (t':=s.toks) (λb o hb e=>eb b o hb e) f0 f1 f3 f4 f5⟩
 self:=λ_ _ _ _ _ st h=>wpAny_pyIter_rangeiter st h
section
variable{X:Cx}{tg:Expr}
theorem OY{pins:List (Addr×Obj)}{U:St}{H:Hp}{s:Shared}{R:It->Hp->Prop}{E:Value->Shared->Prop}{lo hi:Int}{t u v:Tok}{tk:Nat}(I:Inv X pins U H s)(h1:-(2^62)<=lo)(h2:lo<2^62)(h3:-(2^62)<=hi)(h4:hi<2^62)
  (q:R (Itr lo (hi-lo).toNat) H):wpAny (model X.prog X.w) X.A (pyIter (.ref s.heap.objs.size)) (PIE X pins U tg R) E {s with heap:=s.heap.push {cls:=.type "range",data:=.fields #[.int lo t,.int hi u,.int 1 v]},toks:=tk}:=by
 refine wpAny_pyIter_range (IsRange.new ..) (small_one h1 h2 h3 h4) ?_;have I1:Inv X pins U H {s with heap:=s.heap.push {cls:=.type "range",data:=.fields #[.int lo t,.int hi u,.int 1 v]},toks:=tk}:=I.kept λb o e=>af _ e
 refine⟨(s.heap.push {cls:=.type "range",data:=.fields #[.int lo t,.int hi u,.int 1 v]}).objs.size,[(s.heap.push {cls:=.type "range",data:=.fields #[.int lo t,.int hi u,.int 1 v]}).objs.size],_,_,H,rfl,
  I1.kept (t':=tk) λb o e=>af _ e,Lx _ lo (hi-lo).toNat,?_,λb hb=>?_,q⟩
 .have e1:lo+((0:Nat):Int)*1=lo:=by simp
  have e2:(((hi-lo).toNat:Nat):Int)-((0:Nat):Int)=Builtin.Range.rangeSize lo hi 1:=by rw[rangeSize_one];split<;>lia
  show IsRangeIter _ _ (lo+((0:Nat):Int)*1) ((((hi-lo).toNat:Nat):Int)-((0:Nat):Int)) 1;rw[e1,e2];exact aD _ rfl
 .have e:b=(s.heap.push {cls:=.type "range",data:=.fields #[.int lo t,.int hi u,.int 1 v]}).objs.size:=by simpa using hb
  subst e;exact I1.Rm (aJ _) (I1.z9.fresh (aJ _))
def ZZ(ta:TA):TI:=λU H R=>ta U H λvs H1=>∃j:Int,vs=[.int j]/\-(2^62)<=j/\j<2^62/\R (Itr 0 j.toNat) H1
theorem MX{a:Expr}{ta:TA}{p pos:Pos}(hg:Gl X "range")(hm:X.mg "range"=none)(ha:PA X [a] ta)(hs:starEach [a] X.env=[(false,eval a X.env)]:=by rfl):PI X tg (.Call (.Name "range" p) [a] [] pos) (ZZ ta):=by intro pins s U H R I h;refine Call_ (ER I hg hm boot_range (callWith_type1 (thn (ha pos pins s U H _ I h) λus s1 hpt=>?_) hs rfl));obtain⟨vs,H1,I1,r1,q1⟩:= hpt;obtain⟨j,e,q1,q2,q⟩:=q1;subst e;cases r1 with|cons r rr =>cases rr;obtain⟨t,rfl⟩:=r;exact call_range_1 (OY I1 (by lia) (by lia) q1 q2 (by simpa using q))
def Jbq(wi:TI)(g:TG)(tb:TS):TS:=λD U H=>wi U H λJ H1=>∃W:Nat->Nat->St->Hp->Prop,(∃m,W 0 m U H1)/\∀i m U H,W i m U H ->
 (J.stop i H/\D.nx U H)\/(J.go i H/\∃N:St->Hp->Prop,(∀σ' H',N σ' H'->∃m',m'<m/\W (i+1) m' σ' H')/\∀x H',J.yW i H x H'->g x U H' λσ2 H2=>tb {D with nx:=N,ct:=N,bk:=D.nx} σ2 H2)
noncomputable def Iu(fp:List Addr)(h:Heap):List (Addr×Obj):=fp.filterMap λb=>(h.get? b).map λo=>(b,o)
theorem DB{fp:List Addr}{h:Heap}{b:Addr}{o:Obj}(hb:b∈fp)(e:h.get? b=some o):(b,o)∈Iu fp h:=cI.mpr ⟨b,hb,by rw[e];rfl⟩
theorem Ni{fp:List Addr}{h:Heap}{p:Addr×Obj}(hp:p∈Iu fp h):p.1∈fp/\h.get? p.1=some p.2:=by obtain⟨b,hb,e⟩:=cI.mp hp;cases q:h.get? b with|none=>rw[q]at e;cases e|some o =>rw[q]at e;have e':(b,o)=p:=Option.some.inj e;subst e';exact⟨hb,q⟩
theorem Inv.pinned{pins:List (Addr×Obj)}{U:St}{H:Hp}{s:Shared}{fp:List Addr}(I:Inv X pins U H s)(hf:∀b∈fp,Jt X pins H b)(ho:∀b∈fp,∃o,s.heap.get? b=some o/\∀v,o.data≠.cell v):Inv X (pins++Iu fp s.heap) U H s :=
 I.Hw λp hp=>(av.mp hp).elim (λz=>I.pin p (aC _ z)) λz=>by obtain⟨hb,e⟩:=Ni z;obtain⟨f0,f1,f2,_⟩:=hf p.1 hb;obtain⟨o,e',d⟩:=ho p.1 hb;rw[e]at e';cases e';exact⟨e,f0,f1,f2,d⟩
theorem Inv.E3{pins pl:List (Addr×Obj)}{U:St}{H:Hp}{s:Shared}(I:Inv X (pins++pl) U H s):Inv X pins U H s:=I.Hw λp hp=>I.pin p (aC _ (aB _ hp))
theorem VJ{iter:Expr}{body:List Stmt}{wi:TI}{g:TG}{tb:TS}{pos:Pos}(hp:PassesOwn (model X.prog X.w) X.A X.env X.xe)(hc:X.calm=true)(hi:PI X tg iter wi)(hg:PG X tg g)(hb:PSs X body tb)
  (hs:∀x,foldedSetIterable iter X.env x=pure x:=by intro _;rfl):PS X (.For tg iter body [] pos) (Jbq wi g tb):=by
 intro pins s U H D I h;refine wpAny_For (thn (hi pins s U H _ I h) λv s1 h1=>thn h1 λitv s2 h2=>?_) hs;obtain⟨it,fp,tn,J,H2,e,I2,T,st2,f2,W,⟨m0,w0⟩,turn⟩:=h2;subst e;have stat:∀{H':Hp},(∀b∈fp,H' b=none)->∀b∈fp,Jt X pins H' b:=λhn b hb=>⟨hn b hb,(f2 b hb).2⟩
 refine codeAny_forLoop_any (λn s'=>∃i σ' H',Inv X pins σ' H' s'/\tn i s'.heap/\(∀b∈fp,H' b=none)/\W i n σ' H') ?_ m0 ⟨0,U,H2,I2,st2,λb hb=>(f2 b hb).1,w0⟩
 rintro n s3 ⟨i,σ3,H3,I3,st3,fr3,w3⟩
 rcases turn i n σ3 H3 w3 with⟨stop,qn⟩|⟨go,N,hN,step⟩
 .refine wpAny_passesOwn hp (thn (T.done X rfl rfl rfl hc i pins s3 σ3 H3 X.xe I3 (stat fr3) st3 stop) λr s4 hpt=>?_);obtain⟨hr,I4⟩:= hpt;subst hr;exact wpAny_execs_nil ⟨σ3,H3,I4,qn⟩
 .refine wpAny_passesOwn hp (thn (T.item X rfl rfl rfl hc i pins s3 σ3 H3 X.xe I3 (stat fr3) st3 go) λr s4 hpt=>?_);obtain⟨u,hr,h4⟩:= hpt;subst hr;refine wpAny_passesOwn hp (thn h4 λ_ s5 hpt=>?_);obtain⟨x,H5,I5,r5,y5,st5,fr5⟩:= hpt;have I5':=I5.pinned (stat fr5) (T.obj _ _ st5);refine wpAny_passesOwn hp (thn (hg _ s5 σ3 H5 x u _ I5' r5 (step x H5 y5)) λ_ s6 hpt=>?_);obtain⟨σ6,H6,I6,q6⟩:= hpt;refine wpAny_passesOwn hp (thn (hb _ s6 σ6 H6 _ I6 q6) λf s7 q7=>?_);have again:∀{σ7:St}{H7:Hp},Inv X (pins++Iu fp s5.heap) σ7 H7 s7->N σ7 H7->∃m,m<n/\∃i σ' H',Inv X pins σ' H' s7/\tn i s7.heap/\(∀b∈fp,H' b=none)/\W i m σ' H':=λ{σ7 H7} I7 n7=>by obtain⟨m',hm,w7⟩:=hN σ7 H7 n7;refine⟨m',hm,i+1,σ7,H7,I7.E3,T.keep _ _ _ st5 λb hb o e=>(I7.pin (b,o) (aC _ (aC _ (DB hb e)))).1,λb hb=>?_,w7⟩;obtain⟨o,e,d⟩:=T.obj _ _ st5 b hb;exact(I7.pin (b,o) (aC _ (aC _ (DB hb e)))).2.1
  cases f with|next=>obtain⟨σ7,H7,I7,n7⟩:=q7;exact again I7 n7|cont=>obtain⟨σ7,H7,I7,n7⟩:=q7;exact again I7 n7|brk=>obtain⟨σ7,H7,I7,q7⟩:=q7;exact⟨σ7,H7,I7.E3,q7⟩|ret v=>obtain⟨x7,σ7,H7,I7,r7,q7⟩:=q7;exact⟨x7,σ7,H7,I7.E3,r7,q7⟩
end
abbrev R2:=V->V->Hp->VK->Prop
def OpR(X:Cx)(f:Value->Value->Sem Value)(r:R2):Prop :=
 ∀(pins:List (Addr×Obj))(s:Shared)(U:St)(H:Hp)(x y:V)(v u:Value)(Q:VK),Inv X pins U H s->RelV x v->RelV y u->r x y H Q ->
  wpAny (model X.prog X.w) X.A (f v u) (EP X pins U Q) X.xe s
def Co(X:Cx)(f:Value)(r:List V->Hp->VK->Prop):Prop :=
 ∀(pins:List (Addr×Obj))(s:Shared)(U:St)(H:Hp)(xs:List V)(us:List Value)(Q:VK),Inv X pins U H s->Vals xs us->r xs H Q ->
  wpAny (model X.prog X.w) X.A (call f us) (EP X pins U Q) X.xe s
def JbW(X:Cx)(r:V->Hp->(Bool->Hp->Prop)->Prop):Prop :=
 ∀(pins:List (Addr×Obj))(s:Shared)(U:St)(H:Hp)(x:V)(v:Value)(Q:Bool->Hp->Prop),Inv X pins U H s->RelV x v->r x H Q ->
  wpAny (model X.prog X.w) X.A (truthy v) (TP X pins U Q) X.xe s
def tOp(r:R2)(ta tb:TE):TE:=λU H Q=>ta U H λx H1=>tb U H1 λy H2=>r x y H2 Q
def rI(C:Int->Int->Prop)(g:Int->Int->V):R2:=λx y H Q=>∃i j,x=.int i/\y=.int j/\C i j/\Q (g i j) H
def rI0(g:Int->Int->V):R2:=λx y H Q=>∃i j,x=.int i/\y=.int j/\Q (g i j) H
section
variable{X:Cx}{a b c:Expr}{ta tb tc:TE}{pos:Pos}
theorem Jaw(ha:PE X a ta)(hb:PE X b tb){pins:List (Addr×Obj)}{s:Shared}{U:St}{H:Hp}{R:V->V->Hp->Prop}(I:Inv X pins U H s)
  (h:ta U H λx H1=>tb U H1 λy H2=>R x y H2) {Q:Value->Shared->Prop} {f:Value->Value->Sem Value}
  (hf:∀v u s2 x y H2,Inv X pins U H2 s2->RelV x v->RelV y u->R x y H2->wpAny (model X.prog X.w) X.A (f v u) Q X.xe s2) :
  wpAny (model X.prog X.w) X.A (eval a X.env) (λv s₁=>wpAny (model X.prog X.w) X.A (eval b X.env) (λu s₂=>wpAny (model X.prog X.w) X.A (f v u) Q X.xe s₂) X.xe s₁) X.xe s:=by
 refine thn (ha pins s U H _ I h) λv s1 hpt=>?_
 obtain⟨x,H1,I1,r1,q1⟩:= hpt;refine thn (hb pins s1 U H1 _ I1 q1) λu s2 hpt=>?_
 obtain⟨y,H2,I2,r2,q2⟩:= hpt;exact hf v u s2 x y H2 I2 r1 r2 q2
theorem ZG{op:Operator}{r:R2}(ho:OpR X (binaryOp op) r)(ha:PE X a ta)(hb:PE X b tb):PE X (.BinOp a op b pos) (tOp r ta tb):=by intro pins s U H Q I h;exact wpAny_BinOp (Jaw ha hb I h λv u s2 x y H2 I2 rx ry q=>ho pins s2 U H2 x y v u Q I2 rx ry q)
theorem opI{f:Value->Value->Sem Value}{C:Int->Int->Prop}{g:Int->Int->Int}
  (rule:∀(i j:Int)(t u:Tok)(s:Shared)(Q:Value->Shared->Prop)(E:Value->Shared->Prop),C i j->Q (.int (g i j) s.toks) {s with toks:=s.toks+1}->wpAny (model X.prog X.w) X.A (f (.int i t) (.int j u)) Q E s) :
  OpR X f (rI C λi j=>.int (g i j)):=by
 intro pins s U H x y v u Q I rx ry h;obtain⟨i,j,rfl,rfl,hc,q⟩:=h;obtain⟨t,rfl⟩:=rx;obtain⟨t',rfl⟩:=ry;exact rule i j t t' s _ _ hc ⟨.int (g i j),H,I.tok _,⟨_,rfl⟩,q⟩
theorem JaN{f:Value->Value->Sem Value}{g:Int->Int->Int}
  (rule:∀(i j:Int)(t u:Tok)(s:Shared)(Q:Value->Shared->Prop)(E:Value->Shared->Prop),Q (.int (g i j) s.toks) {s with toks:=s.toks+1}->wpAny (model X.prog X.w) X.A (f (.int i t) (.int j u)) Q E s) :
  OpR X f (rI0 λi j=>.int (g i j)):=by
 intro pins s U H x y v u Q I rx ry h;obtain⟨i,j,rfl,rfl,q⟩:=h;obtain⟨t,rfl⟩:=rx;obtain⟨t',rfl⟩:=ry;exact rule i j t t' s _ _ ⟨.int (g i j),H,I.tok _,⟨_,rfl⟩,q⟩
theorem ZR{f:Value->Value->Sem Value}{g:Int->Int->Bool}
  (rule:∀(i j:Int)(t u:Tok)(s:Shared)(Q:Value->Shared->Prop)(E:Value->Shared->Prop),Q (.bool (g i j)) s->wpAny (model X.prog X.w) X.A (f (.int i t) (.int j u)) Q E s) :
  OpR X f (rI0 λi j=>.o (g i j)):=by
 intro pins s U H x y v u Q I rx ry h;obtain⟨i,j,rfl,rfl,q⟩:=h;obtain⟨t,rfl⟩:=rx;obtain⟨t',rfl⟩:=ry;exact rule i j t t' s _ _ ⟨.o (g i j),H,I,rfl,q⟩
def JaT(i j:Int):Prop:=0<j/\j<1073741824
def JaS(i j:Int):Prop:=0<=j/\j<=1000000/\i.natAbs<2^64
def Yj(i j:Int):Prop:=(-(2^64)<i/\i<2^64)\/(-(2^64)<j/\j<2^64)
theorem Yj.ok{i j:Int}(h:Yj i j):IntMulOk i j:=by
 rcases h with⟨h1,h2⟩|⟨h1,h2⟩
 .exact .of_left (intBits_le_64 h1 h2)
 .exact .of_right (intBits_le_64 h1 h2)
theorem Wf:OpR X (binaryOp .Add) (rI0 λi j=>.int (i+j)):=JaN λ_ _ _ _ _ _ _ q=>add_int q
theorem V6:OpR X (binaryOp .Sub) (rI0 λi j=>.int (i-j)):=JaN λ_ _ _ _ _ _ _ q=>sub_int q
theorem SW:OpR X (binaryOp .FloorDiv) (rI JaT λi j=>.int (i/j)):=opI λi j _ _ _ _ _ hc q=>by have h1:(0:Int)<j:=hc.1;have h2:j<1073741824:=hc.2;exact floordiv_int (by lia) (by rw[Int.fdiv_eq_ediv_of_nonneg i (by lia)];exact q) (.inl (PyProof.noPylong_small (by lia)))
theorem V9:OpR X (binaryOp .Mod) (rI (λ_ j=>0<j) λi j=>.int (i%j)):=opI λi j _ _ _ _ _ hc q=>by have h1:(0:Int)<j:=hc;exact mod_int' (by lia) (by rw[Int.fmod_eq_emod_of_nonneg i (by lia)];exact q)
theorem V7:OpR X (binaryOp .Pow) (rI JaS λi j=>.int (i^j.toNat)):=opI λ_ _ _ _ _ _ _ hc q=>pow_int_small hc.1 hc.2.1 hc.2.2 q
end
noncomputable def Sk:V->V->Bool
 |.v,.v=>true|.v,.int _=>true|.int _,.v=>true|.v,.o _=>true|.o _,.v=>true|.v,.str _=>true|.str _,.v=>true
 |.int _,.int _=>true|.o _,.o _=>true|.str _,.str _=>true|.zG _,.zG _=>true
 |.int _,.str _=>true|.str _,.int _=>true|.o _,.str _=>true|.str _,.o _=>true
 |_,_=>false
def rEq:R2:=λx y H Q=>Sk x y=true/\Q (.o (decide (x=y))) H
def rNe:R2:=λx y H Q=>Sk x y=true/\Q (.o (!decide (x=y))) H
theorem Oi{i j:Int}:decide (V.int i=V.int j)=(i==j):=by rw[bO];simp
theorem RF{i j:Bool}:decide (V.o i=V.o j)=(i==j):=by rw[bO];simp
theorem Oh{i j:Str}:decide (V.str i=V.str j)=(i==j):=by rw[bO];simp
theorem Oj{i j:Array UInt8}:decide (V.zG i=V.zG j)=(i.toList==j.toList):=by rw[bO];cases i;cases j;simp
section
variable{X:Cx}{a b c:Expr}{ta tb tc:TE}{pos:Pos}
theorem AO{pins:List (Addr×Obj)}{U:St}{H:Hp}{s:Shared}{Q:VK}{k k':Bool}(I:Inv X pins U H s)(q:Q (.o k) H)(e:k=k'):EP X pins U Q (.bool k') s:=by subst e;exact⟨.o k,H,I,rfl,q⟩
theorem Wc:OpR X (compareOp .Eq) rEq:=by
 intro pins s U H x y v u Q I rx ry h;obtain⟨hs,q⟩:=h;cases x with
 |v =>cases rx;cases y with|v=>cases ry;exact PySem.EqNone.eq_none_none (AO I q (by simp))|o j=>cases ry;exact PySem.EqNone.eq_none_bool (AO I q (by simp))|int j=>obtain⟨t',rfl⟩:=ry;exact PySem.EqNone.eq_none_int (AO I q (by simp))|str j=>obtain⟨t',rfl⟩:=ry;exact PySem.EqNone.eq_none_str (AO I q (by simp))|_=>exact absurd (show false=true from hs) aQ
 |o i =>cases rx;cases y with|v=>cases ry;exact PySem.EqNone.eq_bool_none (AO I q (by simp))|o j=>cases ry;exact eq_bool (AO I q RF)|str j=>obtain⟨t',rfl⟩:=ry;exact PySem.EqMixed.eq_bool_str (AO I q (by simp))|_=>exact absurd (show false=true from hs) aQ
 |int i =>obtain⟨t,rfl⟩:=rx;cases y with|v=>cases ry;exact PySem.EqNone.eq_int_none (AO I q (by simp))|int j=>obtain⟨t',rfl⟩:=ry;exact eq_int (AO I q Oi)|str j=>obtain⟨t',rfl⟩:=ry;exact PySem.EqMixed.eq_int_str (AO I q (by simp))|_=>exact absurd (show false=true from hs) aQ
 |str i =>obtain⟨t,rfl⟩:=rx;cases y with|v=>cases ry;exact PySem.EqNone.eq_str_none (AO I q (by simp))|o j=>cases ry;exact PySem.EqMixed.eq_str_bool (AO I q (by simp))|int j=>obtain⟨t',rfl⟩:=ry;exact PySem.EqMixed.eq_str_int (AO I q (by simp))|str j=>obtain⟨t',rfl⟩:=ry;exact eq_str (AO I q Oh)|_=>exact absurd (show false=true from hs) aQ
 |zG i =>obtain⟨t,rfl⟩:=rx;cases y with|zG j=>obtain⟨t',rfl⟩:=ry;exact PySem.W.eq_bytes (AO I q Oj)|_=>exact absurd (show false=true from hs) aQ
 |_=>cases y<;>exact absurd (show false=true from hs) aQ
theorem ZP:OpR X (compareOp .NotEq) rNe:=by
 intro pins s U H x y v u Q I rx ry h;obtain⟨hs,q⟩:=h;cases x with
 |v =>cases rx;cases y with|v=>cases ry;exact PySem.EqNone.ne_none_none (AO I q (by simp))|o j=>cases ry;exact PySem.EqNone.ne_none_bool (AO I q (by simp))|int j=>obtain⟨t',rfl⟩:=ry;exact PySem.EqNone.ne_none_int (AO I q (by simp))|str j=>obtain⟨t',rfl⟩:=ry;exact PySem.EqNone.ne_none_str (AO I q (by simp))|_=>exact absurd (show false=true from hs) aQ
 |o i =>cases rx;cases y with|v=>cases ry;exact PySem.EqNone.ne_bool_none (AO I q (by simp))|o j=>cases ry;exact ne_bool (AO I q (congrArg not RF))|str j=>obtain⟨t',rfl⟩:=ry;exact PySem.EqMixed.ne_bool_str (AO I q (by simp))|_=>exact absurd (show false=true from hs) aQ
 |int i =>obtain⟨t,rfl⟩:=rx;cases y with|v=>cases ry;exact PySem.EqNone.ne_int_none (AO I q (by simp))|int j=>obtain⟨t',rfl⟩:=ry;exact ne_int (AO I q (congrArg not Oi))|str j=>obtain⟨t',rfl⟩:=ry;exact PySem.EqMixed.ne_int_str (AO I q (by simp))|_=>exact absurd (show false=true from hs) aQ
 |str i =>obtain⟨t,rfl⟩:=rx;cases y with|v=>cases ry;exact PySem.EqNone.ne_str_none (AO I q (by simp))|o j=>cases ry;exact PySem.EqMixed.ne_str_bool (AO I q (by simp))|int j=>obtain⟨t',rfl⟩:=ry;exact PySem.EqMixed.ne_str_int (AO I q (by simp))|str j=>obtain⟨t',rfl⟩:=ry;exact ne_str (AO I q (congrArg not Oh))|_=>exact absurd (show false=true from hs) aQ
 |zG i =>obtain⟨t,rfl⟩:=rx;cases y with|zG j=>obtain⟨t',rfl⟩:=ry;exact PySem.W.ne_bytes (AO I q (congrArg not Oj))|_=>exact absurd (show false=true from hs) aQ
 |_=>cases y<;>exact absurd (show false=true from hs) aQ
theorem ZQ:OpR X (compareOp .Lt) (rI0 λi j=>.o (decide (i<j))):=ZR λ_ _ _ _ _ _ _ q=>lt_int q
theorem SV:OpR X (compareOp .LtE) (rI0 λi j=>.o (decide (i<=j))):=ZR λ_ _ _ _ _ _ _ q=>le_int q
theorem Wa:OpR X (compareOp .Gt) (rI0 λi j=>.o (decide (j<i))):=ZR λ_ _ _ _ _ _ _ q=>gt_int q
theorem IA:OpR X (compareOp .In) (λx y H Q=>∃i j,x=.str i/\y=.str j/\Q (.o (!(Builtin.Str.occurrences j i 0 j.length 1).isEmpty)) H):=by intro pins s U H x y v u Q I rx ry h;obtain⟨i,j,rfl,rfl,q⟩:=h;obtain⟨t,rfl⟩:=rx;obtain⟨t',rfl⟩:=ry;exact in_str (AO I q rfl)
theorem D9(b:Expr){op:CmpOp}(h:op≠.In:=by decide)(h2:op≠.NotIn:=by decide):behindInMarks op b=false:=by
 have e1:(op==CmpOp.In)=false:=by cases op<;>first|rfl|exact absurd rfl h
 have e2:(op==CmpOp.NotIn)=false:=by cases op<;>first|rfl|exact absurd rfl h2
 cases b<;>simp[behindInMarks,e1,e2]
theorem SN{op:CmpOp}{r:R2}(ho:OpR X (compareOp op) r)(ha:PE X a ta)(hb:PE X b tb)(hm:behindInMarks op b=false):PE X (.Compare a [op] [b] pos) (tOp r ta tb):=by intro pins s U H Q I h;exact wpAny_Compare1 (Jaw ha hb I h λv u s2 x y H2 I2 rx ry q=>ho pins s2 U H2 x y v u Q I2 rx ry q) hm
def R9(t:TE):TT:=λU H Q=>t U H λx H'=>∃k,x=.o k/\Q k H'
theorem Sq{op:CmpOp}{r:R2}(ho:OpR X (compareOp op) r)(ha:PE X a ta)(hb:PE X b tb)(hm:behindInMarks op b=false):PT X (.Compare a [op] [b] pos) (R9 (tOp r ta tb)):=by intro pins s U H Q I h;refine wpAny_isTrue_Compare1 (thn (ha pins s U H _ I h) λv s1 ⟨x,H1,I1,r1,q1⟩=>thn (hb pins s1 U H1 _ I1 q1) λu s2 ⟨y,H2,I2,r2,q2⟩ =>thn (ho pins s2 U H2 x y v u _ I2 r1 r2 q2) λc s3 ⟨z,H3,I3,r3,k,e,q3⟩=>?_) hm;subst e;cases r3;exact wpAny_truthy_bool ⟨H3,I3,q3⟩
def MF(r r':R2)(ta tb tc:TE):TE:=λU H Q=>ta U H λx H1=>tb U H1 λy H2=>r x y H2 λz H3=>∃k,z=.o k /\
 (if k=true then tc U H3 λw' H4=>r' y w' H4 Q else Q (.o false) H3)
theorem O4{op op':CmpOp}{r r':R2}(ho:OpR X (compareOp op) r)(ho':OpR X (compareOp op') r')(ha:PE X a ta)(hb:PE X b tb)(hc:PE X c tc)
  (hm:lastMarks [op,op'] [b,c]=false:=by with_unfolding_all rfl):PT X (.Compare a [op,op'] [b,c] pos) (R9 (MF r r' ta tb tc)):=by
 intro pins s U H Q I h;refine isTrue_chain (thn (ha pins s U H _ I h) λv s1 ⟨x,H1,I1,r1,q1⟩=>test_link (thn (hb pins s1 U H1 _ I1 q1) λu s2 ⟨y,H2,I2,r2,q2⟩ =>thn (ho pins s2 U H2 x y v u _ I2 r1 r2 q2) λd s3 ⟨z,H3,I3,r3,k,e,q3⟩=>?_)) hm;subst e;cases r3;refine wpAny_truthy_bool ?_;cases k with|false =>obtain⟨k',e',q'⟩:=q3;cases e';exact ite_ff ⟨H3,I3,q'⟩|true =>refine ite_tt (test_last (thn (hc pins s3 U H3 _ I3 q3) λw' s4 ⟨z',H4,I4,r4,q4⟩=>thn (ho' pins s4 U H4 y z' u w' _ I4 r2 r4 q4) λd' s5 hpt=>?_));obtain⟨z2,H5,I5,r5,k2,e2,q5⟩:= hpt;subst e2;cases r5;exact wpAny_truthy_bool ⟨H5,I5,q5⟩
def Jaz(K:Fg)(x:V)(H:Hp)(k:Bool):Prop :=
 match x with|.v=>k=false|.o b=>k=b|.int i=>k=(i !=0)|.str y=>y.length<=sizeLine/\k=((y.length:Int)!=0)|.zG y=>y.size<=sizeLine/\k=((y.size:Int)!=0)|.ref p=>(∃xs,SqL K H p xs/\k=!xs.isEmpty)\/(∃xs,SqT K H p xs/\k=!xs.isEmpty)\/∃kvs,H p=some (.l kvs)/\k=!kvs.isEmpty|_=>False
theorem LX{κ:Type}{kvs:List (κ×V)}{vs:List (κ×Value)}(r:KV kvs vs):(!vs.isEmpty)=!kvs.isEmpty:=by cases r<;>rfl
theorem GU{xs:List V}{its:List Value}(r:Vals xs its):(!its.toArray.isEmpty)=!xs.isEmpty:=by cases r<;>simp
theorem FN:(sizeLine:Nat)<2^63:=by rw[sizeLine_eq];decide
theorem Va:JbW X (λx H Q=>∃k,Jaz X.K x H k/\Q k H):=by
 intro pins s U H x v Q I rx h;obtain⟨k,e,q⟩:=h;have hl:=FN;have hs:sizeLine=16777216:=sizeLine_eq;cases x with
 |v =>cases rx;have e':k=false:=e;subst e';exact truthy_none ⟨H,I,q⟩
 |o b =>cases rx;have e':k=b:=e;subst e';exact wpAny_truthy_bool ⟨H,I,q⟩
 |int i =>obtain⟨t,rfl⟩:=rx;have e':k=(i !=0):=e;subst e';exact PySem.P.truthy_int ⟨H,I,q⟩
 |str y =>obtain⟨t,rfl⟩:=rx;obtain⟨hy,e'⟩:y.length<=sizeLine/\k=((y.length:Int)!=0):=e;subst e';exact PySem.P.truthy_str (by lia) ⟨H,I.tok _,q⟩
 |zG y =>obtain⟨t,rfl⟩:=rx;obtain⟨hy,e'⟩:y.size<=sizeLine/\k=((y.size:Int)!=0):=e;subst e';exact PySem.W.truthy_bytes (by lia) ⟨H,I.tok _,q⟩
 |ref p =>
  cases rx;have e':(∃xs,SqL X.K H p xs/\k=!xs.isEmpty)\/(∃xs,SqT X.K H p xs/\k=!xs.isEmpty)\/∃kvs,H p=some (.l kvs)/\k=!kvs.isEmpty:=e;rcases e' with⟨xs,hx,e'⟩|⟨xs,hx,e'⟩|⟨kvs,hx,e'⟩
  .subst e';obtain⟨its,r,pl,hz⟩:=I.list hx;have hlen:=r.length;exact wpAny_truthy_list pl.isList (by simp only[ax];lia) ⟨H,I.tok _,by rw[GU r];exact q⟩
  .subst e';obtain⟨its,r,pl,hz⟩:=I.tuple hx;have hlen:=r.length;exact truthy_tuple pl (by simp only[ax];lia) ⟨H,I.tok _,by rw[GU r];exact q⟩
  .subst e';obtain⟨hz,hS,vs,r,m⟩:kvs.length<=sizeLine/\(p==sysModules)=false/\∃vs,KV kvs vs/\s.heap.DictOf (A0 X.prog X.w) p vs:=I.z9 p _ hx;have hlen:kvs.length=vs.length:=Paired.length r;exact wpAny_truthy_dict hS m (by lia) ⟨H,I.tok _,by rw[LX r];exact q⟩
 |_=>exact(show False from e).elim
theorem O3(ha:PE X a ta)(he:∀whole,isTrue a X.env whole=(do let v <- whole;standAt a.pos;holding [v] (truthy v))) :
  PT X a (λU H Q=>ta U H λx H'=>∃k,Jaz X.K x H' k/\Q k H'):=by
 intro pins s U H Q I h;exact isTrue_plain (thn (ha pins s U H _ I h) λv s1 ⟨x,H1,I1,r1,q1⟩=>Va pins s1 U H1 x v Q I1 r1 q1) (he _)
theorem LO:OpR X (binaryOp .Add) (λx y H Q=>∃i j,x=.str i/\y=.str j/\i.length+j.length<=sizeLine/\Q (.str (i++j)) H):=by intro pins s U H x y v u Q I rx ry h;obtain⟨i,j,rfl,rfl,hz,q⟩:=h;obtain⟨t,rfl⟩:=rx;obtain⟨t',rfl⟩:=ry;exact add_str (λt' tk=>⟨.str (i++j),H,I.tok _,⟨_,rfl⟩,q⟩) hz
theorem vals1{x:V}{us:List Value}(r:Vals [x] us):∃u,us=[u]/\RelV x u:=by cases r with|cons r1 r2=>cases r2;exact⟨_,rfl,r1⟩
theorem Ot:Co X (.type "int") (λxs H Q=>(∃i,xs=[.int i]/\Q (.int i) H)\/∃k,xs=[.o k]/\Q (.int (if k then 1 else 0)) H):=by
 intro pins s U H xs us Q I r h;rcases h with⟨i,rfl,q⟩|⟨k,rfl,q⟩
 .obtain⟨u,rfl,t,rfl⟩:=vals1 r;exact call_int_int ⟨.int i,H,I,⟨_,rfl⟩,q⟩
 .obtain⟨u,rfl,r1⟩:=vals1 r;cases r1;exact call_int_bool ⟨.int (if k then 1 else 0),H,I.tok _,⟨_,rfl⟩,q⟩
end
structure UD(h:Heap)(x dx C:Addr)(mA:Str->Option Value):Prop where
 obj:h.get? x=some (instObj C dx)
 ns:h.Ns1 dx mA
 ne:dx≠x
theorem Nr{h:Heap}{dx:Addr}{mA:Str->Option Value}(n:h.Ns1 dx mA):∃od,h.get? dx=some od/\∀name,lookIn name od=some (mA name):=by
 obtain⟨o,es,ep,ho,hd,hk,_,hm⟩:=n;refine⟨o,ho,λname=>?_⟩;have e:=hm name;unfold nsFind findBy at e;rw[<- Array.find?_toList]at e;unfold lookIn;rw[hd];dsimp only;split
 next y q=>rw[q]at e;exact congrArg some e
 .rename_i q;rw[q]at e;have a:es.toList.any (·.refKey)=false:=by rw[cO];intro y hy;obtain⟨z,t,hkey⟩:=hk y (Array.mem_toList_iff.mp hy);simp[DictEntry.refKey,hkey]
  have a':¬es.toList.any (·.refKey)=true:=by rw[a];exact aQ
  rw[if_neg a'];exact congrArg some e
theorem UD.look{h:Heap}{x dx C:Addr}{mA:Str->Option Value}(I:UD h x dx C mA):∃od,InstAt h x (instObj C dx) C (some od)/\∀name,lookIn name od=some (mA name) :=
 let⟨od,ho,hl⟩:=Nr I.ns
 ⟨od,⟨I.obj,rfl,rfl,ho⟩,hl⟩
section
variable{prog:Program}{w:World}{A:Around}{E:Value->Shared->Prop}{s:Shared}{K:Fg}{x dx C f:Addr}{mA:Str->Option Value}{name:Str}{v:Value}
theorem get_map{expr:Bool}{Q:Value->Shared->Prop}(X:K.In s.heap)(I:UD s.heap x dx C mA)(hg:plainGet K C name=true)(hh:hasDictIn K C=true)
  (ha:findIn K (.ref C) name=some none) (hv:mA name=some v) (hv':handedIn v=true) (h:Q v {s with toks:=s.toks+1}) :
  wpAny (model prog w) A (getAttr (.ref x) name expr) Q E s:=by
 obtain⟨od,J,hl⟩:=I.look;exact PySem.W.get_value X J (plainGet_of hg).1 (PySem.W.findObj_own hh ha rfl (by rw[hl,hv])) hv' h
theorem P5{pl:Sem Bool}{Q:Value×List Value->Shared->Prop}(X:K.In s.heap)(I:UD s.heap x dx C mA)(hg:plainGet K C name=true)
  (hf:findIn K (.ref C) name=some (some (.ref f))) (ht:isFn K (.ref f)=true) (hv:mA name=none) (h:Q (.ref f,[.ref x]) s) :
  wpAny (model prog w) A (getMethod (.ref x) name pl) Q E s:=by
 obtain⟨od,J,hl⟩:=I.look;exact PySem.W.method_fn X J (plainGet_of hg).1 (plainGet_of hg).2 hf (beq_iff_eq.mp ht) (by show(lookIn name od).map (·.isSome)=some false;rw[hl,hv];rfl) h
theorem Sj{ns:List Str}{Q:Unit->Shared->Prop}(X:K.In s.heap)(I:UD s.heap x dx C mA)
  (hs:findIn K (.ref C) "__setattr__"=some (some (.builtin "object.__setattr__"))) (hp:plainOver K C=true) (ht:takerIn K C name=some none) (hh:hasDictIn K C=true)
  (hw:PySem.Within mA ns) (hsz:ns.length<=sizeLine)
  (h:∀h',UD h' x dx C (λy=>if y=name then some v else mA y)->Heap.SameBut dx s.heap h'->Q () {s with heap:=h',toks:=s.toks+2}) :
  wpAny (model prog w) A (setAttr (.ref x) name v) Q E s:=by
 obtain⟨od,J,hl⟩:=I.look;refine PySem.W.set_plain X J hs (PySem.W.osa_open (s:={s with toks:=s.toks+1}) (r:=none) X J hp ht λb=>?_);obtain⟨cd,hc,hd'⟩:=PySem.W.any_some hh;have hx:s.heap.get? x=some ⟨.ref C,some dx,.plain,#[]⟩:=I.obj;refine aa (au (aa (aa (wpAny_loadPart hx (aa (PySem.W.Looks.here (s:={s with toks:=s.toks+1}) (PySem.W.looks_clsIn X hc) ?_))))));rw[hd'];refine au (a:=some dx) (aa (au (aa ?_)));refine wpAny_nsSet1 (s:={s with toks:=s.toks+1}) I.ns λh' hn2 hs2=>?_
 obtain⟨oD,esD,epD,hoD,hdD,hcD⟩:=hn2.count (PySem.Within.cons name v hw);refine aa (wpAny_lookBehind hoD (by rw[hdD];exact pastItsLine_dict (aR hcD (by rw[aX];lia))) ?_);exact au (h _ ⟨(hs2.2 _ (Ne.symm I.ne)).trans I.obj,hn2,I.ne⟩ hs2)
theorem Px{R:Result->Shared->Prop}{vs:List Value}{kw:List (Str×Value)}(X:K.In s.heap)(hm:makesIn K C=true)
  (hi:findIn K (.ref C) "__init__"=some (some (.ref f))) (hf:PySem.W.typeIn K (.ref f)=some (.type "function"))
  (h:codeAny (model prog w) (A.under (.builtin "type.__call__" ⟨.ref C::vs,kw⟩)) (.call (.ref f) ⟨.ref (s.heap.objs.size+1)::vs,kw⟩) (PySem.W.InitBack (s.heap.objs.size+1) R)
   {s with heap:=(s.heap.push emptyDict).push (instObj C s.heap.objs.size)}) :
  codeAny (model prog w) A (.call (.ref C) ⟨vs,kw⟩) R s:=by
 obtain⟨hh,g,d,t,os⟩:=s;exact PySem.W.make_core (PySem.W.makes_of X hm) (PySem.W.looks_findIn X hi) (λself=>PySem.W.bind_fn X self hf) (.inl rfl) h
end
noncomputable def EO(f:Str)(v:V):List (Str×V)->List (Str×V)
 | []=>[(f,v)]
 |(g,x)::r=>if g=f then(g,v)::r else(g,x)::EO f v r
theorem FK(f g:Str)(v:V):∀fs:List (Str×V),(EO f v fs).lookup g=if g=f then some v else fs.lookup g
 | []=>by
  show List.lookup g [(f,v)]=_;by_cases h:g=f
  .have hb:(g==f)=true:=beq_iff_eq.mpr h;simp only[List.lookup,hb,if_pos h]
  .have hb:(g==f)=false:=beq_eq_false_iff_ne.mpr h;simp only[List.lookup,hb,if_neg h]
 |(k,x)::r=>by
  have ih:=FK f g v r;rw[show EO f v ((k,x)::r)=(if k=f then(k,v)::r else(k,x)::EO f v r)from rfl];by_cases hk:k=f
  .rw[if_pos hk];by_cases h:g=k
   .have hb:(g==k)=true:=beq_iff_eq.mpr h;simp only[List.lookup,hb,if_pos (h.trans hk)]
   .have hb:(g==k)=false:=beq_eq_false_iff_ne.mpr h;simp only[List.lookup,hb,if_neg (λe:g=f=>h (e.trans hk.symm))]
  .rw[if_neg hk];by_cases h:g=k
   .have hb:(g==k)=true:=beq_iff_eq.mpr h;simp only[List.lookup,hb,if_neg (λe:g=f=>hk (h.symm.trans e))]
   .have hb:(g==k)=false:=beq_eq_false_iff_ne.mpr h;simp only[List.lookup,hb];exact ih
theorem FR(f:Str)(v:V):∀fs:List (Str×V),f∈(EO f v fs).map (·.1)/\∀g,g∈fs.map (·.1)->g∈(EO f v fs).map (·.1)
 | []=>⟨by simp[EO],λg h=>by simp at h⟩
 |(k,x)::r=>by
  obtain⟨i1,i2⟩:=FR f v r;rw[show EO f v ((k,x)::r)=(if k=f then(k,v)::r else(k,x)::EO f v r)from rfl];by_cases hk:k=f
  .rw[if_pos hk];subst hk;exact⟨by simp,λg h=>by simpa using h⟩
  .rw[if_neg hk];refine⟨?_,λg h=>?_⟩
   .rw[aj];exact ao _ i1
   .rw[aj]at h ⊢;rcases aH.mp h with e|e
    .exact aH.mpr (.inl e)
    .exact ao _ (i2 g e)
theorem FQ(f:Str)(v:V):∀fs:List (Str×V),(EO f v fs).length<=fs.length+1
 | []=>by simp[EO]
 |(k,x)::r=>by
  have ih:=FQ f v r;rw[show EO f v ((k,x)::r)=(if k=f then(k,v)::r else(k,x)::EO f v r)from rfl];by_cases hk:k=f
  .rw[if_pos hk,aX,aX];lia
  .rw[if_neg hk,aX,aX];lia
theorem Ap.some_of{v:V}{o:Option Value}(r:Ap (some v) o):∃u,o=some u/\RelV v u:=by cases o with|none=>exact(show False from r).elim|some u=>exact⟨u,rfl,r⟩
theorem Ap.none_of{o:Option Value}(r:Ap none o):o=none:=by cases o with|none=>rfl|some u=>exact(show False from r).elim
theorem NL{v:V}{u:Value}(r:RelV v u):handedIn u=true:=by cases v with|v=>cases(show u=Value.none from r);rfl|o b=>cases(show u=Value.bool b from r);rfl|int i=>obtain⟨t,e⟩:=(show ∃t,u=Value.int i t from r);cases e;rfl|str x=>obtain⟨t,e⟩:=(show ∃t,u=Value.str x t from r);cases e;rfl|zG b=>obtain⟨t,e⟩:=(show ∃t,u=Value.bytes b t from r);cases e;rfl|zg b=>obtain⟨t,e⟩:=(show ∃t,u=Value.float b t from r);cases e;rfl|ref a=>cases(show u=Value.ref a from r);rfl|ty n=>cases(show u=Value.type n from r);rfl
section
variable{P:Program}{w:World}{H H':Hp}{h h':Heap}{a C dx:Addr}{fs fs':List (Str×V)}
theorem HG(z9:HOk P w H h)(e:H a=some (.ins C dx fs)):∃mA,UD h a dx C mA/\(∀f,Ap (fs.lookup f) (mA f))/\PySem.Within mA (fs.map (·.1))/\fs.length<=1000/\H dx=some (.own a):=by
 obtain⟨d,z,ne,ob,mA,n,r,q⟩:=(show A4 P w H h a (.ins C dx fs)from z9 a _ e)
 exact⟨mA,⟨ob,n,ne⟩,r,q,z,d⟩
end
structure Cls(K:Fg)(C:Addr):Prop where
 pg:plainGet K C Str.empty=true
 hd:hasDictIn K C=true
 po:plainOver K C=true
 sa:findIn K (.ref C) "__setattr__"=some (some (.builtin "object.__setattr__"))
theorem Cls.get{K:Fg}{C:Addr}(c:Cls K C)(f:Str):plainGet K C f=true:=c.pg
def Bi(K:Fg)(C:Addr)(f:Str):Prop:=findIn K (.ref C) f=some none
theorem Bi.Zf{K:Fg}{C:Addr}{f:Str}(n:Bi K C f):takerIn K C f=some none:=by unfold takerIn;rw[show findIn K (.ref C) f=some none from n];rfl
structure Meth(K:Fg)(C:Addr)(m:Str)(f:Addr):Prop where
 at_:findIn K (.ref C) m=some (some (.ref f))
 fn:isFn K (.ref f)=true
 kp:keepIn K (.ref f)=true
section
variable{X:Cx}{pins:List (Addr×Obj)}{U:St}{H:Hp}{s:Shared}{a C dx:Addr}{fs:List (Str×V)}{f:Str}{v:V}{A:Around}{E:Value->Shared->Prop}
theorem L4{b:Bool}{Q:Value->Shared->Prop}(I:Inv X pins U H s)(e:H a=some (.ins C dx fs))(c:Cls X.K C)(n:Bi X.K C f)(l:fs.lookup f=some v)
  (h:∀u s',Inv X pins U H s'->RelV v u->Q u s'):wpAny (model X.prog X.w) A (getAttr (.ref a) f b) Q E s:=by
 obtain⟨mA,O,r,_,_,_⟩:=HG I.z9 e;obtain⟨u,hu,ru⟩:=Ap.some_of (v:=v) (o:=mA f) (by rw[<- l];exact r f);exact get_map I.kIn O (c.get f) c.hd n hu (NL ru) (h u _ (I.tok _) ru)
theorem GV{m:Str}{g:Addr}{pl:Sem Bool}{Q:Value×List Value->Shared->Prop}(I:Inv X pins U H s)(e:H a=some (.ins C dx fs))(c:Cls X.K C)(k:Meth X.K C m g)(l:fs.lookup m=none)
  (h:Q (.ref g,[.ref a]) s):wpAny (model X.prog X.w) A (getMethod (.ref a) m pl) Q E s:=by
 obtain⟨mA,O,r,_,_,_⟩:=HG I.z9 e;have hn:mA m=none:=Ap.none_of (by rw[<- l];exact r m);exact P5 I.kIn O (c.get m) k.at_ k.fn hn h
theorem LC{y:V}{u:Value}{Q:Unit->Shared->Prop}(I:Inv X pins U H s)(e:H a=some (.ins C dx fs))(c:Cls X.K C)(n:Bi X.K C f)(hl:fs.length<1000)(ry:RelV y u)
  (h:∀s',Inv X pins U (upd H a (.ins C dx (EO f y fs))) s'->Q () s'):wpAny (model X.prog X.w) A (setAttr (.ref a) f u) Q E s:=by
 obtain⟨mA,O,r,wi,_,ho⟩:=HG I.z9 e;have hz:(fs.map (·.1)).length<=sizeLine:=by rw[ar,sizeLine_eq];lia
 refine Sj I.kIn O c.sa c.po n.Zf c.hd wi hz λh' O' sb=>h _ ?_
 have hd:∃o,h'.get? dx=some o:=let⟨o,_,_,e',_⟩:=O'.ns;⟨o,e'⟩;refine I.write (x:=a) (e:=dx) (by rw[e];exact True.intro) (.inr ho) (λb q hb z=>(sb.2 b hb).trans z) hd ?_;refine⟨by rw[Ai O.ne];exact ho,?_,O.ne,O'.obj,_,O'.ns,λg=>?_,λg hg=>?_⟩
 .have:=FQ f y fs;lia
 .show Ap ((EO f y fs).lookup g) (if g=f then some u else mA g);rw[FK];by_cases q:g=f
  .rw[if_pos q,if_pos q];exact ry
  .rw[if_neg q,if_neg q];exact r g
 .by_cases q:g=f
  .rw[q];exact(FR f y fs).1
  .refine(FR f y fs).2 g (wi g λz=>hg ?_);show(if g=f then some u else mA g)=none;rw[if_neg q];exact z
theorem Inv.made(I:Inv X pins U H s):Inv X pins U (upd (upd H s.heap.objs.size (.own (s.heap.objs.size+1))) (s.heap.objs.size+1) (.ins C s.heap.objs.size []))
  {s with heap:=(s.heap.push emptyDict).push (instObj C s.heap.objs.size)}:=by
 have e1:(s.heap.push emptyDict).get? s.heap.objs.size=some emptyDict:=aD s.heap rfl;have e2:((s.heap.push emptyDict).push (instObj C s.heap.objs.size)).get? (s.heap.objs.size+1)=some (instObj C s.heap.objs.size):=by have:=aD (s.heap.push emptyDict) (o:=instObj C s.heap.objs.size) rfl;rwa[bF]at this
 have e3:(s.heap.push emptyDict).Ns s.heap.objs.size (λ_=>none):=⟨emptyDict,#[],_,e1,rfl,(λe he=>absurd he (by simp)),λ_=>rfl⟩
 have I1:=I.laid (a:=s.heap.objs.size) (o:=.own (s.heap.objs.size+1)) (h':=s.heap.push emptyDict) (t':=s.toks) (λb u q=>af _ q) (aJ _) ⟨_,e1⟩;refine I1.laid (a:=s.heap.objs.size+1) (o:=.ins C s.heap.objs.size []) (t':=s.toks) (λb u q=>af _ q) (Nat.le_of_eq (bF _ _)) ?_;have ne:s.heap.objs.size≠s.heap.objs.size+1:=aS (Nat.lt_succ_self _);refine⟨by rw[Ai ne,Ak],Nat.zero_le _,ne,e2,λ_=>none,(Heap.Ns1.of_empty e3).at λo q=>af _ q,λ_=>True.intro,λy hy=>absurd rfl hy⟩
theorem UC{prog:Program}{w:World}{env:Env}{e:Expr}{f:Str}{pos:Pos}{s:Shared}{Q:Value->Shared->Prop}(hb:attributeBase e f env (eval e env)=eval e env)
  (h:wpAny (model prog w) A (eval e env) (λo s₁=>wpAny (model prog w) A (getAttr o f true) Q E s₁) E s):wpAny (model prog w) A (eval (.Attribute e f pos) env) Q E s :=
 Attribute_any_ h (by rw[arm_eval_Attribute,hb])
end
def JaF(K:Fg)(ta:TE)(f:Str):TE:=λU H Q=>ta U H λx H1=>∃a C dx fs v,x=.ref a/\H1 a=some (.ins C dx fs)/\Cls K C/\Bi K C f/\fs.lookup f=some v/\Q v H1
def JaG(K:Fg)(ta tv:TE)(f:Str):TS:=λD U H=>tv U H λy H1=>ta U H1 λx H2=>∃a C dx fs,x=.ref a/\H2 a=some (.ins C dx fs)/\Cls K C/\Bi K C f/\fs.length<1000 /\
 D.nx U (upd H2 a (.ins C dx (EO f y fs)))
section
variable{X:Cx}{o e value:Expr}{f:Str}{pos pos' tpos:Pos}{ta tv:TE}
theorem KH(he:PE X e ta)(hb:attributeBase e f X.env (eval e X.env)=eval e X.env):PE X (.Attribute e f pos) (JaF X.K ta f):=by intro pins s U H Q I h;refine UC hb (thn (he pins s U H _ I h) λu s1 hpt=>?_);obtain⟨x,H1,I1,rx,a,C,dx,fs,v,ex,ea,c,n,l,q⟩:= hpt;subst ex;obtain rfl:u=Value.ref a:=rx;exact L4 I1 ea c n l λu' s2 I2 ru=>⟨v,H1,I2,ru,q⟩
theorem VL(ha:PE X o ta)(hv:PE X value tv)(hs:swapsWith value (some (.Attribute o f pos')) pos.line X.env=pure false):PS X (.Assign [.Attribute o f pos'] value pos) (JaG X.K ta tv f):=by intro pins s U H D I h;refine plainObj_wpAny_Assign_Attribute (thn (hv pins s U H _ I h) λu s1 ⟨y,H1,I1,ry,q⟩=>thn (ha pins s1 U H1 _ I1 q) λov s2 hpt=>?_) hs;obtain⟨x,H2,I2,rx,a,C,dx,fs,ex,ea,c,n,l,q2⟩:= hpt;subst ex;obtain rfl:ov=Value.ref a:=rx;exact LC I2 ea c n l ry λs3 I3=>⟨U,_,I3,q2⟩
end
section
variable{X:Cx}{pins:List (Addr×Obj)}{U:St}{H:Hp}{s:Shared}{A:Around}{E:Value->Shared->Prop}{Q:Value->Shared->Prop}{c:Value}{b:Bool}
inductive Lr(K:Fg)(H:Hp):V->Value->Prop where
 |v:Lr K H .v (.type "NoneType")
 |o (x:Bool):Lr K H (.o x) (.type "bool")
 |int (i:Int):Lr K H (.int i) (.type "int")
 |str (x:Str):Lr K H (.str x) (.type "str")
 |zg (x:UInt64):Lr K H (.zg x) (.type "float")
 |lst {a:Addr} {xs:List V} (e:H a=some (.lst xs)):Lr K H (.ref a) (.type "list")
 |frz {a:Addr} {o:Obj} {xs:List V} (e:H a=some (.frz o (.lst xs))):Lr K H (.ref a) (.type "list")
 |tup {a:Addr} {xs:List V} (e:H a=some (.tup xs)):Lr K H (.ref a) (.type "tuple")
 |l {a:Addr} {kvs:List (Key×V)} (e:H a=some (.l kvs)):Lr K H (.ref a) (.type "dict")
 |dT {a:Addr} {kvs:List (List Key×V)} (e:H a=some (.dT kvs)):Lr K H (.ref a) (.type "dict")
 |ins {a C dx:Addr} {fs:List (Str×V)} (e:H a=some (.ins C dx fs)) (cl:Cls K C) (ha:findIn K (.ref C) "__class__"=some (some (.builtin "object.__class__")))
   (hn:specialIn K (.builtin "object.__class__") "__get__"=some (some (.builtin "getset_descriptor.__get__"))) (htk:takesIn K (.builtin "object.__class__")=some true)
   (hm:mroIn K C (.type "object")=some true):Lr K H (.ref a) (.ref C)
theorem NB{x:V}{u t:Value}(I:Inv X pins U H s)(rx:RelV x u)(ty:Lr X.K H x t)(e:kitOne X.K t c=some b)(h:∀tk,Q (.bool b) {s with toks:=tk}) :
  wpAny (model X.prog X.w) A (call (.builtin "isinstance") [u,c]) Q E s:=by
 cases ty with
 |v=>cases(show u=Value.none from rx);exact kia_one PySem.W.kitx_none I.kIn True.intro e (λz=>nomatch z) h
 |o y=>cases(show u=Value.bool y from rx);exact kia_one PySem.W.kitx_bool I.kIn True.intro e (λz=>nomatch z) h
 |int i=>obtain⟨t,q⟩:=(show ∃t,u=Value.int i t from rx);cases q;exact kia_one PySem.W.kitx_int I.kIn True.intro e (λz=>nomatch z) h
 |str y=>obtain⟨t,q⟩:=(show ∃t,u=Value.str y t from rx);cases q;exact kia_one PySem.W.kitx_str I.kIn True.intro e (λz=>nomatch z) h
 |zg y=>obtain⟨t,q⟩:=(show ∃t,u=Value.float y t from rx);cases q;exact kia_one PySem.W.kitx_float I.kIn True.intro e (λz=>nomatch z) h
 |@lst a xs ea =>
  cases(show u=Value.ref a from rx);obtain⟨_,_,n,_,h1⟩:=(show A4 X.prog X.w H s.heap a (.lst xs)from I.z9 a _ ea)
  exact kia_one kitx_list I.kIn ⟨_,h1,rfl⟩ e (λz=>nomatch z) h
 |@frz a ob xs ea =>
  cases(show u=Value.ref a from rx);obtain⟨_,_,_,n,_,h1⟩:=(show A4 X.prog X.w H s.heap a (.frz ob (.lst xs))from I.z9 a _ ea)
  exact kia_one kitx_list I.kIn ⟨_,h1,rfl⟩ e (λz=>nomatch z) h
 |@tup a xs ea =>
  cases(show u=Value.ref a from rx);obtain⟨_,_,_,p⟩:=(show A4 X.prog X.w H s.heap a (.tup xs)from I.z9 a _ ea)
  obtain⟨o,h1,h2,_⟩:=p;exact kia_one PySem.W.kitx_tuple I.kIn ⟨o,h1,h2⟩ e (λz=>nomatch z) h
 |@l a kvs ea =>
  cases(show u=Value.ref a from rx);obtain⟨_,_,vs,_,p⟩:=(show A4 X.prog X.w H s.heap a (.l kvs)from I.z9 a _ ea)
  obtain⟨o,es,ep,h1,h2,_⟩:=p;exact kia_one kitx_dict I.kIn ⟨o,h1,h2.1⟩ e (λz=>nomatch z) h
 |@dT a kvs ea =>
  cases(show u=Value.ref a from rx);obtain⟨_,_,xs,_,o,es,ep,h1,h2,_⟩:=(show A4 X.prog X.w H s.heap a (.dT kvs)from I.z9 a _ ea)
  exact kia_one kitx_dict I.kIn ⟨o,h1,h2.1⟩ e (λz=>nomatch z) h
 |@ins a C dx fs ea cl ha hn htk hm =>cases(show u=Value.ref a from rx);obtain⟨mA,O,_⟩:=HG I.z9 ea;obtain⟨od,J,_⟩:=O.look;exact kia_one (PySem.W.kitx_own (cl.get _) cl.hd ha hn htk hm) I.kIn J e (λz=>nomatch z) h
end
structure DA(k:Nat)(A:Around):Prop where
 hd:A.handled=none
 dp:A.depth+3*k+5<recursionLimit
 un:A.units+16*k+200<cLine
theorem DA.mono{j k:Nat}{A:Around}(r:DA k A)(h:j<=k):DA j A:=⟨r.hd,by have:=r.dp;lia,by have:=r.un;lia⟩
theorem DA.deeper{k:Nat}{A:Around}(r:DA (k+1) A)(env:Env):DA k (A.deeper env) :=
 ⟨r.hd,by have:=r.dp;show A.depth+1+3*k+5<_;lia,by have:=r.un;show A.units+3+16*k+200<_;lia⟩
theorem LW{A:Around}{C:Addr}{us:List Value}{kw:List (Str×Value)}:(A.under (.builtin "type.__call__" ⟨.ref C::us,kw⟩)).depth=A.depth+1:=by first|rfl|simp[Around.under,Code.weight,Code.isCreation,Code.isGuard,Code.isCaller,Code.frames,Code.isFrame,guardIds]
theorem LV{A:Around}{C:Addr}{us:List Value}{kw:List (Str×Value)}:(A.under (.builtin "type.__call__" ⟨.ref C::us,kw⟩)).units=A.units+1:=by first|rfl|simp[Around.under,Code.cUnits,Code.frames,Code.isFrame]
theorem DA.make{k:Nat}{A:Around}(r:DA (k+1) A)(C:Addr)(us:List Value)(kw:List (Str×Value)):DA k (A.under (.builtin "type.__call__" ⟨.ref C::us,kw⟩)) :=
 ⟨r.hd,by have:=r.dp;rw[LW];lia,by have:=r.un;rw[LV];lia⟩
theorem DA.depth{k:Nat}{A:Around}(r:DA k A):A.depth<recursionLimit:=by have:=r.dp;lia
theorem DA.units{k:Nat}{A:Around}(r:DA k A):A.units+64<cLine:=by have:=r.un;lia
def X7:TA:=λ_ H Q=>Q [] H
def Zm(ta:TE)(tr:TA):TA:=λU H Q=>ta U H λx H1=>tr U H1 λxs H2=>Q (x::xs) H2
section
variable{X:Cx}{e:Expr}{es:List Expr}{te:TE}{t:TA}{pos:Pos}
theorem D8:PA X [] X7:=λ_ _ _ _ H Q I h=>Calls.spliced_nil ⟨[],H,I,.nil,h⟩
theorem BN(ha:PE X e te)(hr:PA X es t)(hs:starEach (e::es) X.env=(false,eval e X.env)::starEach es X.env:=by rfl):PA X (e::es) (Zm te t):=by
 intro pos pins s U H Q I h;rw[hs];show wpAny _ _ (spliced ((false,eval e X.env)::backTo pos (starEach es X.env))) _ _ s;refine Calls.spliced_cons (thn (ha pins s U H _ I h) λu s1 hpt=>?_);obtain⟨x,H1,I1,r1,q1⟩:= hpt;refine thn (hr pos pins s1 U H1 _ I1 q1) λus s2 hpt => ?_
 obtain⟨xs,H2,I2,r2,q2⟩:= hpt;exact⟨x::xs,H2,I2,.cons r1 r2,q2⟩
def Jbi(t:TA):TE:=λU H Q=>t U H λxs H1=>xs.length<=sizeLine/\∀p,H1 p=none->Q (.ref p) (upd H1 p (.tup xs))
def Jbm(t:TA):TE:=λU H Q=>t U H λxs H1=>xs.length<=sizeLine/\∀p,H1 p=none->Q (.ref p) (upd H1 p (.lst xs))
theorem VS{x1}(h:PA X es t):PE X (.Tuple es x1 pos) (Jbi t):=by intro pins s U H Q I hq;refine wpAny_Tuple_spliced (thn (h pos pins s U H _ I hq) λus s1 ⟨xs,H1,I1,r,z,q⟩=>⟨by rw[<- r.length];exact z,?_⟩);have hf:H1 s1.heap.objs.size=none:=I1.z9.fresh (aJ _);refine⟨.ref s1.heap.objs.size,upd H1 s1.heap.objs.size (.tup xs),I1.laid (t':=s1.toks) (λb u e=>af _ e) (aJ _) ?_,rfl,q _ hf⟩;exact⟨z,us,r,⟨_,aD _ rfl,rfl,_,rfl⟩⟩
theorem Q7(h:PA X es t):PE X (.List es pos) (Jbm t):=by intro pins s U H Q I hq;refine wpAny_List_spliced (thn (h pos pins s U H _ I hq) λus s1 ⟨xs,H1,I1,r,z,q⟩=>⟨by rw[<- r.length];exact z,?_⟩);have hf:H1 s1.heap.objs.size=none:=I1.z9.fresh (aJ _);refine⟨.ref s1.heap.objs.size,upd H1 s1.heap.objs.size (.lst xs),I1.laid (t':=s1.toks) (λb u e=>af _ e) (aJ _) ?_,rfl,q _ hf⟩;exact⟨z,us,0,r,aD _ rfl⟩
end
abbrev Sp:=List V->Hp->VK->XK->Prop
abbrev CXT:=List Env->Hp->Shared->XK->Value->Shared->Prop
structure UG(P:Program)(w:World)(K:Fg)(mg:Str->Option Value)(base:Heap)(A:Around)(outer:List Env)(s:Shared)(H:Hp):Prop where
 frames:A.frames=some outer
 mod:Mod K mg base
 bs:∀b o,base.get? b=some o->s.heap.get? b=some o/\H b=none
 zA:base.objs.size<=s.heap.objs.size
 K0:s.heap.FunFrames base outer
 zo:∀b∈frs outer,H b=none
 z9:HOk P w H s.heap
 bare:AllBare s.gens
def CE(outer:List Env)(P:Program)(w:World)(H:Hp)(s:Shared)(Q:VK)(u:Value)(s':Shared):Prop :=
 ∃v H',s'.os=s.os/\AllBare s'.gens/\Un (frs outer) [] H H' s.heap s'.heap/\HOk P w H' s'.heap/\RelV v u/\Q v H'
def CR(CX:CXT)(outer:List Env)(P:Program)(w:World)(H:Hp)(s:Shared)(Q:VK)(E:XK)(r:Result)(s':Shared):Prop :=
 match r with|.ok (.ret u)=>CE outer P w H s Q u s'|.ok _=>False|.error e=>CX outer H s E e s'
structure DS(P:Program)(w:World)(K:Fg)(mg:Str->Option Value)(base:Heap)(CX:CXT)(k:Nat)(f:Addr)(fd:FuncData)(ps:List Str)(sp:Sp):Prop where
 len:∀vs H Q E,sp vs H Q E->vs.length=ps.length
 run:∀(A:Around)(outer:List Env)(s:Shared)(H:Hp)(args:Args)(us:List Value)(vs:List V)(Q:VK)(E:XK),DA k A->UG P w K mg base A outer s H->BindsTo s fd args (ps.zip us)->Vals vs us->sp vs H Q E ->
  codeAny (model P w) A (.call (.ref f) args) (CR CX outer P w H s Q E) s
theorem DS.imp{P:Program}{w:World}{K:Fg}{mg:Str->Option Value}{base:Heap}{CX:CXT}{k:Nat}{f:Addr}{fd:FuncData}{ps:List Str}{sp sp':Sp}(F:DS P w K mg base CX k f fd ps sp)
  (h:∀vs H Q E,sp' vs H Q E->sp vs H Q E):DS P w K mg base CX k f fd ps sp' :=
 ⟨λvs H Q E q=>F.len vs H Q E (h _ _ _ _ q),λA outer s H args us vs Q E hr he hb hv hs=>F.run A outer s H args us vs Q E hr he hb hv (h _ _ _ _ hs)⟩
theorem UG.make{P:Program}{w:World}{K:Fg}{mg:Str->Option Value}{base:Heap}{A:Around}{outer:List Env}{s:Shared}{H:Hp}(e:UG P w K mg base A outer s H)(C:Addr)(us:List Value)(kw:List (Str×Value)) :
  UG P w K mg base (A.under (.builtin "type.__call__" ⟨.ref C::us,kw⟩)) outer s H:=⟨by first|exact e.frames|(simpa[Around.under,Code.envs,Code.isFrame,pushEnvs]using e.frames),e.mod,e.bs,e.zA,e.K0,e.zo,e.z9,e.bare⟩
section
variable{X:Cx}{pins:List (Addr×Obj)}{U:St}{H:Hp}{s s':Shared}
theorem Inv.Jat(I:Inv X pins U H s):UG X.prog X.w X.K X.mg X.base X.A X.stack s H :=
 ⟨I.ok.frames,I.ok.mod,I.bs,aR I.ok.zA I.sz,I.stack,I.Jz,I.z9,I.bare⟩
theorem Inv.after{Q:VK}{u:Value}(I:Inv X pins U H s)(h:CE X.stack X.prog X.w H s Q u s'):EP X pins U Q u s':=by obtain⟨v,H',os,bare,un,z9,r,q⟩:=h;obtain⟨hh,g,d,t,os'⟩:=s';obtain rfl:os'=s.os:=os;exact⟨v,H',I.call (h':=hh) (g':=g) (d':=d) (t':=t) (ch:=[]) un z9 bare (λb z=>absurd z (by simp)),r,q⟩
end
def Sb(C:Addr)(m:Str)(sp:Sp)(dvs:List V)(E:XK)(ta:TE)(t:TA):TE:=λU H Q=>ta U H λx H1=>∃a dx fs,x=.ref a/\H1 a=some (.ins C dx fs)/\fs.lookup m=none /\
 t U H1 λvs H2=>sp (x::(vs++dvs)) H2 Q E
def Vf(C:Addr)(sp:Sp)(dvs:List V)(E:XK)(t:TA):TE:=λU H Q=>t U H λvs H1=>∀x dx,H1 x=none->H1 dx=none->dx≠x ->
 sp (.ref x::(vs++dvs)) (upd (upd H1 dx (.own x)) x (.ins C dx [])) (λv H2=>v=.v/\Q (.ref x) H2) E
def Binds(K:Fg)(fd:FuncData)(ps:List Str)(ds:List Value):Prop :=
 ∀(s:Shared)(us:List Value),K.In s.heap->(us++ds).length=ps.length->BindsTo s fd ⟨us,[]⟩ (ps.zip (us++ds))
theorem Binds.all{K:Fg}{fd:FuncData}{ps:List Str}(h:∀us:List Value,us.length=ps.length->bindArgs fd ⟨us,[]⟩=pure (ps.zip us)):Binds K fd ps []:=λs us _ hl=>by rw[bj]at hl ⊢;exact .of_eq (h us hl)
def Passes(CX:CXT)(X:Cx)(E:XK):Prop:=∀(pins:List (Addr×Obj))(U:St)(H:Hp)(s:Shared)(e:Value)(s':Shared),Inv X pins U H s->CX X.stack H s E e s'->X.xe e s'
section
variable{X:Cx}{CX:CXT}{k:Nat}{f C:Addr}{fd:FuncData}{ps:List Str}{sp:Sp}{dvs:List V}{ds:List Value}{E:XK}{x m:Str}{p pos apos:Pos}{e o:Expr}{es:List Expr}{ta:TE}{t:TA}
theorem Vr{pins:List (Addr×Obj)}{U:St}{H:Hp}{s:Shared}{Q:VK}{us:List Value}{vs:List V}(F:DS X.prog X.w X.K X.mg X.base CX k f fd ps sp)(hr:DA k X.A)(hb:Binds X.K fd ps ds)(hd:Vals dvs ds)(hx:Passes CX X E)
  (I:Inv X pins U H s) (r:Vals vs us) (h:sp (vs++dvs) H Q E):wpAny (model X.prog X.w) X.A (call (.ref f) us) (EP X pins U Q) X.xe s:=by
 have r2:Vals (vs++dvs) (us++ds):=r.append hd;have hl:(us++ds).length=ps.length:=by rw[<- r2.length];exact F.len _ _ _ _ h
 refine wpAny_call (codeAny_mono (F.run X.A X.stack s H ⟨us,[]⟩ (us++ds) (vs++dvs) Q E hr I.Jat (hb s us I.kIn hl) r2 h) λr s' hq=>?_);cases r with|error e=>exact hx pins U H s e s' I hq|ok fl =>cases fl with|ret u=>exact I.after hq|next=>exact False.elim hq|brk=>exact False.elim hq|cont=>exact False.elim hq
theorem Pf{pl:Sem Bool}(he:PE X o ta)(c:Cls X.K C)(hm:Meth X.K C m f)(F:DS X.prog X.w X.K X.mg X.base CX k f fd ps sp)(hr:DA k X.A)(hb:Binds X.K fd ps ds)(hd:Vals dvs ds)(hx:Passes CX X E)
  (ht:eval (.Call (.Attribute o m apos) [] [] pos) X.env=(do
   let ov <- eval o X.env
   standAt apos.atName
   let(f,first) <- holding [ov] (getMethod ov m pl)
   callWith pos f first (backTo pos (starEach [] X.env)) (backToKw pos (keywordEach [] X.env))):=by rfl) :
  PE X (.Call (.Attribute o m apos) [] [] pos) (Sb C m sp dvs E ta X7):=by
 intro pins s U H Q I h;refine methodCall_KW (pl:=pl) (thn (he pins s U H _ I h) λu s1 hpt=>?_) ht;obtain⟨x,H1,I1,rx,a,dx,fs,ex,ea,l,q⟩:= hpt;subst ex;obtain rfl:u=Value.ref a:=rx;refine GV I1 ea c hm l ?_;exact PySem.W.callWith_K0 (first:=[.ref a]) I1.kIn hm.kp (Vr (us:=[.ref a]) (vs:=[.ref a]) F hr hb hd hx I1 (.cons rfl .nil) q)
structure Mk(K:Fg)(C f:Addr):Prop where
 makes:makesIn K C=true
 init:findIn K (.ref C) "__init__"=some (some (.ref f))
 fn:isFn K (.ref f)=true
 kp:keepIn K (.ref C)=true
theorem OU{pins:List (Addr×Obj)}{U:St}{H:Hp}{s:Shared}{Q:VK}{us:List Value}{vs:List V}(M:Mk X.K C f)(F:DS X.prog X.w X.K X.mg X.base CX k f fd ps sp)(hr:DA (k+1) X.A)(hb:Binds X.K fd ps ds)(hd:Vals dvs ds)
  (hx:Passes CX X E) (I:Inv X pins U H s) (r:Vals vs us)
  (h:∀x dx,H x=none->H dx=none->dx≠x->sp (.ref x::(vs++dvs)) (upd (upd H dx (.own x)) x (.ins C dx [])) (λv H2=>v=.v/\Q (.ref x) H2) E) :
  wpAny (model X.prog X.w) X.A (call (.ref C) us) (EP X pins U Q) X.xe s:=by
 have hq:=h (s.heap.objs.size+1) s.heap.objs.size (I.z9.fresh (Nat.le_succ _)) (I.z9.fresh (aJ _)) (aS (Nat.lt_succ_self _));have I2:=Inv.made (C:=C) I;have r2:Vals (V.ref (s.heap.objs.size+1)::(vs++dvs)) (Value.ref (s.heap.objs.size+1)::(us++ds)):=.cons rfl (r.append hd);have hl:(Value.ref (s.heap.objs.size+1)::us++ds).length=ps.length:=by have e:=r2.length;rw[F.len _ _ _ _ hq]at e;exact e.symm
 refine wpAny_call (Px (f:=f) I.kIn M.makes M.init (beq_iff_eq.mp M.fn) (codeAny_mono (F.run _ X.stack _ _ ⟨Value.ref (s.heap.objs.size+1)::us,[]⟩ (Value.ref (s.heap.objs.size+1)::(us++ds)) _ _ E (hr.make C us [])
  (I2.Jat.make C us []) (hb _ (Value.ref (s.heap.objs.size+1)::us) I2.kIn hl) r2 hq) λr s' hq'=>?_))
 cases r with|error e=>exact hx pins U _ _ e s' I2 hq'|ok fl =>cases fl with|ret u =>obtain⟨v,H',I3,rv,ev,q3⟩:=I2.after hq';subst ev;exact⟨rv,⟨V.ref (s.heap.objs.size+1),H',I3,rfl,q3⟩⟩|next=>exact False.elim hq'|brk=>exact False.elim hq'|cont=>exact False.elim hq'
theorem SI(M:Mk X.K C f)(F:DS X.prog X.w X.K X.mg X.base CX k f fd ps sp)(hr:DA (k+1) X.A)(hg:Gl X x)(hm:X.mg x=some (.ref C))(hb:Binds X.K fd ps ds)(hd:Vals dvs ds)(hx:Passes CX X E)
  (ha:PA X (e::es) t) (hdb:(x==("__debug__":Str))=false:=by decide) (he:starEach (e::es) X.env=(false,eval e X.env)::starEach es X.env:=by rfl) (hpl:(backTo pos (starEach es X.env)).any (·.1)=false:=by rfl) :
  PE X (.Call (.Name x p) (e::es) [] pos) (Vf C sp dvs E t):=by
 intro pins s U H Q I h;refine wpAny_Call_Name_kw (EB I hg hm ?_ hdb);refine callWith_K (h₀:=X.base) I.ok.mod.zb M.kp (thn (ha pos pins s U H _ I h) λus s1 ⟨vs,H1,I1,r,q⟩=>⟨I1.kIn,?_⟩) he hpl;exact OU M F hr hb hd hx I1 r q
end
section
variable{X:Cx}{CX:CXT}{k:Nat}{f C:Addr}{fd:FuncData}{ps ks:List Str}{sp:Sp}{E:XK}{x m:Str}{p pos apos kpos:Pos}{e o:Expr}{es:List Expr}{kws:List Keyword}{te ta:TE}{t tk:TA}{nm:Option Str}
variable{g:List Value->List Value->List Value}{gV:List V->List V->List V}
end
structure H0(N P:List Str)(sc:Scope):Prop where
 kind:sc.kind=.function
 co:sc.isCoroutine=false
 gen:sc.isGenerator=false
 nd:N.Nodup
 pre:N.take P.length=P
 par:∀x∈P,sc.names.lookup x=some .local\/sc.names.lookup x=some .cell
 yV:∀y∈sc.names,y.2≠.free
theorem Jj{kindOf:Str->Option NameKind}{x:Str}:∀{binds:List (Str×Value)}{m:Str->Option Value},(∀v,(x,v)∉binds)->bindL kindOf binds m x=m x
 | [],_,_=>rfl
 |(n,v)::r,m,h=>by
  unfold bindL;rw[Jj λw hw=>h w (ao _ hw)];split
  .have:x≠n:=by rintro rfl;exact h v aN
   simp[this]
  .rfl
theorem Jl{kindOf:Str->Option NameKind}{x:Str}:∀{binds:List (Str×Value)}{m:Str->Option Value},(∀v,(x,v)∉binds)->bindC kindOf binds m x=m x
 | [],_,_=>rfl
 |(n,v)::r,m,h=>by
  unfold bindC;rw[Jl λw hw=>h w (ao _ hw)];split
  .rfl
  .have:x≠n:=by rintro rfl;exact h v aN
   simp[this]
theorem Jk{kindOf:Str->Option NameKind}{x:Str}{v:Value}:∀{P:List Str}{vs:List Value}{i:Nat}{m:Str->Option Value},P.Nodup->P[i]?=some x->vs[i]?=some v->kindOf x=some .local ->
  bindL kindOf (P.zip vs) m x=some v
 | [],_,_,_,_,h,_,_=>by simp at h
 |_::_,[],_,_,_,_,h,_=>by simp at h
 |p::P,w::vs,0,m,nd,h1,h2,hk=>by simp at h1 h2;subst h1;subst h2;show bindL kindOf ((p,w)::P.zip vs) m p=_;unfold bindL;rw[Jj λv hv=>(bh.mp nd).1 (cq hv).1,if_pos hk];simp
 |p::P,w::vs,i+1,m,nd,h1,h2,hk=>by show bindL kindOf ((p,w)::P.zip vs) m x=_;unfold bindL;exact Jk (i:=i) (bh.mp nd).2 (by simpa using h1) (by simpa using h2) hk
theorem Jm{kindOf:Str->Option NameKind}{x:Str}{v:Value}:∀{P:List Str}{vs:List Value}{i:Nat}{m:Str->Option Value},P.Nodup->P[i]?=some x->vs[i]?=some v->kindOf x≠some .local ->
  bindC kindOf (P.zip vs) m x=some v
 | [],_,_,_,_,h,_,_=>by simp at h
 |_::_,[],_,_,_,_,h,_=>by simp at h
 |p::P,w::vs,0,m,nd,h1,h2,hk=>by simp at h1 h2;subst h1;subst h2;show bindC kindOf ((p,w)::P.zip vs) m p=_;unfold bindC;rw[Jl λv hv=>(bh.mp nd).1 (cq hv).1,if_neg hk];simp
 |p::P,w::vs,i+1,m,nd,h1,h2,hk=>by show bindC kindOf ((p,w)::P.zip vs) m x=_;unfold bindC;exact Jm (i:=i) (bh.mp nd).2 (by simpa using h1) (by simpa using h2) hk
noncomputable def start(N:List Str)(vs:List V):St:=vs.map some++List.replicate (N.length-vs.length) none
noncomputable def Mf(CX:CXT)(P:Program)(w:World)(K:Fg)(mg:Str->Option Value)(base:Heap)(N:List Str)(qual:Str)(scope:Scope)(f:Addr)(cd:Value)(A:Around)(outer:List Env)(s:Shared)(H:Hp)(E:XK):Cx where
 prog:=P
 w:=w
 K:=K
 mg:=mg
 base:=base
 A:=A.deeper (envOfC qual scope s.heap.objs.size f cd)
 N:=N
 zZ:=s
 zu:=H
 env:=envOfC qual scope s.heap.objs.size f cd
 outer:=outer
 stack:=envOfC qual scope s.heap.objs.size f cd::outer
 ex:=[]
 calm:=true
 fn:=λ_=>true
 pn:=[]
 xe:=λe s'=>wpAny (model P w) (A.deeper (envOfC qual scope s.heap.objs.size f cd)) (leaving (envOfC qual scope s.heap.objs.size f cd) e) (λ_ s''=>CX outer H s E e s'') (λe' s''=>CX outer H s E e' s'') s'
theorem Lf{sc:Scope}{n:Nat}{x:Str}(h:sc.names.lookup x=some .cell):∃c,(cellsFrom n sc.names []).lookup x=some c:=by have q:=PySem.W.cellsFrom_some sc.names n [] (.inl h);exact bM.mp q
theorem NC{CX:CXT}{P:Program}{w:World}{K:Fg}{mg:Str->Option Value}{base:Heap}{N ps:List Str}{qual:Str}{scope:Scope}{f:Addr}{cd:Value}{A:Around}{outer:List Env}{s s1:Shared}{H:Hp}{E:XK}{us:List Value}{vs:List V}
  (S:H0 N ps scope) (hd:A.handled=none) (e0:UG P w K mg base A outer s H) (hl:vs.length=ps.length) (r:Vals vs us)
  (x:InCallC s s.heap.objs.size (bindL (envOfC qual scope s.heap.objs.size f cd).kindOf (ps.zip us) λ_=>none) (cellsFrom (s.heap.objs.size+1) scope.names []) (bindC (envOfC qual scope s.heap.objs.size f cd).kindOf (ps.zip us) λ_=>none) s1) :
  Inv (Mf CX P w K mg base N qual scope f cd A outer s H E) [] (start N vs) H s1:=by
 have hpl:ps.length<=N.length:=by have:=congrArg List.length S.pre;rw[bt]at this;lia
 obtain⟨h1,tk,rfl,hk⟩:=x.done;have noA:∀b:Addr,b∉(Mf CX P w K mg base N qual scope f cd A outer s H E).ex:=λb z=>absurd (show b∈([]:List Addr)from z) (by simp)
 refine⟨⟨e0.mod,S.kind,rfl,rfl,aJ _,λy z c h1 h2=>?_,λy hy=>?_,λy c _ h=>?_,λ_=>hd,Around.frames_deeper e0.frames,.inr ⟨rfl,rfl⟩,λb z=>absurd z (noA b),e0.bs,e0.zA,λb _ _=>noA b,λb z=>absurd z (noA b),e0.K0,e0.zo⟩,
  rfl,e0.bare,Un.kept hk,⟨_,x.toInCall.ns,λi y v h1 h2 h3=>?_⟩,λy c h=>⟨_,x.cell y c h⟩,e0.z9.fresh (aJ _),λy c h=>?_,λp hp=>absurd (show p∈([]:List (Addr×Obj))from hp) (by simp),e0.z9.kept hk,?_⟩
 .exact name_of_addr x.apart (PySem.mem_of_lookup h1) (PySem.mem_of_lookup h2)
 .have hy:scope.names.lookup y=some .cell\/scope.names.lookup y=some .free:=hy;rcases hy with hy|hy
  .exact Lf hy
  .exact absurd rfl (S.yV _ (PySem.mem_of_lookup hy))
 .exact cH (x.above y c (PySem.mem_of_lookup h))
 .have hi:i<vs.length:=by
   unfold start at h2;by_cases hi:i<vs.length
   .exact hi
   .rw[bJ (by simpa using hi)]at h2;rw[List.getElem?_replicate]at h2;split at h2<;>cases h2
  have ha:vs[i]?=some v:=by unfold start at h2;rw[b4 (by simpa using hi),aP]at h2;cases e:vs[i]? with|none=>rw[e]at h2;cases h2|some a=>rw[e]at h2;cases h2;rfl
  obtain⟨u,hu,rv⟩:=r.get ha;have hp:ps[i]?=some y:=by rw[<- S.pre,cN (by lia)];exact h1
  have ndP:ps.Nodup:=by rw[<- S.pre];exact S.nd.sublist (cy _ _)
  refine⟨u,rv,?_⟩;rcases S.par y (bq hp)with k|k
  .exact .inl ⟨k,Jk ndP hp hu k⟩
  .obtain⟨c,e⟩:=Lf (n:=s.heap.objs.size+1) k;refine .inr ⟨.inl k,c,e,?_⟩;have q:=x.cell y c e;rw[Jm ndP hp hu (by show scope.names.lookup y≠_;rw[k];decide)]at q;exact q
 .exact e0.z9.fresh (cH (x.above y c (PySem.mem_of_lookup h)))
 .unfold start;show _=N.length;rw[bg,ar,List.length_replicate]
  lia
section
variable{X:Cx}{x:Str}{p pos:Pos}{e:Expr}{es:List Expr}{t:TA}{id T:String}{r:List V->Hp->VK->Prop}
def tCB(r:List V->Hp->VK->Prop)(t:TA):TE:=λU H Q=>t U H λvs H1=>r vs H1 Q
theorem E7(hc:Co X (.builtin id) r)(hg:Gl X x)(hm:X.mg x=none)(hv:bootBuiltins x=some (.builtin id))(ha:PA X (e::es) t)(hn:x≠"__name__":=by decide)(hdb:(x==("__debug__":Str))=false:=by decide)
  (he:starEach (e::es) X.env=(false,eval e X.env)::starEach es X.env:=by rfl) (hpl:(backTo pos (starEach es X.env)).any (·.1)=false:=by rfl):PE X (.Call (.Name x p) (e::es) [] pos) (tCB r t):=by
 intro pins s U H Q I h;refine wpAny_Call_Name_kw (ER I hg hm hv ?_ hn hdb);exact PyProof.Rows.callWith_builtin1 (thn (ha pos pins s U H _ I h) λus s1 ⟨vs,H1,I1,r1,q1⟩=>hc pins s1 U H1 vs us Q I1 r1 q1) he hpl
theorem M5(hc:Co X (.type T) r)(hg:Gl X x)(hm:X.mg x=none)(hv:bootBuiltins x=some (.type T))(ha:PA X (e::es) t)(hn:x≠"__name__":=by decide)(hdb:(x==("__debug__":Str))=false:=by decide)
  (he:starEach (e::es) X.env=(false,eval e X.env)::starEach es X.env:=by rfl) (hpl:(backTo pos (starEach es X.env)).any (·.1)=false:=by rfl):PE X (.Call (.Name x p) (e::es) [] pos) (tCB r t):=by
 intro pins s U H Q I h;refine wpAny_Call_Name_kw (ER I hg hm hv ?_ hn hdb);exact callWith_type1 (thn (ha pos pins s U H _ I h) λus s1 ⟨vs,H1,I1,r1,q1⟩=>hc pins s1 U H1 vs us Q I1 r1 q1) he hpl
end
end L2
namespace HT
open PySem PyProof.Rows
section
open PySem.SeqAt
open PySem.AutoSeq1 (wpAny_loadPart')
open PySem.MeetsSeq PySem.MeetsSeq2 PySem.MeetsSeq3
end
section
variable{prog:Program}{w:World}{A:Around}{E:Value->Shared->Prop}{s:Shared}
theorem Ux{t b:Addr}{vs ws:List Value}{Q:Value->Shared->Prop}(ht:IsTup s.heap t vs.toArray)(hb:IsTup s.heap b ws.toArray)(hv:vs≠[])
  (h1:ws=[]->Q (.ref t) s) (h2:ws≠[]->Q (.ref s.heap.objs.size) {s with heap:=s.heap.push {cls:=.type "tuple",data:=.seq (vs++ws).toArray} })
  (hsz:vs.length+ws.length<=sizeLine):wpAny (model prog w) A (binaryOp .Add (.ref t) (.ref b)) Q E s:=by
 obtain⟨⟨cls,dd,data,sl⟩,ho,hc,n,hd⟩:=id ht;obtain⟨⟨cls2,dd2,data2,sl2⟩,ho2,hc2,n2,hd2⟩:=id hb;simp only at hc hd hc2 hd2;subst hc hd hc2 hd2;have e:vs.toArray++ws.toArray=(vs++ws).toArray:=by simp
 by_cases hw:ws=[]
 .exact concat_meets ⟨_,ho,rfl⟩ ⟨_,ho2,rfl⟩ noFill_tuple_add seq_tuple_add slot_tuple_add entry_tuple_add (args_tuple_add_2 _ _)
   (tuple_addW1 t b vs.toArray ws.toArray n n2 dd dd2 sl sl2 (by simpa using hv) (by simp[hw])) ⟨ho,ho2,h1 hw⟩
 .refine concat_meets ⟨_,ho,rfl⟩ ⟨_,ho2,rfl⟩ noFill_tuple_add seq_tuple_add slot_tuple_add entry_tuple_add (args_tuple_add_2 _ _)
   (tuple_addW2 t b vs.toArray ws.toArray n n2 dd dd2 sl sl2 (by simpa using hv) (by simpa using hw) (by rw[ax,ax];exact hsz)) ⟨ho,ho2,?_⟩
  rw[e];exact h2 hw
noncomputable def sIx(n d:Nat):Option Int->Nat
 |none=>d
 |some v=>if v<0 then(v+(n:Int)).toNat else min v.toNat n
theorem MJ(n d k:Nat):sIx n d (some (k:Int))=min k n:=by show(if(k:Int)<0 then((k:Int)+(n:Int)).toNat else min (k:Int).toNat n)=min k n;rw[if_neg (by lia),bD]
theorem Vp(n d:Nat)(hd:d<=n)(o:Option Int):sIx n d o<=n:=by
 cases o with
 |none=>exact hd
 |some v =>
  show(if v<0 then(v+(n:Int)).toNat else min v.toNat n)<=n;by_cases hv:v<0
  .rw[if_pos hv];lia
  .rw[if_neg hv];exact Nat.min_le_right _ _
theorem Om(v:Int)(n d:Nat):(if v<0 then max (v+(n:Int)) 0 else min v (n:Int))=((sIx n d (some v):Nat):Int):=by
 show(if v<0 then max (v+(n:Int)) 0 else min v (n:Int))=(((if v<0 then(v+(n:Int)).toNat else min v.toNat n):Nat):Int);by_cases hv:v<0
 .simp only[if_pos hv];lia
 .simp only[if_neg hv];lia
theorem Ml(lo hi:Option Int)(n:Nat):Builtin.Slice.sliceAdjust lo hi 1 (n:Int)=(((sIx n 0 lo:Nat):Int),((sIx n n hi:Nat):Int)):=by
 have h1:¬((1:Int)<0):=by lia
 unfold Builtin.Slice.sliceAdjust;simp only[h1,if_false];refine Prod.ext ?_ ?_
 .cases lo with|none=>rfl|some v=>exact Om v n 0
 .cases hi with|none=>rfl|some v=>exact Om v n n
theorem LK(i j:Nat):Builtin.Slice.slicePlaces (i:Int) (j:Int) 1=j-i:=by
 unfold Builtin.Slice.slicePlaces;have h1:(1:Int)>0:=by lia
 simp only[h1,if_true,Int.ediv_one];split<;>lia
theorem GH{v:Value}{o:Option Int}{Q:Option Int->Shared->Prop}(p:IsPart v o)(h:Q o s):wpAny (model prog w) A (Builtin.Slice.slicePartIndex v) Q E s:=by cases p with|none=>exact slicePart_none h|int i t=>exact slicePart_int h
theorem Di{sl:Addr}{vl vu:Value}{lo hi:Option Int}{n:Nat}{Q:Int×Int×Nat->Shared->Prop}(hs:s.heap.IsSliceOf sl vl vu .none)(pl:IsPart vl lo)(pu:IsPart vu hi)
  (h:Q (((sIx n 0 lo:Nat):Int),1,sIx n n hi-sIx n 0 lo) s):wpAny (model prog w) A (Builtin.Slice.sliceApplied (.ref sl) (pure (n:Int))) Q E s:=by
 obtain⟨os,hos,hcs,hds⟩:=id hs;unfold Builtin.Slice.sliceApplied Builtin.Slice.sliceFields;refine aa (aa (aY hos hds (x:=vl) rfl (aa (aY hos hds (x:=vu) rfl (aa (aY hos hds (x:=.none) rfl (au ?_)))))));refine aa (slicePart_none ?_);show wpAny _ _ (if((1:Int)==0)=true then _ else _) _ _ s;rw[if_neg (by decide)];refine aa (GH pl (aa (GH pu (aa (au ?_)))));show wpAny _ _ (match Builtin.Slice.sliceAdjust lo hi 1 (n:Int)with|(lo,hi)=>pure (lo,(1:Int),Builtin.Slice.slicePlaces lo hi 1)) _ _ s;rw[Ml lo hi n];show wpAny _ _ (pure (((sIx n 0 lo:Nat):Int),(1:Int),Builtin.Slice.slicePlaces ((sIx n 0 lo:Nat):Int) ((sIx n n hi:Nat):Int) 1)) _ _ s;rw[LK];exact au h
theorem Pb(xs:Array Value)(i k:Nat):((List.range k).filterMap λ(m:Nat)=>xs[((i:Int)+(m:Int)*1).toNat]?).toArray=((xs.toList.drop i).take k).toArray:=by
 have e:(λ(m:Nat)=>xs[((i:Int)+(m:Int)*1).toNat]?)=λm=>xs[i+m]?:=by
  funext m;have:((i:Int)+(m:Int)*1).toNat=i+m:=by lia
  rw[this]
 rw[e];have:=pick_run xs i k;rw[List.filterMap_map]at this;have e2:((λx=>xs[x]?)∘λx=>i+x)=λm=>xs[i+m]?:=rfl
 rw[e2]at this;rw[this]
theorem EE{t sl:Addr}{items:Array Value}{vl vu:Value}{lo hi:Option Int}{Q:Value->Shared->Prop}(ht:IsTup s.heap t items)(hs:s.heap.IsSliceOf sl vl vu .none)(pl:IsPart vl lo)(pu:IsPart vu hi)
  (hw:¬(sIx items.size 0 lo=0/\sIx items.size items.size hi=items.size))
  (h:Q (.ref s.heap.objs.size) {s with heap:=s.heap.push {cls:=.type "tuple",data:=.seq ((items.toList.drop (sIx items.size 0 lo)).take (sIx items.size items.size hi-sIx items.size 0 lo)).toArray} })
  (hsz:items.size<=sizeLine):wpAny (model prog w) A (getItem (.ref t) (.ref sl)) Q E s:=by
 have htake:sizeOk (.seq ((items.toList.drop (sIx items.size 0 lo)).take (sIx items.size items.size hi-sIx items.size 0 lo)).toArray):=by
  show((items.toList.drop (sIx items.size 0 lo)).take (sIx items.size items.size hi-sIx items.size 0 lo)).toArray.size<=sizeLine;rw[ax,bt,bQ,bP]
  lia
 have hj:sIx items.size items.size hi<=items.size:=Vp _ _ (aJ _) hi;obtain⟨os,hos,hcs,hds⟩:=id hs;have hTs:s.TypeIs (.ref sl) "slice":=⟨os,hos,hcs⟩
 unfold getItem
 try with_reducible refine wpAny_holding ?_
 first|refine aa (au ?_)|skip
 refine aa (wpAny_sequenceKey ht.typeIs (by decide) ?_);refine aa (wpAny_callSpecial?_slot (name:=Str.ofString "__getitem__") ht.typeIs slot_tuple_getitem
  (wpAny_call_entry slot_tuple_getitem ht.typeIs entry_tuple_getitem ?_ (args_tuple_getitem _ _)))
 show wpAny _ _ (Builtin.Tuple.tupleItemsOf (.ref t) >>= _) _ _ s;refine aa (tupleItemsOf_ ht ?_);refine aa (wpAny_typeOf hTs ?_);rw[if_pos (by decide)];refine aa (Di hs pl pu ?_);have hno:¬((((sIx items.size 0 lo:Nat):Int)==0&&(1:Int)==1&&(sIx items.size items.size hi-sIx items.size 0 lo)==items.size)=true):=by intro q;rw[aL,aL]at q;have q1:((sIx items.size 0 lo:Nat):Int)=0:=eq_of_beq q.1.1;have q2:sIx items.size items.size hi-sIx items.size 0 lo=items.size:=eq_of_beq q.2;exact hw ⟨by lia,by lia⟩
 show wpAny _ _ (if(((sIx items.size 0 lo:Nat):Int)==0&&(1:Int)==1&&(sIx items.size items.size hi-sIx items.size 0 lo)==items.size)=true then _ else _) _ _ s;rw[if_neg hno,Pb]
 first
  |exact aa (m:=Builtin.Tuple.tupleExact _) (wpAny_newObj_type (au ⟨_,rfl,au h⟩) htake)
  |exact aa (m:=Builtin.Tuple.tupleExact _) (wpAny_newObj_type (aa (au (au ⟨_,rfl,au h⟩))) htake)
  |exact aa (aa (m:=Builtin.Tuple.tupleExact _) (wpAny_newObj_type (au (au ⟨_,rfl,au h⟩)) htake))
  |exact aa (aa (m:=Builtin.Tuple.tupleExact _) (wpAny_newObj_type (au ⟨_,rfl,au h⟩) htake))
end
end HT
namespace L2
open PySem PySem.Spec PyProof.Rows
abbrev TO:=St->Hp->(Option Int->Hp->Prop)->Prop
def PO(X:Cx)(e:Option Expr)(t:TO):Prop :=
 ∀(pins:List (Addr×Obj))(s:Shared)(U:St)(H:Hp)(Q:Option Int->Hp->Prop),Inv X pins U H s->t U H Q ->
  wpAny (model X.prog X.w) X.A (evalPart e X.env) (λu s'=>∃o H',Inv X pins U H' s'/\IsPart u o/\Q o H') X.xe s
def Sa:TO:=λ_ H Q=>Q none H
def Zh(t:TE):TO:=λU H Q=>t U H λx H1=>∃i,x=.int i/\Q (some i) H1
theorem intsAre_of{ns:List Int}:∀{us:List Value},Vals (ns.map V.int) us->IntsAre us ns:=by induction ns with|nil=>intro us r;rw[cn]at r;cases r;exact .nil|cons n ns ih =>intro us r;rw[aj]at r;cases r with|cons r1 r2 =>obtain⟨t,e⟩:=r1;subst e;exact .cons n t (ih r2)
section
variable{X:Cx}{e:Expr}{te:TE}{lo hi:Option Expr}{tl th:TO}{pos p2:Pos}
theorem Sz:PO X none Sa:=by intro pins s U H Q I h;rw[evalPart_none];exact au ⟨none,H,I,.none,h⟩
theorem Sx(h:PE X e te):PO X (some e) (Zh te):=by
 intro pins s U H Q I hw;rw[evalPart_some];refine thn (h pins s U H _ I hw) λu s1 hpt=>?_
 obtain⟨x,H1,I1,r1,q1⟩:= hpt;obtain⟨i,rfl,q⟩:=q1;obtain⟨t,rfl⟩:=r1;exact⟨some i,H1,I1,.int i t,q⟩
def SlR(X:Cx)(r:V->Option Int->Option Int->Hp->VK->Prop):Prop :=
 ∀(pins:List (Addr×Obj))(s:Shared)(U:St)(H:Hp)(x:V)(v vl vu:Value)(lo hi:Option Int)(sl:Addr)(Q:VK),Inv X pins U H s->RelV x v->s.heap.IsSliceOf sl vl vu .none->IsPart vl lo->IsPart vu hi->r x lo hi H Q ->
  ∃T id,typeLookup (.type T) "__getitem__"=pure (some (.builtin id))/\s.TypeIs v T/\wpAny (model X.prog X.w) X.A (getItem v (.ref sl)) (EP X pins U Q) X.xe s
theorem SlR.or{r r':V->Option Int->Option Int->Hp->VK->Prop}(h:SlR X r)(h':SlR X r'):SlR X (λx lo hi H Q=>r x lo hi H Q\/r' x lo hi H Q):=by
 intro pins s U H x v vl vu lo hi sl Q I rx hs pl pu q;rcases q with q|q
 .exact h pins s U H x v vl vu lo hi sl Q I rx hs pl pu q
 .exact h' pins s U H x v vl vu lo hi sl Q I rx hs pl pu q
def tSl(r:V->Option Int->Option Int->Hp->VK->Prop)(te:TE)(tl th:TO):TE:=λU H Q=>te U H λx H1=>tl U H1 λl H2=>th U H2 λu H3=>r x l u H3 Q
theorem KG{r:V->Option Int->Option Int->Hp->VK->Prop}(hr:SlR X r)(he:PE X e te)(hl:PO X lo tl)(hu:PO X hi th):PE X (.Subscript e (.Slice lo hi none p2) pos) (tSl r te tl th):=by
 intro pins s U H Q I h;refine Subscript_ (thn (he pins s U H _ I h) λv s1 hpt=>?_);obtain⟨x,H1,I1,r1,q1⟩:= hpt;refine wpAny_Slice (thn (hl pins s1 U H1 _ I1 q1) λvl s2 ⟨l,H2,I2,pl,q2⟩=>thn (hu pins s2 U H2 _ I2 q2) λvu s3 hpt=>?_);obtain⟨u,H3,I3,pu,q3⟩:= hpt;rw[evalPart_none];refine au ?_;have I4:Inv X pins U H3 {s3 with heap:=s3.heap.push {cls:=.type "slice",data:=.fields #[vl,vu,.none]} }:=I3.kept (t':=s3.toks) λb ob q=>af _ q
 obtain⟨T,id,hT,ht,hg⟩:=hr pins {s3 with heap:=s3.heap.push {cls:=.type "slice",data:=.fields #[vl,vu,.none]} } U H3 x v vl vu l u s3.heap.objs.size Q I4 r1 (Heap.IsSliceOf.new ..) pl pu q3;show wpAny (model X.prog X.w) X.A (subscriptTail e (.Slice lo hi none p2) v (.ref s3.heap.objs.size)) (EP X pins U Q) X.xe {s3 with heap:=s3.heap.push {cls:=.type "slice",data:=.fields #[vl,vu,.none]} };exact tail_any (ops:=[.ref s3.heap.objs.size,v]) ht hT hg (by with_unfolding_all rfl)
noncomputable def RG(xs:List V)(lo hi:Option Int):List V:=(xs.drop (HT.sIx xs.length 0 lo)).take (HT.sIx xs.length xs.length hi-HT.sIx xs.length 0 lo)
theorem F7(xs:List V)(lo hi:Option Int):(RG xs lo hi).length<=xs.length:=by
 unfold RG;rw[bt,bQ]
 lia
def Jbv(K:Fg):V->Option Int->Option Int->Hp->VK->Prop:=λx lo hi H Q=>∃a xs,x=.ref a/\SqT K H a xs /\
 ¬(HT.sIx xs.length 0 lo=0/\HT.sIx xs.length xs.length hi=xs.length)/\∀p,H p=none->Q (.ref p) (upd H p (.tup (RG xs lo hi)))
theorem Vk:SlR X (Jbv X.K):=by
 intro pins s U H x v vl vu lo hi sl Q I rx hs pl pu h;obtain⟨a,xs,rfl,hx,hw,q⟩:=h;cases rx;obtain⟨its,r,ht,hz⟩:=I.tuple hx;have hlen:its.toArray.size=xs.length:=by rw[ax];exact r.length.symm
 refine⟨"tuple",_,PyProof.Rows.slot_tuple_getitem.lookup,ht.typeIs,?_⟩;refine HT.EE ht hs pl pu (by rw[hlen];exact hw) ?_ (by rw[hlen];exact hz);rw[hlen];refine⟨.ref s.heap.objs.size,_,I.laid (t':=s.toks) (o:=.tup (RG xs lo hi)) (λb ob q=>af _ q) (aJ _) ?_,rfl,q _ (I.z9.fresh (aJ _))⟩;exact⟨aR (F7 xs lo hi) hz,_,(r.drop (HT.sIx xs.length 0 lo)).take (HT.sIx xs.length xs.length hi-HT.sIx xs.length 0 lo),IsTup.new _ _⟩
def Vw(K:Fg):R2:=λx y H Q=>∃a b xs ys,x=.ref a/\y=.ref b/\SqT K H a xs/\SqT K H b ys/\xs≠[]/\xs.length+ys.length<=sizeLine /\
 (ys=[]->Q (.ref a) H)/\(ys≠[]->∀p,H p=none->Q (.ref p) (upd H p (.tup (xs++ys))))
theorem Vals.JO{xs:List V}{us:List Value}(r:Vals xs us):us=[]↔xs=[]:=by cases r with|nil=>simp|cons _ _=>simp
theorem SX:OpR X (binaryOp .Add) (Vw X.K):=by intro pins s U H x y v u Q I rx ry h;obtain⟨a,b,xs,ys,rfl,rfl,ha,hb,hx,hz,q1,q2⟩:=h;cases rx;cases ry;obtain⟨its,r1,p1,_⟩:=I.tuple ha;obtain⟨its2,r2,p2,_⟩:=I.tuple hb;refine HT.Ux p1 p2 (λz=>hx (r1.JO.mp z)) (λz=>⟨.ref a,H,I,rfl,q1 (r2.JO.mp z)⟩) (λz=>?_) (by rw[<- r1.length,<- r2.length];exact hz);refine⟨.ref s.heap.objs.size,_,I.laid (t':=s.toks) (o:=.tup (xs++ys)) (λb ob q=>af _ q) (aJ _) ?_,rfl,q2 (λw=>z (r2.JO.mpr w)) _ (I.z9.fresh (aJ _))⟩;exact⟨by rw[bg];exact hz,_,r1.append r2,IsTup.new _ _⟩
end
noncomputable def ixN(n:Nat)(i:Int):Option Nat:=if 0<=i then(if i<n then some i.toNat else none)else if -(n:Int)<=i then some (i+n).toNat else none
noncomputable def atI{α:Type}(xs:List α)(i:Int):Option α:=(ixN xs.length i).bind λj=>xs[j]?
theorem NA{n:Nat}{i:Int}{j:Nat}(h:ixN n i=some j):seqIndex? i n=some j/\j<n/\-(n:Int)<=i/\i<n:=by
 unfold ixN at h;by_cases h0:0<=i
 .rw[if_pos h0]at h;by_cases h1:i<n
  .rw[if_pos h1]at h;have e:i.toNat=j:=Option.some.inj h;exact⟨by rw[seqIndex_of h0 h1,e],by lia,by lia,h1⟩
  .rw[if_neg h1]at h;cases h
 .rw[if_neg h0]at h;by_cases h1:-(n:Int)<=i
  .rw[if_pos h1]at h;have e:(i+n).toNat=j:=Option.some.inj h;exact⟨by rw[seqIndex_neg (by lia) h1,e],by lia,h1,by lia⟩
  .rw[if_neg h1]at h;cases h
theorem Kl{α:Type}{xs:List α}{i:Int}{v:α}(h:atI xs i=some v):∃j,seqIndex? i xs.length=some j/\xs[j]?=some v/\j<xs.length/\-(xs.length:Int)<=i/\i<xs.length:=by unfold atI at h;cases e:ixN xs.length i with|none=>rw[e]at h;cases h|some j =>rw[e]at h;obtain⟨h1,h2,h3,h4⟩:=NA e;exact⟨j,h1,h,h2,h3,h4⟩
theorem BG{α:Type}{xs:List α}{j:Nat}{v:α}(h:xs[j]?=some v):atI xs (j:Int)=some v:=by
 have hj:j<xs.length:=(ak.mp h).1;have e:ixN xs.length (j:Int)=some j:=by unfold ixN;rw[if_pos (by lia),if_pos (by lia)];simp
 unfold atI;rw[e];exact h
def Ko(b:Expr):Prop:=∀o i,subscripted b false o i=operate [o,i] (getItem o i)
def IxR(X:Cx)(r:R2):Prop :=
 ∀(value slice:Expr)(pins:List (Addr×Obj))(s:Shared)(U:St)(H:Hp)(x y:V)(v u:Value)(Q:VK),Inv X pins U H s->RelV x v->RelV y u->r x y H Q ->
  subscripted slice false v u=operate [v,u] (getItem v u)->wpAny (model X.prog X.w) X.A (subscriptTail value slice v u) (EP X pins U Q) X.xe s
def MtR(X:Cx)(id:String)(r:V->List V->Hp->VK->Prop):Prop :=
 ∀(pins:List (Addr×Obj))(s:Shared)(U:St)(H:Hp)(x:V)(xs:List V)(v:Value)(us:List Value)(Q:VK),Inv X pins U H s->RelV x v->Vals xs us->r x xs H Q ->
  wpAny (model X.prog X.w) X.A (call (.builtin id) (v::us)) (EP X pins U Q) X.xe s
section
variable{X:Cx}{a b:Expr}{ta tb:TE}{pos:Pos}
theorem IxR.or{r r':R2}(h:IxR X r)(h':IxR X r'):IxR X (λx y H Q=>r x y H Q\/r' x y H Q):=by
 intro value slice pins s U H x y v u Q I rx ry q hs;rcases q with q|q
 .exact h value slice pins s U H x y v u Q I rx ry q hs
 .exact h' value slice pins s U H x y v u Q I rx ry q hs
theorem ZI{r:R2}(hr:IxR X r)(ha:PE X a ta)(hb:PE X b tb)(hs:Ko b):PE X (.Subscript a b pos) (tOp r ta tb):=by intro pins s U H Q I h;exact Subscript_ (Jaw ha hb I h λv u s2 x y H2 I2 rx ry q=>hr a b pins s2 U H2 x y v u Q I2 rx ry q (hs _ _))
def JaJ(K:Fg):R2:=λx y H Q=>∃p xs i v,x=.ref p/\y=.int i/\SqL K H p xs/\atI xs i=some v/\Q v H
def JaH(K:Fg):R2:=λx y H Q=>∃p xs i v,x=.ref p/\y=.int i/\SqT K H p xs/\atI xs i=some v/\Q v H
def JaI:R2:=λx y H Q=>∃z i c,x=.str z/\y=.int i/\z.length<=sizeLine/\atI z.cps.toList i=some c/\Q (.str ⟨#[c]⟩) H
theorem Tu:IxR X (JaJ X.K):=by
 intro value slice pins s U H x y v u Q I rx ry h hs;obtain⟨p,xs,i,z,rfl,rfl,hq,he,q⟩:=h;cases rx;obtain⟨t,rfl⟩:=ry;obtain⟨its,r,pl,hz⟩:=I.list hq;obtain⟨j,h1,h2,h3,h4,h5⟩:=Kl he;obtain⟨w,ew,rw'⟩:=r.get h2;have hl:=r.length;have hn:=FN;have fin:EP X pins U Q w s:=⟨z,H,I,rw',q⟩
 by_cases h0:0<=i
 .have hj:i.toNat=j:=by rw[seqIndex_of h0 h5]at h1;exact Option.some.inj h1
  exact item_listR pl.isList h0 (by lia) (by rw[hj];simpa using ew) fin hs
 .have hj:(i+(its.toArray.size:Int)).toNat=j:=by rw[seqIndex_neg (by lia) h4]at h1;rw[ax,<- hl];exact Option.some.inj h1
  exact subscriptTail_builtinR (x:=w) pl.isList.typeIs slot_list_getitem.lookup
   (wpAny_getItem_list_neg (Q:=λr s'=>r=w/\EP X pins U Q r s') pl.isList (by lia) (by rw[ax]<;>lia) (by lia) (by rw[hj];simpa using ew) ⟨rfl,fin⟩) hs
theorem WD:IxR X (JaH X.K):=by
 intro value slice pins s U H x y v u Q I rx ry h hs;obtain⟨p,xs,i,z,rfl,rfl,hq,he,q⟩:=h;cases rx;obtain⟨t,rfl⟩:=ry;obtain⟨its,r,pl,hz⟩:=I.tuple hq;obtain⟨j,h1,h2,h3,h4,h5⟩:=Kl he;obtain⟨w,ew,rw'⟩:=r.get h2;have hl:=r.length;have hn:=FN;have fin:EP X pins U Q w s:=⟨z,H,I,rw',q⟩
 exact subscriptTail_builtinR (x:=w) pl.typeIs slot_tuple_getitem.lookup
  (getItem_tuple (j:=j) (Q:=λr s'=>r=w/\EP X pins U Q r s') pl (by lia) (by lia) (by rw[ax,<- hl];exact h1) (by simpa using ew) ⟨rfl,fin⟩) hs
theorem WE:IxR X JaI:=by
 intro value slice pins s U H x y v u Q I rx ry h hs;obtain⟨z,i,c,rfl,rfl,hz,he,q⟩:=h;obtain⟨t,rfl⟩:=rx;obtain⟨t',rfl⟩:=ry;obtain⟨j,h1,h2,h3,h4,h5⟩:=Kl he;have hl:z.cps.toList.length=z.length:=by simp[Str.length]
 rw[hl]at h1 h4 h5;have hn:=FN;exact tail_any (typeIs_str s z t) slot_str_getitem.lookup (getItem_str (c:=c) (by have e1:decide (i < -(2^63:Int))=false:=aT (by lia);have e2:decide (i>=2^63)=false:=aT (by lia);rw[e1,e2,Bool.or_false]) (by rw[h1];simpa using h2) ⟨.str ⟨#[c]⟩,H,I.tok _,⟨_,rfl⟩,q⟩) hs
def rIx(K:Fg):R2:=λx y H Q=>JaJ K x y H Q\/JaH K x y H Q\/JaI x y H Q
theorem WG:IxR X (rIx X.K):=Tu.or (WD.or WE)
theorem LU(its:List Value)(n j:Nat)(u:Value):Obj.mapSeq (·.setIfInBounds j u) {cls:=.type "list",data:=.seq its.toArray n}={cls:=.type "list",data:=.seq (its.set j u).toArray n}:=by simp[Obj.mapSeq]
theorem Inv.lst{pins:List (Addr×Obj)}{U:St}{H:Hp}{s:Shared}{p:Addr}{xs:List V}(I:Inv X pins U H s)(h:H p=some (.lst xs)) :
  ∃(its:List Value)(n:Nat),Vals xs its/\s.heap.get? p=some {cls:=.type "list",data:=.seq its.toArray n}/\xs.length<=sizeLine:=by
 obtain⟨z,its,n,r,e⟩:=I.z9 p _ h;exact⟨its,n,r,e,z⟩
theorem Inv.Wu{pins:List (Addr×Obj)}{U:St}{H:Hp}{s:Shared}{p:Addr}{xs ys:List V}{its its':List Value}{n n':Nat}{f:Obj->Obj}(I:Inv X pins U H s)(h:H p=some (.lst xs))
  (ho:s.heap.get? p=some {cls:=.type "list",data:=.seq its.toArray n}) (hf:f {cls:=.type "list",data:=.seq its.toArray n}={cls:=.type "list",data:=.seq its'.toArray n' }) (r:Vals ys its') (hz:ys.length<=sizeLine) (t:Nat) :
  Inv X pins U (upd H p (.lst ys)) {s with heap:=s.heap.update p f,toks:=t}:=by
 have e:(s.heap.update p f).get? p=some {cls:=.type "list",data:=.seq its'.toArray n' }:=by rw[cB f ho (by rw[hf]<;>rfl),hf]
 refine I.write (x:=p) (e:=p) (by rw[h];trivial) (.inl rfl) (λb u hb q=>(bI _ _ (Ne.symm hb)).trans q) ⟨_,e⟩ ?_;exact⟨hz,its',n',r,e⟩
def O0:V->V->V->Hp->(Hp->Prop)->Prop:=λo i v H Q=>∃p xs k j,o=.ref p/\i=.int k/\H p=some (.lst xs)/\ixN xs.length k=some j/\Q (upd H p (.lst (xs.set j v)))
theorem set_list:QN X O0:=by
 intro pins s U H o i v ov iv u Q I ro ri rv h;obtain⟨p,xs,k,j,rfl,rfl,hp,hj,q⟩:=h;cases ro;obtain⟨t,rfl⟩:=ri;obtain⟨its,n,r,ho,hz⟩:=I.lst hp;obtain⟨h1,h2,h3,h4⟩:=NA hj;have hl:=r.length;have hn:=FN;have I':Inv X pins U (upd H p (.lst (xs.set j v))) {s with heap:=s.heap.update p (Obj.mapSeq (·.setIfInBounds j u))} :=
  I.Wu hp ho (LU its n j u) (r.set rv j) (by rw[List.length_set];exact hz) s.toks
 by_cases h0:0<=k
 .have hk:k.toNat=j:=by rw[seqIndex_of h0 h4]at h1;exact Option.some.inj h1
  exact PySem.W.ki_setAt ho h0 (by lia) (by rw[ax,<- hl];exact h4) (by rw[hk];exact⟨_,I',q⟩)
 .have hk:(k+(its.toArray.size:Int)).toNat=j:=by rw[seqIndex_neg (by lia) h3]at h1;rw[ax,<- hl];exact Option.some.inj h1
  exact PySem.W.ki_setBack ho (by lia) (by rw[ax,<- hl];exact h3) (by lia) (by rw[hk];exact⟨_,I',q⟩)
theorem Ii(lo hi:Option Int)(n:Nat):(sliceBounds lo hi none n).1=((HT.sIx n 0 lo:Nat):Int)/\(sliceBounds lo hi none n).2.1=((HT.sIx n n hi:Nat):Int)/\(sliceBounds lo hi none n).2.2=1:=by
 refine⟨?_,?_,rfl⟩
 .cases lo with
  |none=>simp[sliceBounds,HT.sIx]
  |some i =>
   simp only[sliceBounds,HT.sIx,Option.getD_none,show(1:Int)>0 by decide,if_true];by_cases h:i<0
   .simp only[h,if_true]<;>lia
   .simp only[h,if_false]<;>lia
 .cases hi with
  |none=>simp[sliceBounds,HT.sIx]
  |some i =>
   simp only[sliceBounds,HT.sIx,Option.getD_none,show(1:Int)>0 by decide,if_true];by_cases h:i<0
   .simp only[h,if_true]<;>lia
   .simp only[h,if_false]<;>lia
theorem Ho(its:List Value)(lo hi:Option Int):slicePick its.toArray lo hi none=((its.drop (HT.sIx its.length 0 lo)).take (HT.sIx its.length its.length hi-HT.sIx its.length 0 lo)).toArray:=by obtain⟨h1,h2,h3⟩:=Ii lo hi its.toArray.size;unfold slicePick;rw[h1,h2,h3];simp only[sliceRange_one,pick_run,ax]<;>rfl
def Jbx(K:Fg):V->Option Int->Option Int->Hp->VK->Prop:=λx lo hi H Q=>∃a xs,x=.ref a/\SqL K H a xs/\∀p,H p=none->Q (.ref p) (upd H p (.lst (RG xs lo hi)))
theorem Si:SlR X (Jbx X.K):=by intro pins s U H x v vl vu lo hi sl Q I rx hs pl pu h;obtain⟨a,xs,rfl,hx,q⟩:=h;cases rx;obtain⟨its,r,ht,hz⟩:=I.list hx;have hlen:=r.length;refine⟨"list",_,slot_list_getitem.lookup,ht.isList.typeIs,?_⟩;refine wpAny_getItem_list_slice ht.isList hs pl pu .none (by simp) ?_ (by rw[ax]<;>lia);rw[Ho,<- hlen];refine⟨.ref s.heap.objs.size,_,I.laid (t':=s.toks) (o:=.lst (RG xs lo hi)) (λb ob q=>af _ q) (aJ _) ?_,rfl,q _ (I.z9.fresh (aJ _))⟩;exact⟨aR (F7 xs lo hi) hz,_,0,(r.drop (HT.sIx xs.length 0 lo)).take (HT.sIx xs.length xs.length hi-HT.sIx xs.length 0 lo),aD _ rfl⟩
noncomputable def EH:V->Bool
 |.v=>true
 |.o _=>true
 |.int _=>true
 |.str _=>true
 |_=>false
noncomputable def eqV:V->V->Bool
 |.v,.v=>true
 |.o a,.o b=>a==b
 |.o a,.int b=>(if a then 1 else 0)==b
 |.int a,.o b=>a==(if b then 1 else 0)
 |.int a,.int b=>a==b
 |.str a,.str b=>a==b
 |_,_=>false
theorem RD{A:Around}{s:Shared}{y x:V}{u v:Value}(ry:RelV y u)(rx:RelV x v)(fy:EH y=true)(fx:EH x=true):SeqAt.EqAt A s u v (eqV y x):=by
 cases y with
 |v =>cases ry;cases x with|v=>cases rx;exact SeqAt.EqAt.same _|o b=>cases rx;exact SeqAt.EqAt.none_bool b|int b=>obtain⟨t,rfl⟩:=rx;exact SeqAt.EqAt.none_int b t|str b=>obtain⟨t,rfl⟩:=rx;exact SeqAt.EqAt.none_str b t|_=>exact absurd (show false=true from fx) aQ
 |o a =>cases ry;cases x with|v=>cases rx;exact SeqAt.EqAt.bool_none a|o b=>cases rx;exact SeqAt.EqAt.bool_bool a b|int b=>obtain⟨t,rfl⟩:=rx;exact SeqAt.EqAt.bool_int a b t|str b=>obtain⟨t,rfl⟩:=rx;exact SeqAt.EqAt.bool_str a b t|_=>exact absurd (show false=true from fx) aQ
 |int a =>obtain⟨t',rfl⟩:=ry;cases x with|v=>cases rx;exact SeqAt.EqAt.int_none a t'|o b=>cases rx;exact SeqAt.EqAt.int_bool a t' b|int b=>obtain⟨t,rfl⟩:=rx;exact SeqAt.EqAt.int_int a t' b t|str b=>obtain⟨t,rfl⟩:=rx;exact SeqAt.EqAt.int_str a t' b t|_=>exact absurd (show false=true from fx) aQ
 |str a =>obtain⟨t',rfl⟩:=ry;cases x with|v=>cases rx;exact SeqAt.EqAt.str_none a t'|o b=>cases rx;exact SeqAt.EqAt.str_bool a t' b|int b=>obtain⟨t,rfl⟩:=rx;exact SeqAt.EqAt.str_int a t' b t|str b=>obtain⟨t,rfl⟩:=rx;exact SeqAt.EqAt.str_str a t' b t|_=>exact absurd (show false=true from fx) aQ
 |_=>exact absurd (show false=true from fy) aQ
noncomputable def eqU(x:V)(u:Value):Bool:=match u with|.none=>eqV .v x|.bool b=>eqV (.o b) x|.int i _=>eqV (.int i) x|.str z _=>eqV (.str z) x|_=>false
theorem Rz{x y:V}{u:Value}(r:RelV y u)(f:EH y=true):eqU x u=eqV y x:=by cases y with|v=>cases r;rfl|o b=>cases r;rfl|int i=>obtain⟨t,rfl⟩:=r;rfl|str z=>obtain⟨t,rfl⟩:=r;rfl|_=>exact absurd (show false=true from f) aQ
theorem Gk{x:V}:∀{xs:List V}{us:List Value},Vals xs us->xs.all EH=true->us.any (eqU x)=xs.any λy=>eqV y x
 |_,_,.nil,_=>rfl
 |y::xs,u::us,.cons r t,f=>by rw[cR,aL]at f;rw[cx,cx,Rz r f.1,Gk t f.2]
theorem Ed{A:Around}{s:Shared}{x:V}{v:Value}(rx:RelV x v)(fx:EH x=true):∀{xs:List V}{us:List Value},Vals xs us->xs.all EH=true->∀u∈us,SeqAt.EqAt A s u v (eqU x u)
 |_,_,.nil,_=>λu hu=>by cases hu
 |y::xs,u::us,.cons r t,f=>λu' hu=>by
  rw[cR,aL]at f;rcases aH.mp hu with rfl|hu
  .rw[Rz r f.1];exact RD r rx f.1 fx
  .exact Ed rx fx t f.2 u' hu
noncomputable def inV(x:V)(xs:List V):Bool:=xs.any λy=>eqV y x
def rIn(K:Fg)(neg:Bool):R2:=λx y H Q=>∃p xs,y=.ref p/\(SqL K H p xs\/SqT K H p xs)/\EH x=true/\xs.all EH=true/\Q (.o (if neg then !inV x xs else inV x xs)) H
theorem IB:OpR X (compareOp .In) (rIn X.K false):=by
 intro pins s U H x y v u Q I rx ry h;obtain⟨p,xs,rfl,hq,fx,fs,q⟩:=h;cases ry;rcases hq with hq|hq
 .obtain⟨its,r,pl,hz⟩:=I.list hq;refine SeqAt.in_listAt (eqU x) pl.isList (λw hw=>Ed rx fx r fs w (by simpa using hw)) ⟨.o _,H,I,rfl,?_⟩;rw[show its.toArray.any (eqU x)=its.any (eqU x) by simp,Gk r fs];exact q
 .obtain⟨its,r,pl,hz⟩:=I.tuple hq;refine SeqAt.in_tupleAt (eqU x) pl (λw hw=>Ed rx fx r fs w (by simpa using hw)) ⟨.o _,H,I,rfl,?_⟩;rw[show its.toArray.any (eqU x)=its.any (eqU x) by simp,Gk r fs];exact q
theorem Iz:OpR X (compareOp .NotIn) (rIn X.K true):=by
 intro pins s U H x y v u Q I rx ry h;obtain⟨p,xs,rfl,hq,fx,fs,q⟩:=h;cases ry;rcases hq with hq|hq
 .obtain⟨its,r,pl,hz⟩:=I.list hq;refine SeqAt.notIn_listAt (eqU x) pl.isList (λw hw=>Ed rx fx r fs w (by simpa using hw)) ⟨.o _,H,I,rfl,?_⟩;rw[show its.toArray.any (eqU x)=its.any (eqU x) by simp,Gk r fs];exact q
 .obtain⟨its,r,pl,hz⟩:=I.tuple hq;refine SeqAt.notIn_tupleAt (eqU x) pl (λw hw=>Ed rx fx r fs w (by simpa using hw)) ⟨.o _,H,I,rfl,?_⟩;rw[show its.toArray.any (eqU x)=its.any (eqU x) by simp,Gk r fs];exact q
theorem Iy:OpR X (compareOp .NotIn) (λx y H Q=>∃i j,x=.str i/\y=.str j/\Q (.o (!(!(Builtin.Str.occurrences j i 0 j.length 1).isEmpty))) H):=by intro pins s U H x y v u Q I rx ry h;obtain⟨i,j,rfl,rfl,q⟩:=h;obtain⟨t,rfl⟩:=rx;obtain⟨t',rfl⟩:=ry;exact notIn_str ⟨.o _,H,I,rfl,q⟩
theorem Jg:Co X (.builtin "len") (λxs H Q=>∃p ys,xs=[.ref p]/\(SqL X.K H p ys\/SqT X.K H p ys)/\Q (.int ys.length) H):=by
 intro pins s U H xs us Q I r h;obtain⟨p,ys,rfl,hq,q⟩:=h;obtain⟨u,rfl,rx⟩:=vals1 r;cases rx;have hn:=FN;rcases hq with hq|hq
 .obtain⟨its,r',pl,hz⟩:=I.list hq;have hlen:=r'.length;exact Calls.call_len_list pl.isList (by simp only[ax]<;>lia) ⟨.int ys.length,H,I.tok _,⟨s.toks+1,by rw[ax,hlen]⟩,q⟩
 .obtain⟨its,r',pl,hz⟩:=I.tuple hq;have hlen:=r'.length;exact len_tuple pl (by simp only[ax]<;>lia) ⟨.int ys.length,H,I.tok _,⟨s.toks+1,by rw[ax,hlen]⟩,q⟩
theorem Jf:Co X (.builtin "len") (λxs H Q=>∃z,xs=[.str z]/\z.length<=sizeLine/\Q (.int z.length) H):=by intro pins s U H xs us Q I r h;obtain⟨z,rfl,hz,q⟩:=h;obtain⟨u,rfl,t,rfl⟩:=vals1 r;have hn:=FN;exact len_str (by lia) ⟨.int z.length,H,I.tok _,⟨_,rfl⟩,q⟩
theorem Je:Co X (.type "list") (λxs H Q=>∃p ys,xs=[.ref p]/\(SqL X.K H p ys\/SqT X.K H p ys)/\∀l,H l=none->Q (.ref l) (upd H l (.lst ys))):=by
 intro pins s U H xs us Q I r h;obtain⟨p,ys,rfl,hq,q⟩:=h;obtain⟨u,rfl,rx⟩:=vals1 r;cases rx;have fin:∀(its:List Value),Vals ys its->ys.length<=sizeLine->∀(h':Heap)(c':Nat),(∀b o',s.heap.get? b=some o'->h'.get? b=some o') ->
   h'.get? s.heap.objs.size=some {cls:=.type "list",dict:=none,data:=.seq its.toArray c',slots:=#[]}->EP X pins U Q (.ref s.heap.objs.size) {s with heap:=h' }:=λits r' hz h' c' kp e =>
  ⟨.ref s.heap.objs.size,_,I.laid (t':=s.toks) kp (aJ _) (show A4 X.prog X.w _ h' _ (.lst ys)from⟨hz,its,c',r',e⟩),rfl,q _ (I.z9.fresh (aJ _))⟩
 rcases hq with hq|hq
 .obtain⟨its,r',pl,hz⟩:=I.list hq;have hlen:=r'.length;obtain⟨o,ho,hc,n,hd⟩:=pl.isList;exact call_list_seq p (.inl rfl) ho hc hd (λh' c' kp e=>fin its r' hz h' c' kp e) (by simp only[ax]<;>lia)
 .obtain⟨its,r',pl,hz⟩:=I.tuple hq;have hlen:=r'.length;obtain⟨o,ho,hc,n,hd⟩:=pl;exact call_list_seq p (.inr rfl) ho hc hd (λh' c' kp e=>fin its r' hz h' c' kp e) (by simp only[ax]<;>lia)
theorem HU:Co X (.type "tuple") (λxs H Q=>∃p ys,xs=[.ref p]/\((SqL X.K H p ys/\∀l,H l=none->Q (.ref l) (upd H l (.tup ys)))\/(SqT X.K H p ys/\Q (.ref p) H))):=by
 intro pins s U H xs us Q I r h;obtain⟨p,ys,rfl,h⟩:=h;obtain⟨u,rfl,rx⟩:=vals1 r;cases rx;rcases h with⟨hq,q⟩|⟨hq,q⟩
 .obtain⟨its,r',pl,hz⟩:=I.list hq;have hlen:=r'.length;refine call_tuple_list pl.isList (λh' kp=>?_) (by simp only[ax]<;>lia);have I1:Inv X pins U H {s with heap:=h' }:=I.kept (t':=s.toks) kp;have I2:Inv X pins U (upd H h'.objs.size (.tup ys)) {s with heap:=h'.push {cls:=.type "tuple",data:=.seq its.toArray} } :=
   I1.laid (t':=s.toks) (λb o e=>af _ e) (aJ _) (show A4 X.prog X.w _ _ _ (.tup ys)from⟨hz,its,r',IsTup.new _ _⟩)
  exact⟨.ref h'.objs.size,_,I2,rfl,q _ (I1.z9.fresh (aJ _))⟩
 .obtain⟨its,r',pl,hz⟩:=I.tuple hq;exact call_tuple_same pl ⟨.ref p,H,I,rfl,q⟩
def tyV(K:Fg)(T:String)(x:V)(H:Hp):Prop:=match x with
 |.str _=>T="str"
 |.int _=>T="int"
 |.ref p=>(T="list"/\∃xs,SqL K H p xs)\/(T="tuple"/\∃o,K.lookup p=some o/\o.cls=.type "tuple"/\o.dict=none)\/
   (T="dict"/\((∃kvs,H p=some (.l kvs))\/∃kvs,H p=some (.dT kvs)))\/(T="set"/\∃S n,H p=some (.set S n))
 |_=>False
theorem QW{pins:List (Addr×Obj)}{U:St}{H:Hp}{s:Shared}{T:String}{x:V}{v:Value}(I:Inv X pins U H s)(r:RelV x v)(ty:tyV X.K T x H) :
  s.TypeIs v T/\∀a,v=.ref a->∃ob,s.heap.get? a=some ob/\ob.dict=none:=by
 cases x with
 |str z =>obtain⟨t,rfl⟩:=r;cases(show T="str" from ty);exact⟨typeIs_str s z t,λ_ e=>nomatch e⟩
 |int i =>obtain⟨t,rfl⟩:=r;cases(show T="int" from ty);exact⟨typeIs_int s i t,λ_ e=>nomatch e⟩
 |ref p =>
  cases r;rcases ty with⟨rfl,xs,hq⟩|⟨rfl,o,hk,hc,hd⟩|⟨rfl,hk⟩|⟨rfl,S,n,hk⟩
  .obtain⟨its,_,pl,_⟩:=I.list hq;refine⟨pl.isList.typeIs,λa e=>?_⟩;cases e;obtain⟨o,n,e,c,hd,_⟩:=pl;exact⟨o,e,hd⟩
  .refine⟨⟨o,I.kIn p o hk,hc⟩,λa e=>?_⟩;cases e;exact⟨o,I.kIn _ o hk,hd⟩
  .have z:∃o,s.heap.get? p=some o/\o.ExactDict:=by
    rcases hk with⟨kvs,hk⟩|⟨kvs,hk⟩
    .obtain⟨_,_,_,_,o,_,_,e,ex,_⟩:=I.z9 p _ hk;exact⟨o,e,ex⟩
    .obtain⟨_,_,_,_,o,_,_,e,ex,_⟩:=I.z9 p _ hk;exact⟨o,e,ex⟩
   obtain⟨o,e,ex⟩:=z;refine⟨⟨o,e,ex.1⟩,λa e2=>?_⟩;cases e2;exact⟨o,e,ex.2.1⟩
  .obtain⟨o,_,_,_,e,ex,_⟩:=I.z9 p _ hk;refine⟨⟨o,e,ex.1⟩,λa e2=>?_⟩;cases e2;exact⟨o,e,ex.2.1⟩
 |_=>exact False.elim ty
def Jbr(K:Fg)(T:String)(r:V->List V->Hp->VK->Prop)(to:TE):TE:=λU H Q=>to U H λx H1=>tyV K T x H1/\r x [] H1 Q
def tBM(K:Fg)(T:String)(r:V->List V->Hp->VK->Prop)(to:TE)(t:TA):TE:=λU H Q=>to U H λx H1=>tyV K T x H1/\t U H1 λxs H2=>r x xs H2 Q
variable{o e:Expr}{es:List Expr}{to:TE}{t:TA}{name:Str}{apos cpos:Pos}{T id:String}{r:V->List V->Hp->VK->Prop}
theorem V2(pa:PlainAttrs T)(slot:Slot T name id)(hty:typeOf (.builtin id)=pure (.type "method_descriptor"))(hm:MtR X id r)(ho:PE X o to)
  (hbase:attributeBase o name X.env (eval o X.env)=eval o X.env:=by rfl) (hline:(apos.endLine==cpos.line)=true:=by rfl):PE X (.Call (.Attribute o name apos) [] [] cpos) (Jbr X.K T r to):=by
 intro pins s U H Q I h;refine wpAny_Call_method0_late hbase hline (thn (ho pins s U H _ I h) λv s1 hpt=>?_);obtain⟨x,H1,I1,r1,ty,q1⟩:= hpt;obtain⟨h1,h2⟩:=QW I1 r1 ty;exact⟨T,id,pa,slot,hty,h1,h2,Calls.callWith_builtin rfl (PySem.evalArgs_none (hm pins s1 U H1 x [] v [] Q I1 r1 .nil q1))⟩
theorem ZM(pa:PlainAttrs T)(slot:Slot T name id)(hty:typeOf (.builtin id)=pure (.type "method_descriptor"))(hm:MtR X id r)(ho:PE X o to)(ha:PA X (e::es) t)
  (hbase:attributeBase o name X.env (eval o X.env)=eval o X.env:=by rfl)
  (hfew:((backTo cpos (starEach (e::es) X.env)).all (λx=>!x.1)&&(backToKw cpos (keywordEach [] X.env)).all (λx=>x.1.isSome)
  &&decide ((e::es).length+([]:List Keyword).length+(if([]:List Keyword).isEmpty then 0 else 1)<30))=true:=by rfl)
  (hline:(apos.endLine==cpos.line)=true:=by rfl) (hs:starEach (e::es) X.env=(false,eval e X.env)::starEach es X.env:=by rfl) (hplain:(backTo cpos (starEach es X.env)).any (·.1)=false:=by rfl) :
  PE X (.Call (.Attribute o name apos) (e::es) [] cpos) (tBM X.K T r to t):=by
 intro pins s U H Q I h;refine wpAny_Call_method_late hbase hfew hline rfl (thn (ho pins s U H _ I h) λv s1 hpt=>?_);obtain⟨x,H1,I1,r1,ty,q1⟩:= hpt;obtain⟨h1,h2⟩:=QW I1 r1 ty;refine⟨T,id,pa,slot,hty,h1,h2,?_⟩;have hA:=ha cpos pins s1 U H1 _ I1 q1;rw[hs]at hA ⊢;refine Calls.callWith_builtin (by show(false||(backTo cpos (starEach es X.env)).any (·.1))=false;rw[hplain]<;>rfl) (Calls.evalArgs_plain ?_);refine thn hA λus s2 hpt => ?_
 obtain⟨vs,H2,I2,r2,q2⟩:= hpt;exact hm pins s2 U H2 x vs v us Q I2 r1 r2 q2
end
def MtM(X:Cx)(id:String)(r:V->List V->Hp->VK->Prop):Prop :=
 ∀(pins:List (Addr×Obj))(s:Shared)(U:St)(H:Hp)(x:V)(xs:List V)(v:Value)(us:List Value)(Q:VK),Inv X pins U H s->RelV x v->Vals xs us->r x xs H Q ->
  wpAny (model X.prog X.w) X.A (call (.builtin id) (v::us)) (EP X pins U Q) X.xe s
theorem Vals.one:∀{x:V}{us:List Value},Vals [x] us->∃u,us=[u]/\RelV x u
 |_,_,.cons r .nil=>⟨_,rfl,r⟩
theorem Vals.zero:∀{us:List Value},Vals [] us->us=[]
 |_,.nil=>rfl
theorem Vals.reverse{xs:List V}{us:List Value}(h:Vals xs us):Vals xs.reverse us.reverse:=by induction h with|nil=>exact .nil|cons r t ih=>rw[cM,cM];exact Vals.append ih (.cons r .nil)
section
variable{X:Cx}{pins:List (Addr×Obj)}{U:St}{H:Hp}{s:Shared}{l b:Addr}{xs ys zs:List V}
theorem Inv.ZX{its its':List Value}{n:Nat}{f:Array Value->Array Value}{t':Nat}(I:Inv X pins U H s)(hH:H l=some (.lst xs))
  (e:s.heap.get? l=some {cls:=.type "list",data:=.seq its.toArray n}) (hf:f its.toArray=its'.toArray) (hv:Vals ys its') (hz:ys.length<=sizeLine) :
  Inv X pins U (upd H l (.lst ys)) {s with heap:=s.heap.update l (Obj.mapSeq f),toks:=t' }:=by
 have q:=PySem.IsL.update e f;rw[hf]at q;refine I.write (x:=l) (e:=l) (by rw[hH];exact trivial) (.inl rfl) (λb' u hb hu=>(bI s.heap (Obj.mapSeq f) (Ne.symm hb)).trans hu) ⟨_,q⟩ ?_;exact⟨hz,its',_,hv,q⟩
theorem Inv.JbI{its:List Value}{t':Nat}(I:Inv X pins U H s)(hv:Vals ys its)(hz:ys.length<=sizeLine) :
  Inv X pins U (upd H s.heap.objs.size (.lst ys)) {s with heap:=s.heap.push {cls:=.type "list",data:=.seq its.toArray},toks:=t' } :=
 I.laid (λ_ _ q=>af _ q) (aJ _) ⟨hz,its,0,hv,aD _ rfl⟩
theorem Inv.fresh(I:Inv X pins U H s):H s.heap.objs.size=none:=I.z9.fresh (aJ _)
theorem Inv.Wv(I:Inv X pins U H s)(hH:H l=some (.lst xs)):xs.length<=sizeLine/\∃(its:List Value)(n:Nat),Vals xs its/\xs.length=its.length/\s.heap.get? l=some {cls:=.type "list",data:=.seq its.toArray n}:=by obtain⟨z,its,n,r,e⟩:=I.z9 l _ hH;exact⟨z,its,n,r,r.length,e⟩
end
section
variable{X:Cx}
def MN:V->List V->Hp->VK->Prop:=λx vs H Q=>∃l xs y,x=.ref l/\vs=[y]/\H l=some (.lst xs)/\xs.length<sizeLine/\Q .v (upd H l (.lst (xs++[y])))
theorem IH:MtM X "list.append" MN:=by
 intro pins s U H x vs v us Q I rx rv h;obtain⟨l,xs,y,rfl,rfl,hH,hz,q⟩:=h;cases rx;obtain⟨u,rfl,ru⟩:=rv.one;obtain⟨z,its,n,r,hl,e⟩:=I.Wv hH;refine call_meets F.slot_list_append ⟨_,e,rfl⟩ F.entry_list_append (F.args_list_append_2 _ _) (PySem.list_append l its.toArray n u (by rw[ax];lia)) ⟨e,?_⟩;refine⟨.v,_,I.ZX (its':=its++[u]) hH e (by simp) (r.append (.cons ru .nil)) ?_,rfl,q⟩;rw[bg,List.length_singleton]
 lia
def Ky:V->List V->Hp->VK->Prop:=λx vs H Q=>∃l xs,x=.ref l/\vs=[]/\H l=some (.lst xs)/\Q .v (upd H l (.lst xs.reverse))
theorem LS:MtM X "list.reverse" Ky:=by
 intro pins s U H x vs v us Q I rx rv h;obtain⟨l,xs,rfl,rfl,hH,q⟩:=h;cases rx;have hus:=rv.zero;subst hus;obtain⟨z,its,n,r,hl,e⟩:=I.Wv hH;refine call_meets F.slot_list_reverse ⟨_,e,rfl⟩ F.entry_list_reverse (F.args_list_reverse_1 _) (AutoSeq1.list_reverse_list_0 l its.toArray n (by rw[ax];lia)) ⟨e,?_⟩;refine⟨.v,_,I.ZX (its':=its.reverse) hH e (by simp) r.reverse ?_,rfl,q⟩;rw[List.length_reverse]
 lia
def Q1:V->List V->Hp->VK->Prop:=λx vs H Q=>∃l xs,x=.ref l/\vs=[]/\H l=some (.lst xs)/\Q .v (upd H l (.lst []))
theorem Pt:MtM X "list.clear" Q1:=by intro pins s U H x vs v us Q I rx rv h;obtain⟨l,xs,rfl,rfl,hH,q⟩:=h;cases rx;have hus:=rv.zero;subst hus;obtain⟨z,its,n,r,hl,e⟩:=I.Wv hH;refine call_meets F.slot_list_clear ⟨_,e,rfl⟩ F.entry_list_clear (F.args_list_clear_1 _) (AutoSeq1.list_clear_list_0 l its.toArray n (by rw[ax];lia)) ⟨e,?_⟩;exact⟨.v,_,I.ZX (its':=[]) (ys:=[]) hH e rfl .nil (Nat.zero_le _),rfl,q⟩
def JaK:R2:=λx y H Q=>∃l b xs zs,x=.ref l/\y=.ref b/\H l=some (.lst xs)/\H b=some (.lst zs)/\xs.length+zs.length<=sizeLine/\∀p,H p=none->Q (.ref p) (upd H p (.lst (xs++zs)))
theorem We:OpR X (binaryOp .Add) JaK:=by
 intro pins s U H x y v u Q I rx ry h;obtain⟨l,b,xs,zs,rfl,rfl,hH,hB,hz,q⟩:=h;cases rx;cases ry;obtain⟨z,its,n,r,hl,e⟩:=I.Wv hH;obtain⟨z2,its2,n2,r2,hl2,e2⟩:=I.Wv hB;refine PySem.P.add_list e e2 ?_ (by rw[ax,ax];lia);have ea:its.toArray++its2.toArray=(its++its2).toArray:=by simp
 rw[ea];exact⟨.ref _,_,I.JbI (t':=s.toks) (r.append r2) (by rw[bg];lia),rfl,q _ I.fresh⟩
end
section
variable{prog:Program}{w:World}{A:Around}{E:Value->Shared->Prop}{s:Shared}
set_option maxRecDepth 100000 in
end
section
variable{X:Cx}
end
section
variable{κ:Type}[DecidableEq κ]
noncomputable def Jw(kvs:List (κ×V))(k:κ):Option V:=(kvs.find? λkv=>decide (kv.1=k)).map (·.2)
noncomputable def putK(kvs:List (κ×V))(k:κ)(v:V):List (κ×V) :=
 if(kvs.any λkv=>decide (kv.1=k))=true then kvs.map (λkv=>if kv.1=k then(kv.1,v)else kv)else kvs++[(k,v)]
theorem D3{p:κ×V}{r:List (κ×V)}{k:κ}(e:p.1=k):Jw (p::r) k=some p.2:=by simp[Jw,cw,e]
theorem D4{p:κ×V}{r:List (κ×V)}{k:κ}(e:¬p.1=k):Jw (p::r) k=Jw r k:=by simp[Jw,cw,e]
theorem Kp(k:κ):∀kvs:List (κ×V),(kvs.any λkv=>decide (kv.1=k))=(Jw kvs k).isSome
 | []=>rfl
 |p::r=>by
  rw[cx];by_cases e:p.1=k
  .simp only[D3 e,aV e,Bool.true_or,Option.isSome_some]
  .rw[D4 e,aT e,Bool.false_or];exact Kp k r
theorem DU(kvs:List (κ×V))(k:κ)(v:V):(putK kvs k v).length<=kvs.length+1:=by
 unfold putK;split
 .rw[ar];lia
 .rw[bg,aX,List.length_nil];lia
theorem Ap.Dv{o:Option V}{u:Option Value}(r:Ap o u):o.isSome=u.isSome:=by
 cases o with
 |none=>cases u with|none=>rfl|some _=>exact(show False from r).elim
 |some _=>cases u with|none=>exact(show False from r).elim|some _=>rfl
theorem KV.val{kvs:List (κ×V)}{vs:List (κ×Value)}(r:KV kvs vs)(k:κ):Ap (Jw kvs k) (valueAt vs k):=by
 unfold KV at r
 induction r with
 |nil=>exact True.intro
 |@cons p q ps qs h t ih =>
  obtain⟨h1,h2⟩:=h;by_cases e:p.1=k
  .have e':q.1=k:=h1.symm.trans e;have b:valueAt (q::qs) k=some q.2:=by simp[valueAt,cw,e']
   rw[D3 e,b];exact h2
  .have e':¬q.1=k:=λz=>e (h1.trans z)
   have b:valueAt (q::qs) k=valueAt qs k:=by simp[valueAt,cw,e']
   rw[D4 e,b];exact ih
theorem KV.any{kvs:List (κ×V)}{vs:List (κ×Value)}(r:KV kvs vs)(k:κ):(kvs.any λkv=>decide (kv.1=k))=vs.any λkv=>decide (kv.1=k):=by
 unfold KV at r
 induction r with|nil=>rfl|cons h t ih=>rw[cx,cx,ih,h.1]
theorem KV.Zr{kvs:List (κ×V)}{vs:List (κ×Value)}(r:KV kvs vs)(k:κ){y:V}{u:Value}(ry:RelV y u) :
  KV (kvs.map λkv=>if kv.1=k then(kv.1,y)else kv) (vs.map λkv=>if kv.1=k then(kv.1,u)else kv):=by
 unfold KV at r ⊢
 induction r with
 |nil=>exact .nil
 |@cons p q ps qs h t ih =>
  rw[aj,aj];refine .cons ?_ ih;obtain⟨h1,h2⟩:=h;by_cases e:p.1=k
  .rw[if_pos e,if_pos (h1.symm.trans e)];exact⟨h1,ry⟩
  .rw[if_neg e,if_neg (λz=>e (h1.trans z))];exact⟨h1,h2⟩
theorem KV.put{kvs:List (κ×V)}{vs:List (κ×Value)}(r:KV kvs vs)(k:κ){y:V}{u:Value}(ry:RelV y u):KV (putK kvs k y) (stored vs k u):=by
 unfold putK stored;rw[r.any k];by_cases e:(vs.any λkv=>decide (kv.1=k))=true
 .rw[if_pos e,if_pos e];exact r.Zr k ry
 .rw[if_neg e,if_neg e];exact Paired.snoc r ⟨rfl,ry⟩
theorem KV.length{kvs:List (κ×V)}{vs:List (κ×Value)}(r:KV kvs vs):kvs.length=vs.length:=Paired.length r
end
theorem JY{P:Program}{w:World}{k:Key}{u:Value}(r:RelV (kV k) u):(A0 P w).is k u=true:=by cases k with|inl i=>obtain⟨t,e⟩:=(show ∃t,u=Value.int i t from r);subst e;exact JR P w i t|inr x=>obtain⟨t,e⟩:=(show ∃t,u=Value.str x t from r);subst e;exact JQ P w x t
theorem IL{P:Program}{w:World}:∀{ks:List Key}{us:List Value},Vals (ks.map kV) us->ItemsAre (A0 P w) ks us
 | [],_,r=>by rw[cn]at r;cases r;exact .nil
 |k::ks,_,r=>by rw[aj]at r;cases r with|cons h t=>exact .cons (JY h) (IL t)
abbrev KT(H:Hp):List (List Key×V)->List (List Key×Addr×Value)->Prop:=Paired λp q=>p.1=q.1/\H q.2.1=some (.tup (p.1.map kV))/\RelV p.2 q.2.2
theorem KT.val{H:Hp}{kvs:List (List Key×V)}{xs:List (List Key×Addr×Value)}(r:KT H kvs xs)(k:List Key):Ap (Jw kvs k) ((atKey xs k).map (·.2)):=by
 induction r with
 |nil=>exact True.intro
 |@cons p q ps qs h t ih =>
  obtain⟨h1,_,h2⟩:=h;by_cases e:p.1=k
  .have e':q.1=k:=h1.symm.trans e;have b:atKey (q::qs) k=some q.2:=by simp[atKey,cw,e']
   rw[D3 e,b];exact h2
  .have e':¬q.1=k:=λz=>e (h1.trans z)
   have b:atKey (q::qs) k=atKey qs k:=by simp[atKey,cw,e']
   rw[D4 e,b];exact ih
theorem KT.Zr{H:Hp}{kvs:List (List Key×V)}{xs:List (List Key×Addr×Value)}(r:KT H kvs xs)(k:List Key){y:V}{u:Value}(ry:RelV y u) :
  KT H (kvs.map λkv=>if kv.1=k then(kv.1,y)else kv) (xs.map (putAt k u)):=by
 induction r with
 |nil=>exact .nil
 |@cons p q ps qs h t ih =>
  rw[aj,aj];refine .cons ?_ ih;obtain⟨h1,h2,h3⟩:=h;unfold putAt;by_cases e:p.1=k
  .rw[if_pos e,if_pos (h1.symm.trans e)];exact⟨h1,h2,ry⟩
  .rw[if_neg e,if_neg (λz=>e (h1.trans z))];exact⟨h1,h2,h3⟩
theorem KT.put{H:Hp}{kvs:List (List Key×V)}{xs:List (List Key×Addr×Value)}(r:KT H kvs xs)(k:List Key){b:Addr}{y:V}{u:Value}(hb:H b=some (.tup (k.map kV)))(ry:RelV y u) :
  KT H (putK kvs k y) (storedH xs k b u):=by
 have e:(kvs.any λkv=>decide (kv.1=k))=(atKey xs k).isSome:=by rw[Kp,(r.val k).Dv,Option.isSome_map]
 unfold putK storedH;rw[e];by_cases q:(atKey xs k).isSome=true
 .rw[if_pos q,if_pos q];exact r.Zr k ry
 .rw[if_neg q,if_neg q];exact Paired.snoc r ⟨rfl,hb,ry⟩
theorem KT.keeps{H H':Hp}{kvs:List (List Key×V)}{xs:List (List Key×Addr×Value)}(r:KT H kvs xs)(ht:∀b ys,H b=some (.tup ys)->H' b=some (.tup ys)):KT H' kvs xs :=
 Paired.ZW r λ_ _ z=>⟨z.1,ht _ _ z.2.1,z.2.2⟩
section
variable{P:Program}{w:World}{H:Hp}{h:Heap}{a:Addr}
theorem Vu{u:HO}(ok:HOk P w H h)(e:Rd H a u):A4 P w H h a u:=e.ok ok
theorem IX{kvs:List (Key×V)}(ok:HOk P w H h)(e:Rd H a (.l kvs)):kvs.length<=sizeLine/\(a==sysModules)=false/\∃vs,KV kvs vs/\h.DictOf (A0 P w) a vs :=
 show A4 P w H h a (.l kvs)from Vu ok e
theorem XJ{kvs:List (Key×V)}(ok:HOk P w H h)(e:H a=some (.l kvs)):kvs.length<=sizeLine/\(a==sysModules)=false/\∃vs,KV kvs vs/\h.DictOf (A0 P w) a vs:=IX ok (.inl e)
theorem IK{ks:List Key}(ok:HOk P w H h)(e:H a=some (.tup (ks.map kV))):(tupleKind (A0 P w)).is h ks a:=by
 obtain⟨_,its,r,o,h1,h2,n,h3⟩:=(show A4 P w H h a (.tup (ks.map kV))from ok a _ e)
 exact⟨o,its.toArray,n,h1,h2,h3,by simpa using IL r⟩
theorem Od{kvs:List (List Key×V)}(ok:HOk P w H h)(e:Rd H a (.dT kvs)):kvs.length<=sizeLine/\(a==sysModules)=false /\
  ∃xs,KT H kvs xs/\h.DictOfH (tupleKind (A0 P w)) a xs:=by
 obtain⟨z,y,xs,r,o,es,ep,h1,h2,h3,h4,h5⟩:=(show A4 P w H h a (.dT kvs)from Vu ok e)
 refine⟨z,y,xs,r,o,es,ep,h1,h2,h3,h4,λx hx=>?_,h5⟩;have all:∀{l:List (List Key×V)}{m:List (List Key×Addr×Value)},KT H l m->∀x∈m,(tupleKind (A0 P w)).is h x.1 x.2.1:=by
  intro l m q
  induction q with
  |nil=>intro x hx;exact nomatch hx
  |@cons p q ps qs hq t ih =>
   intro x hx;rcases aH.mp hx with e|hx
   .subst e;exact IK ok (by rw[<- hq.1];exact hq.2.1)
   .exact ih x hx
 exact all r x hx
theorem Jau{kvs:List (List Key×V)}(ok:HOk P w H h)(e:H a=some (.dT kvs)):kvs.length<=sizeLine/\(a==sysModules)=false /\
  ∃xs,KT H kvs xs/\h.DictOfH (tupleKind (A0 P w)) a xs:=Od ok (.inl e)
end
def Ju(H:Hp)(a:Addr)(y:V)(r:Option V):Prop :=
 (∃kvs k,Rd H a (.l kvs)/\y=kV k/\r=Jw kvs k)\/∃kvs k b,Rd H a (.dT kvs)/\y=.ref b/\H b=some (.tup (k.map kV))/\r=Jw kvs k
def Mq(H:Hp)(a:Addr)(y v:V)(H':Hp):Prop :=
 (∃kvs k,H a=some (.l kvs)/\y=kV k/\kvs.length<sizeLine/\H'=upd H a (.l (putK kvs k v)))\/
 ∃kvs k b,H a=some (.dT kvs)/\y=.ref b/\H b=some (.tup (k.map kV))/\kvs.length<sizeLine/\H'=upd H a (.dT (putK kvs k v))
theorem Ju.k{H:Hp}{a:Addr}{kvs:List (Key×V)}{k:Key}(e:H a=some (.l kvs)):Ju H a (kV k) (Jw kvs k):=.inl ⟨kvs,k,.inl e,rfl,rfl⟩
theorem Ju.t{H:Hp}{a b:Addr}{kvs:List (List Key×V)}{k:List Key}(e:H a=some (.dT kvs))(eb:H b=some (.tup (k.map kV))):Ju H a (.ref b) (Jw kvs k):=.inr ⟨kvs,k,b,.inl e,rfl,eb,rfl⟩
theorem Mq.k{H:Hp}{a:Addr}{kvs:List (Key×V)}{k:Key}{v:V}(e:H a=some (.l kvs))(hl:kvs.length<sizeLine):Mq H a (kV k) v (upd H a (.l (putK kvs k v))):=.inl ⟨kvs,k,e,rfl,hl,rfl⟩
theorem Mq.t{H:Hp}{a b:Addr}{kvs:List (List Key×V)}{k:List Key}{v:V}(e:H a=some (.dT kvs))(eb:H b=some (.tup (k.map kV)))(hl:kvs.length<sizeLine) :
  Mq H a (.ref b) v (upd H a (.dT (putK kvs k v))):=.inr ⟨kvs,k,b,e,rfl,eb,hl,rfl⟩
section
variable{X:Cx}{pins:List (Addr×Obj)}{U:St}{H:Hp}{s:Shared}{a:Addr}{y v:V}{u r:Value}{o:Option V}{A:Around}{E:Value->Shared->Prop}
theorem Inv.big(I:Inv X pins U H s):sysModules<s.heap.objs.size:=by have h:mainGlobals<s.heap.objs.size:=(I.mod.glob.keeps I.bk).lt;exact bW (by decide) h
theorem I0{Q:Value->Shared->Prop}(hu:A.units+1<cLine)(I:Inv X pins U H s)(g:Ju H a y (some v))(ry:RelV y u)(h:∀w' s',Inv X pins U H s'->RelV v w'->Q w' s') :
  wpAny (model X.prog X.w) A (getItem (.ref a) u) Q E s:=by
 rcases g with⟨kvs,k,e,ey,l⟩|⟨kvs,k,b,e,ey,eb,l⟩
 .subst ey;obtain⟨z,hd,vs,rel,dd⟩:=IX I.z9 e;obtain⟨w',hw,rw'⟩:=Ap.some_of (v:=v) (o:=valueAt vs k) (by rw[l];exact rel.val k);exact wpAny_getItem_of (JY ry) dd.mapOf hw (h w' _ (I.tok _) rw')
 .subst ey;cases(show u=Value.ref b from ry);obtain⟨z,hd,xs,rel,dd⟩:=Od I.z9 e;obtain⟨w',hw,rw'⟩:=Ap.some_of (v:=v) (o:=(atKey xs k).map (·.2)) (by rw[l];exact rel.val k);obtain⟨p,hp,hp2⟩:=aA.mp hw;refine wpAny_getItem_heap (tupleKind_room_in1 hu) (IK I.z9 eb) dd hp ?_;rw[hp2];exact h w' _ (I.tok _) rw'
theorem JbS{Q:Value->Shared->Prop}(hu:A.units+1<cLine)(I:Inv X pins U H s)(g:Ju H a y o)(ry:RelV y u)(h:∀s',Inv X pins U H s'->Q (.bool o.isSome) s') :
  wpAny (model X.prog X.w) A (compareOp .In u (.ref a)) Q E s:=by
 rcases g with⟨kvs,k,e,ey,l⟩|⟨kvs,k,b,e,ey,eb,l⟩
 .subst ey;obtain⟨z,hd,vs,rel,dd⟩:=IX I.z9 e;refine wpAny_in_of (JY ry) hd dd.mapOf ?_;rw[<- (rel.val k).Dv,<- l];exact h _ (I.tok _)
 .subst ey;cases(show u=Value.ref b from ry);obtain⟨z,hd,xs,rel,dd⟩:=Od I.z9 e;refine wpAny_in_heap (tupleKind_room_in1 hu) (IK I.z9 eb) hd dd ?_;have q:=(rel.val k).Dv;rw[Option.isSome_map]at q;rw[<- q,<- l];exact h _ (I.tok _)
theorem Uq{Q:Value->Shared->Prop}(hu:A.units+1<cLine)(I:Inv X pins U H s)(g:Ju H a y o)(ry:RelV y u)(h:∀s',Inv X pins U H s'->Q (.bool (!o.isSome)) s') :
  wpAny (model X.prog X.w) A (compareOp .NotIn u (.ref a)) Q E s:=by
 rcases g with⟨kvs,k,e,ey,l⟩|⟨kvs,k,b,e,ey,eb,l⟩
 .subst ey;obtain⟨z,hd,vs,rel,dd⟩:=IX I.z9 e;refine wpAny_notIn_of (JY ry) hd dd.mapOf ?_;rw[<- (rel.val k).Dv,<- l];exact h _ (I.tok _)
 .subst ey;cases(show u=Value.ref b from ry);obtain⟨z,hd,xs,rel,dd⟩:=Od I.z9 e;refine wpAny_notIn_heap (tupleKind_room_in1 hu) (IK I.z9 eb) hd dd ?_;have q:=(rel.val k).Dv;rw[Option.isSome_map]at q;rw[<- q,<- l];exact h _ (I.tok _)
theorem Ke{h':Heap}{t':Nat}{ob:HO}(I:Inv X pins U H s)(mu:Mut (H a))(hs:Heap.SameBut a s.heap h')(he:∃q,h'.get? a=some q)(new:A4 X.prog X.w (upd H a ob) h' a ob) :
  Inv X pins U (upd H a ob) {s with heap:=h',toks:=t' } :=
 I.write (x:=a) (e:=a) mu (.inl rfl) (λb q hb z=>(hs.2 b hb).trans z) he new
theorem Oe{P:Program}{w:World}{H':Hp}{h':Heap}{kvs:List (Key×V)}{vs:List (Key×Value)}(z:kvs.length<=sizeLine)(hd:(a==sysModules)=false)(rel:KV kvs vs)(dd:h'.DictOf (A0 P w) a vs) :
  A4 P w H' h' a (.l kvs):=⟨z,hd,vs,rel,dd⟩
theorem IZ{H':Hp}{Q:Unit->Shared->Prop}(hu:A.units+1<cLine)(I:Inv X pins U H s)(g:Mq H a y v H')(ry:RelV y u)(rv:RelV v r)(h:∀s',Inv X pins U H' s'->Q () s') :
  wpAny (model X.prog X.w) A (setItem (.ref a) u r) Q E s:=by
 rcases g with⟨kvs,k,e,ey,l,eH⟩|⟨kvs,k,b,e,ey,eb,l,eH⟩
 .subst ey eH;obtain⟨z,hd,vs,rel,dd⟩:=XJ I.z9 e;have hz:vs.length<=sizeLine:=by rw[<- rel.length];exact z
  have hl:(putK kvs k v).length<=sizeLine:=by have:=DU kvs k v;lia
  refine wpAny_setItem_pairs (hsz:=hz) (JY ry) dd λh' dd' hs=>h _ ?_
  have he:∃q,h'.get? a=some q:=let⟨q,_,_,hq,_⟩:=dd';⟨q,hq⟩;exact Ke I (by rw[e];exact True.intro) hs he (Oe hl hd (rel.put k rv) dd')
 .subst ey eH;cases(show u=Value.ref b from ry);obtain⟨z,hd,xs,rel,dd⟩:=Jau I.z9 e;have hz:xs.length<=sizeLine:=by rw[<- Paired.length rel];exact z
  have hl:(putK kvs k v).length<=sizeLine:=by have:=DU kvs k v;lia
  refine wpAny_setItem_heap (hsz:=hz) (tupleKind_room_in1 hu) (IK I.z9 eb) dd λh' dd' hs=>h _ ?_
  obtain⟨q,es,ep,hq,h2,h3,h4,_,h5⟩:=dd';refine Ke I (by rw[e];exact True.intro) hs ⟨q,hq⟩ ⟨hl,hd,_,(rel.put k eb rv).keeps λc ys ec=>?_,q,es,ep,hq,h2,h3,h4,h5⟩;rw[Ai (ZU ec e (λz=>nomatch z))];exact ec
end
section
variable{X:Cx}{pins:List (Addr×Obj)}{U:St}{H:Hp}{s:Shared}{a:Addr}{kvs:List (Key×V)}{k:Key}{u:Value}{A:Around}{E:Value->Shared->Prop}
theorem Jav{Q:Value->Shared->Prop}(I:Inv X pins U H s)(e:Rd H a (.l kvs))(h:∀t s',Inv X pins U H s'->Q (.int kvs.length t) s'):wpAny (model X.prog X.w) A (call (.builtin "len") [.ref a]) Q E s:=by obtain⟨z,hd,vs,rel,dd⟩:=IX I.z9 e;refine call_len_dict hd dd (by rw[<- rel.length];rw[sizeLine_eq]at z;lia) ?_;rw[<- rel.length];exact h _ _ (I.tok _)
end
def JaA(i:Expr):Prop:=∀ov iv,subscripted i false ov iv=operate [ov,iv] (getItem ov iv)
theorem Sf{prog:Program}{w:World}{A:Around}{E:Value->Shared->Prop}{s:Shared}{env:Env}{value slice:Expr}{pos:Pos}{T id:String}{Q:Value->Shared->Prop}
  (hl:typeLookup (.type T) "__getitem__"=pure (some (.builtin id))) (hs:JaA slice)
  (h:wpAny (model prog w) A (eval value env) (λo s₁=>wpAny (model prog w) A (eval slice env) (λi s₂=>s₂.TypeIs o T/\wpAny (model prog w) A (getItem o i) Q E s₂) E s₁) E s) :
  wpAny (model prog w) A (eval (.Subscript value slice pos) env) Q E s:=by
 refine Subscript_ (wpAny_mono h (λo s₁ h₁=>wpAny_mono h₁ (λi s₂ h₂=>?_) λ_ _ x=>x) λ_ _ x=>x);obtain⟨hT,h₂⟩:=h₂;unfold subscriptTail;refine aa ?_;rw[getitemInPython_of_ne hT.not_modules];refine aa (wpAny_specialOf hT hl ?_);have fin:wpAny (model prog w) A (subscripted slice false o i) (λr s₃=>wpAny (model prog w) A (letTemporaryGo value o r >>= λ_=>pure r) Q E s₃) E s₂:=by rw[hs o i];exact wpAny_operating (wpAny_mono h₂ (λr s₃ h₃=>aa (wpAny_letTemporaryGo (au h₃))) λ_ _ x=>x)
 first
  |exact au (aa fin)
  |exact aa (au (aa fin))
  |exact aa fin
theorem FZ{X:Cx}{pins:List (Addr×Obj)}{U:St}{H:Hp}{s:Shared}{a:Addr}{y:V}{o:Option V}(I:Inv X pins U H s)(g:Ju H a y o):s.TypeIs (.ref a) "dict":=by
 rcases g with⟨kvs,k,e,_,_⟩|⟨kvs,k,b,e,_,_,_⟩
 .obtain⟨_,_,vs,_,dd⟩:=IX I.z9 e;exact dd.typeIs
 .obtain⟨_,_,xs,_,dd⟩:=Od I.z9 e;exact dd.typeIs
def Zl(td ty:TE):TE:=λU H Q=>td U H λx H1=>ty U H1 λy H2=>∃a v,x=.ref a/\Ju H2 a y (some v)/\Q v H2
def Vq(td ty tv:TE):TS:=λD U H=>tv U H λv H1=>td U H1 λx H2=>ty U H2 λy H3=>∃a H4,x=.ref a/\Mq H3 a y v H4/\D.nx U H4
section
variable{X:Cx}{o i e value:Expr}{pos pos' tpos:Pos}{td ty tv:TE}
theorem SK(hu:X.A.units+1<cLine)(ho:PE X o td)(hi:PE X i ty)(hs:JaA i):PE X (.Subscript o i pos) (Zl td ty):=by intro pins s U H Q I h;refine Sf PySem.F.slot_dict_getitem.lookup hs (thn (ho pins s U H _ I h) λu s1 ⟨x,H1,I1,rx,q1⟩=>thn (hi pins s1 U H1 _ I1 q1) λiv s2 hpt=>?_);obtain⟨y,H2,I2,ry,a,v,ex,g,q2⟩:= hpt;subst ex;obtain rfl:u=Value.ref a:=rx;exact⟨FZ I2 g,I0 hu I2 g ry λw' s3 I3 rw'=>⟨v,H2,I3,rw',q2⟩⟩
theorem JF(hu:X.A.units+1<cLine)(ho:PE X o td)(hi:PE X i ty)(hv:PE X value tv)(hs:swapsWith value (some (.Subscript o i pos')) pos.line X.env=pure false) :
  PS X (.Assign [.Subscript o i pos'] value pos) (Vq td ty tv):=by
 intro pins s U H D I h;refine wpAny_Assign_Subscript (thn (hv pins s U H _ I h) λr s1 ⟨v,H1,I1,rv,q1⟩=>thn (ho pins s1 U H1 _ I1 q1) λu s2 ⟨x,H2,I2,rx,q2⟩=>thn (hi pins s2 U H2 _ I2 q2) λiv s3 hpt=>?_) hs;obtain⟨y,H3,I3,ry,a,H4,ex,g,q3⟩:= hpt;subst ex;obtain rfl:u=Value.ref a:=rx;exact IZ hu I3 g ry rv λs4 I4=>⟨U,H4,I4,q3⟩
end
theorem K9{P:Program}{w:World}{H:Hp}(h:Heap)(hb:sysModules<h.objs.size):A4 P w H (h.push {cls:=.type "dict",data:=.dict #[]}) h.objs.size (.l []) :=
 ⟨Nat.zero_le _,beq_eq_false_iff_ne.mpr (Ne.symm (aS hb)),[],.nil,Heap.DictOf.new h⟩
def Vg:TE:=λ_ H Q=>∀p,H p=none->Q (.ref p) (upd H p (.l []))
section
variable{X:Cx}{pos:Pos}
theorem KI:PE X (.Dict [] [] pos) Vg:=λpins s U H Q I h =>wpAny_Dict_empty ⟨.ref s.heap.objs.size,_,I.laid (a:=s.heap.objs.size) (o:=.l []) (t':=s.toks) (λ_ _ q=>af _ q) (aJ _) (K9 s.heap I.big),rfl,h _ (I.z9.fresh (aJ _))⟩
end
def ME:List (TE×TE)->St->Hp->(List (V×V)->Hp->Prop)->Prop
 | [],_,H,Q=>Q [] H
 |(tk,tv)::r,U,H,Q=>tk U H λx H1=>tv U H1 λy H2=>ME r U H2 λps H3=>Q ((x,y)::ps) H3
abbrev VV:List (V×V)->List (Value×Value)->Prop:=Paired λp q=>RelV p.1 q.1/\RelV p.2 q.2
def PPs(X:Cx)(pos:Pos)(keys:List (Option Expr))(values:List Expr)(trs:List (TE×TE)):Prop :=
 ∀(pins:List (Addr×Obj))(s:Shared)(U:St)(H:Hp)(Q:List (V×V)->Hp->Prop),Inv X pins U H s->ME trs U H Q ->
  wpAny (model X.prog X.w) X.A (evalPairs (pairTrees keys values X.env pos)) (λvs s'=>∃ps H',Inv X pins U H' s'/\VV ps vs/\Q ps H') X.xe s
theorem Sw{X:Cx}{pos:Pos}:PPs X pos [] [] []:=λpins s U H Q I h=>pairTrees_nil_walk ⟨[],H,I,.nil,h⟩
theorem O7{X:Cx}{pos:Pos}{k v:Expr}{ks:List (Option Expr)}{vs:List Expr}{tk tv:TE}{trs:List (TE×TE)}(hk:PE X k tk)(hv:PE X v tv)(hr:PPs X pos ks vs trs) :
  PPs X pos (some k::ks) (v::vs) ((tk,tv)::trs):=λpins s U H Q I h =>
 pairTrees_cons_walk (thn (hk pins s U H _ I h) λu s1 ⟨x,H1,I1,rx,q1⟩=>thn (hv pins s1 U H1 _ I1 q1) λw2 s2 ⟨y,H2,I2,ry,q2⟩ =>thn (hr pins s2 U H2 _ I2 q2) λws s3 ⟨ps,H3,I3,rel,q3⟩=>⟨(x,y)::ps,H3,I3,.cons ⟨rx,ry⟩ rel,q3⟩)
noncomputable def Ec(kvs more:List (Key×V)):List (Key×V):=more.foldl (λacc kv=>putK acc kv.1 kv.2) kvs
theorem KV.merge:∀{more:List (Key×V)}{rs:List (Key×Value)}{kvs:List (Key×V)}{vs:List (Key×Value)},KV more rs->KV kvs vs->KV (Ec kvs more) (merged vs rs):=by
 intro more rs kvs vs r;unfold KV at r
 induction r generalizing kvs vs with
 |nil=>intro q;exact q
 |@cons p q ps qs h t ih =>
  intro r0;have e:KV (putK kvs p.1 p.2) (stored vs q.1 q.2):=by have:=r0.put p.1 h.2;rw[<- h.1];exact this
  exact ih e
theorem Ee:∀(more kvs:List (Key×V)),(Ec kvs more).length<=kvs.length+more.length
 | [],kvs=>by show kvs.length<=kvs.length+0;lia
 |p::r,kvs=>by have h1:=Ee r (putK kvs p.1 p.2);have h2:=DU kvs p.1 p.2;show(Ec (putK kvs p.1 p.2) r).length<=_;rw[aX];lia
theorem Ha{P:Program}{w:World}:∀{kvs:List (Key×V)}{ws:List (Value×Value)},VV (kvs.map λkv=>(kV kv.1,kv.2)) ws->∃rs,Carries (A0 P w) ws rs/\KV kvs rs
 | [],_,r=>by rw[cn]at r;cases r;exact⟨[],True.intro,.nil⟩
 |p::kvs,_,r=>by rw[aj]at r;cases r with|@cons a b as bs h t =>obtain⟨rs,c,q⟩:=Ha (P:=P) (w:=w) t;obtain⟨b1,b2⟩:=b;exact⟨(p.1,b2)::rs,⟨JY h.1,rfl,c⟩,.cons ⟨rfl,h.2⟩ q⟩
def Zk(trs:List (TE×TE)):TE:=λU H Q=>∀p,H p=none->ME trs U (upd H p (.l [])) λps H2=>H2 p=some (.l [])/\∃kvs:List (Key×V),ps=kvs.map (λkv=>(kV kv.1,kv.2))/\kvs.length<=15/\Q (.ref p) (upd H2 p (.l (Ec [] kvs)))
theorem SJ{X:Cx}{pos:Pos}{keys:List (Option Expr)}{values:List Expr}{trs:List (TE×TE)}(h:PPs X pos keys values trs)(hall:keys.all (·.isSome)=true)(hl:keys.length=values.length)(h0:keys≠[])
  (h15:keys.length<=15):PE X (.Dict keys values pos) (Zk trs):=by
 intro pins s U H Q I q;have hn:=I.z9.fresh (aJ s.heap.objs.size);have I1:=I.laid (a:=s.heap.objs.size) (o:=.l []) (h':=s.heap.push {cls:=.type "dict",data:=.dict #[]}) (t':=s.toks) (λ_ _ q=>af _ q) (aJ _) (K9 s.heap I.big);refine wpAny_Dict_walk (knd:=A0 X.prog X.w) hall hl h0 h15 (thn (h pins _ U _ _ I1 (q _ hn)) λws s2 hpt=>?_);obtain⟨ps,H2,I2,rel,e,kvs,ep,lk,q2⟩:= hpt;subst ep;obtain⟨rs,c,rk⟩:=Ha (P:=X.prog) (w:=X.w) rel;obtain⟨z,hd,vs0,r0,dd⟩:=XJ I2.z9 e;cases r0;refine⟨rs,c,dd,λh' dd' hs=>⟨.ref s.heap.objs.size,_,?_,rfl,q2⟩⟩;have hz:(Ec [] kvs).length<=sizeLine:=by have h1:=Ee kvs [];rw[List.length_nil]at h1;rw[sizeLine_eq];lia
 have he:∃q,h'.get? s.heap.objs.size=some q:=let⟨q,_,_,hq,_⟩:=dd';⟨q,hq⟩;exact Ke I2 (by rw[e];exact True.intro) hs he (Oe hz hd (rk.merge .nil) dd')
section
variable{X:Cx}{pins:List (Addr×Obj)}{U:St}{H:Hp}{s:Shared}{a:Addr}{y d:V}{u r:Value}{o:Option V}{A:Around}{E:Value->Shared->Prop}
end
section
variable{X:Cx}{o e f:Expr}{apos cpos:Pos}{td ty tx:TE}
end
section
variable{X:Cx}{pins:List (Addr×Obj)}{U:St}{H:Hp}{s:Shared}{a:Addr}{kvs:List (Key×V)}{A:Around}{E:Value->Shared->Prop}
theorem Qt{Q:Value->Shared->Prop}(I:Inv X pins U H s)(e:Rd H a (.l kvs))(h:∀p s',H p=none->Inv X pins U (upd H p (.l kvs)) s'->Q (.ref p) s'):wpAny (model X.prog X.w) A (call (.type "dict") [.ref a]) Q E s:=by
 obtain⟨z,hd,vs,rel,dd⟩:=IX I.z9 e;refine kt_call_dict hd dd (by rw[<- rel.length];exact z) λh' dd' hs=>?_
 refine h _ _ (I.z9.fresh (aJ _)) (I.laid (a:=s.heap.objs.size) (o:=.l kvs) (t':=s.toks) (λb q hq=>?_) (aJ _) (Oe z (beq_eq_false_iff_ne.mpr (Ne.symm (aS I.big))) rel dd'));exact(hs.2 b (aS (az hq))).trans (af _ hq)
end
section
variable{X:Cx}{pins:List (Addr×Obj)}{U:St}{H:Hp}{s:Shared}{a:Addr}{y:V}{u:Value}{A:Around}{E:Value->Shared->Prop}
end
end L2
namespace Att
open PySem PySem.W PySem.Calls PyProof.Rows
theorem FU{P:Params}{h:Heap}:∀(ns:List Int)(vs:List Value),WellAll P h vs (ns.map WData.int)->IntsAre vs ns:=by
 intro ns
 induction ns with|nil =>intro vs w;rw[cn]at w;cases w;exact .nil|cons n ns ih =>intro vs w;rw[aj]at w;cases w with|cons a b =>cases a;exact .cons _ _ (ih _ b)
theorem MI{l:OpenLaw}{n:Nat}(hn:l.most=some n){P:Params}{h:Heap}{args:List WData}{vals:List Value}
  (hpre:l.row.toRowW.claim.pre args=true) (hwl:WellAll P h vals args) :
  ∃a vs ns,vals=[Value.ref a]/\args=[WData.list (ns.map WData.int)]/\h.get? a=some {cls:=.type "list",data:=.seq vs.toArray}/\IntsAre vs ns/\ns.length<=n:=by
 have hsh:WShape.hasAll [] args [.list .int]=true:=(pre_splitW hpre).1;have hc:l.pre.holds [] {args:=args}=true:=(pre_splitW hpre).2;obtain⟨d,r,rfl,h1,h2⟩:=hasAllW_cons hsh;obtain rfl:=hasAllW_nil h2;obtain⟨xs,rfl,h3⟩:=hasW_list h1;obtain⟨ns,rfl⟩:=items_int h3;have hlen:ns.length<=n:=by
  unfold OpenLaw.pre at hc;have h4:(WTm.not (.lt (.lit (.int (n:Int))) (.len (.arg 0)))).holds [] {args:=[.list (ns.map .int)]}=true:=by have h4:=(holds_andW hc).1;rw[hn]at h4;exact h4
  have h5:=condW_of h4 (w_not (w_lt w_lit (w_len_list (w_arg rfl))));rw[ar]at h5;refine Nat.le_of_not_lt λq=>?_
  have q':(n:Int)<((ns.length:Nat):Int):=by lia
  first
   |(rw[aV q']at h5;exact absurd h5 (by decide))
   |(simp at h5;lia)
 cases hwl with|cons w1 w2 =>cases w2;cases w1 with|list ho hall=>exact⟨_,_,ns,rfl,rfl,ho,FU ns _ hall,hlen⟩
theorem MW(l:OpenLaw)(args:List WData):l.row.toRowW.claim.post args (.bool true) args=true :=
 postW_of (r:=l.row.toRowW) (X:=(true==true))
  (show WShape.has [] (.bool true) .bool=true by first|rfl|decide|simp[WShape.has,WShape.arms,WShape.armsAll])
  (show(WTm.eq .res (.lit (.bool true))).value [] {args:=args,res:=some (.bool true),after:=args}=some (.bool (true==true))from w_eq_bool (w_res rfl) w_lit) rfl
section
variable{prog:Program}{w:World}{A:Around}{E:Value->Shared->Prop}{s:Shared}{K:Frag}
end
end Att
namespace L2
open PySem PySem.Spec PyProof.Rows
theorem Ib:∀{vs:List Value}{ns:List Int},IntsAre vs ns->Vals (ns.map V.int) vs
 |_,_,.nil=>.nil
 |_,_,.cons n t h=>.cons ⟨t,rfl⟩ (Ib h)
def Ye(H:Hp):Prop:=∀b,H b=none\/∃o xs,H b=some (.frz o (.lst xs))
theorem PB{P:Program}{w:World}{K:Fg}{mg mb:Str->Option Value}{CX:CXT}{k:Nat}{fa a:Addr}{fd:FuncData}{x:Str}{sp:Sp}{s₁:Shared}{vs:List Value}{ns:List Int}
  (KX:K.In s₁.heap) (hns:s₁.heap.Ns mainGlobals mg) (hb:s₁.heap.Ns builtinsNs mb) (hbb:∀x:Str,x≠"__name__"->mb x=bootBuiltins x) (hlim:s₁.heap.NoLimit) (hg:s₁.gens=#[])
  (ha:s₁.heap.get? a=some {cls:=.type "list",data:=.seq vs.toArray}) (hi:IntsAre vs ns) (hl:ns.length<=sizeLine) (hr:DA k callerA)
  (F:∀base:Heap,K.In base->base.Ns mainGlobals mg->DS P w K mg base CX k fa fd [x] sp) (hbind:∀(s:Shared)(u:Value),BindsTo s fd ⟨[u],[]⟩ [(x,u)])
  (hsp:∀H:Hp,Ye H->SqL K H a (ns.map V.int)->sp [.ref a] H (λv _=>v=.o true) λ_ _ _=>False)
  (hCX:∀H e s',CX [] H s₁ (λ_ _ _=>False) e s'->False) :
  codeAny (model P w) callerA (.call (.ref fa) ⟨[.ref a],[]⟩) (λr s'=>r=.ok (.ret (.bool true))/\OldK s₁.heap s'.heap/\s'.os=s₁.os/\AllBare s'.gens) s₁:=by
 have rv:=Ib hi;have lenV:=hi.length;have core:∀H:Hp,Ye H->SqL K H a (ns.map V.int)->HOk P w H s₁.heap->(∀b,H b≠none->b=a)->(H a≠none->K.lookup a=none) ->
   codeAny (model P w) callerA (.call (.ref fa) ⟨[.ref a],[]⟩) (λr s'=>r=.ok (.ret (.bool true))/\OldK s₁.heap s'.heap/\s'.os=s₁.os/\AllBare s'.gens) s₁:=by
  intro H hO hS z9 hA hK;have base_of:∀{b:Addr}{o:Obj},s₁.heap.get? b=some o->H b=none->(PQ s₁.heap H).get? b=some o:=λe n=>PN e n
  have noA:∀{b:Addr}{o:Obj}{es:Array DictEntry}{ep:Nat},s₁.heap.get? b=some o->o.data=.dict es ep->H b=none:=λ{b o es ep} e d=>by cases q:H b with|none=>rfl|some u =>have e':b=a:=hA b (by rw[q];simp);subst e';rw[ha]at e;cases e;have d':Data.seq vs.toArray _=Data.dict es ep:=d;cases d'
  have nsK:∀{b:Addr}{m:Str->Option Value},s₁.heap.Ns b m->(PQ s₁.heap H).Ns b m:=λ{b m} ⟨o,es,ep,e,d,r⟩=>⟨o,es,ep,base_of e (noA e d),d,r⟩
  have hKb:K.In (PQ s₁.heap H):=λb o e=>base_of (KX b o e) (by cases q:H b with|none=>rfl|some u =>have e':b=a:=hA b (by rw[q];simp);subst e';rw[hK (by rw[q];simp)]at e;cases e)
  have hM:Mod K mg (PQ s₁.heap H):=⟨hKb,nsK hns,⟨mb,nsK hb,hbb⟩,let⟨mc,h1,h2⟩:=hlim;⟨mc,nsK h1,h2⟩⟩
  have e0:UG P w K mg (PQ s₁.heap H) callerA [] s₁ H:=⟨rfl,hM,λb o e=>S6 e,Nat.le_of_eq (NK _ _),trivial,λb hb=>absurd (show b∈([]:List Addr)from hb) (by simp),z9,.of_eq hg⟩
  refine codeAny_mono ((F _ hKb (nsK hns)).run callerA [] s₁ H ⟨[.ref a],[]⟩ [.ref a] [.ref a] _ _ hr e0 (hbind s₁ (.ref a)) (.cons rfl .nil) (hsp H hO hS)) λr s' h=>?_
  cases r with
  |error e=>exact(hCX H e s' h).elim
  |ok fl =>
   cases fl with
   |next=>exact False.elim h
   |brk=>exact False.elim h
   |cont=>exact False.elim h
   |ret u =>
    obtain⟨v,H',os,bare,un,hok',r',q⟩:=h;have q':v=.o true:=q;subst q';obtain rfl:u=Value.bool true:=r';refine⟨rfl,OldK.of_keep λb o e=>?_,os,bare⟩;cases q:H b with
    |none=>exact un.keep b o e q (by intro z;exact absurd (show b∈([]:List Addr)from z) (by simp)) (by simp)
    |some u =>
     rcases hO b with z|⟨ob,xs,z⟩
     .rw[q]at z;cases z
     .have z2:=un.zX b ob _ z;obtain⟨e1,_⟩:=z9 b _ z;obtain⟨e2,_⟩:=hok' b _ z2;rw[e]at e1;cases e1;exact e2
 cases hk:K.lookup a with
 |some o =>have e:=KX a o hk;rw[ha]at e;cases e;refine core (λ_=>none) (λ_=>.inl rfl) (.inr ⟨_,vs.toArray,_,hk,rfl,rfl,rfl,by rw[ax,lenV];exact hl,by simpa using rv⟩) (λb u z=>by have z':(none:Option HO)=some u:=z;cases z') (λb z=>absurd rfl z) λz=>absurd rfl z
 |none =>
  refine core (λb=>if b=a then some (.frz {cls:=.type "list",data:=.seq vs.toArray} (.lst (ns.map V.int)))else none) (λb=>?_) (.inl (.inr ⟨{cls:=.type "list",data:=.seq vs.toArray},if_pos rfl⟩)) (λb u z=>?_) (λb z=>?_) λ_=>hk
  .by_cases hb:b=a
   .exact .inr ⟨_,_,if_pos hb⟩
   .exact .inl (if_neg hb)
  .by_cases hb:b=a
   .have z':=(if_pos hb).symm.trans z;cases z';subst hb;exact⟨ha,by rw[ar];exact hl,vs,_,rv,ha⟩
   .have z':=(if_neg hb).symm.trans z;cases z'
  .by_cases hb:b=a
   .exact hb
   .exact absurd (if_neg hb) z
noncomputable def inClass(s:Stmt)(j:Nat):Stmt:=match s with|.ClassDef _ _ _ body _ _ _ _ _ _ _=>body.getD j (.Pass ⟨0,0,0,0⟩)|_=>.Pass ⟨0,0,0,0⟩
noncomputable def F0(s:Stmt):Arguments:=match s with|.FunctionDef _ a _ _ _ _ _ _ _ _=>a|_=>{posonlyargs:=[],args:=[],vararg:=none,kwonlyargs:=[],kw_defaults:=[],kwarg:=none,defaults:=[]}
noncomputable def DX(s:Stmt):List Stmt:=match s with|.FunctionDef _ _ b _ _ _ _ _ _ _=>b|_=>[]
noncomputable def Bk(s:Stmt):Scope:=match s with|.FunctionDef _ _ _ _ _ _ sc _ _ _=>sc|_=>{kind:=.function,names:=[],isGenerator:=false,isCoroutine:=false}
abbrev E0:XK:=λ_ _ _=>False
structure Fun(K:Fg)(x qual:Str)(st:Stmt)(f:Addr)(fd:FuncData):Prop where
 ex:∃(oc:Value)(od:Option Addr)(kV doc pm:Value)(an:Option Addr)(cdv ct:Value)(osl:Array (Option Value)),
  fd=fnOf x qual (F0 st) (DX st) (Bk st) .none kV doc pm an cdv ct/\K.lookup f=some ⟨oc,od,.func fd,osl⟩/\codeIn K cdv qual=true
 kp:keepIn K (.ref f)=true
section
variable{P:Program}{w:World}{K:Fg}{mg:Str->Option Value}{base:Heap}
theorem Fun.binds{x qual:Str}{st:Stmt}{f:Addr}{fd:FuncData}{ps:List Str}(F:Fun K x qual st f fd)
  (h:∀(kV doc pm:Value)(an:Option Addr)(cdv ct:Value)(us:List Value),us.length=ps.length->bindArgs (fnOf x qual (F0 st) (DX st) (Bk st) .none kV doc pm an cdv ct) ⟨us,[]⟩=pure (ps.zip us)):Binds K fd ps []:=by
 obtain⟨oc,od,kV,doc,pm,an,cdv,ct,osl,rfl,lk,hcd⟩:=F.ex;exact .all (h kV doc pm an cdv ct)
theorem Ax{x qual:Str}{st:Stmt}{f:Addr}{oc:Value}{od an:Option Addr}{osl:Array (Option Value)}{kV doc pm cdv ct:Value}(l:K.lookup f=some ⟨oc,od,.func (fnOf x qual (F0 st) (DX st) (Bk st) .none kV doc pm an cdv ct),osl⟩)
  (c:codeIn K cdv qual=true) (k:keepIn K (.ref f)=true):Fun K x qual st f (fnOf x qual (F0 st) (DX st) (Bk st) .none kV doc pm an cdv ct):=⟨⟨oc,od,kV,doc,pm,an,cdv,ct,osl,rfl,l,c⟩,k⟩
end
theorem WL{A:Around}{k:Nat}(hr:DA k A):A.units+1<cLine:=Nat.lt_of_le_of_lt (Nat.add_le_add_left (by decide:1<=64) _) hr.units
section
variable{X:Cx}
theorem pv(i:Nat){x:Str}{pos:Pos}(hN:X.N[i]?=some x:=by rfl)(hv:Vis X.env.scope x:=by first|exact Or.inl rfl|exact Or.inr (Or.inl rfl)|exact Or.inr (Or.inr rfl))(hd:(x==("__debug__":Str))=false:=by decide)
  (hcd:(x==("__classdict__":Str))=false:=by decide):PE X (.Name x pos) (OE i):=VR hN hv hd hcd
end
section
variable{κ:Type}[DecidableEq κ]
end
theorem DY{env:Env}:∀(l:List (Str×NameKind))(cs:List (Str×Addr)),(∀y∈l,y.2=.free->∃c,env.cells.lookup y.1=some c)->(∀n c,cs.lookup n=some c->env.cells.lookup n=some c) ->
  ∃cl,(forIn l cs λ(x:Str×NameKind)(r:List (Str×Addr))=>match x with|(name,kind)=>if(kind==NameKind.free)=true then do let c <- cellOf env name;pure (ForInStep.yield ((name,c)::r))else pure (ForInStep.yield r))=(pure cl:Sem _) /\
   (∀n c,cl.lookup n=some c->env.cells.lookup n=some c)/\(∀y∈l,y.2=.free->∃c,cl.lookup y.1=some c)/\(∀n c,cs.lookup n=some c->∃c',cl.lookup n=some c')
 | [],cs,_,h2=>⟨cs,rfl,h2,(λ_ h=>nomatch h),λn c h=>⟨c,h⟩⟩
 |(n,k)::r,cs,h1,h2=>by
  by_cases e:k=.free
  .subst e;obtain⟨c,hc⟩:=h1 (n,.free) aN rfl;have e1:cellOf env n=(pure c:Sem _):=by unfold cellOf;rw[hc]
   have h3:∀n' c',((n,c)::cs).lookup n'=some c'->env.cells.lookup n'=some c':=λn' c' q=>by rw[br]at q;cases hb:n'==n with|true=>rw[hb]at q;cases q;rw[beq_iff_eq.mp hb];exact hc|false=>rw[hb]at q;exact h2 _ _ q
   obtain⟨cl,q1,q2,q3,q4⟩:=DY r ((n,c)::cs) (λy hy=>h1 y (ao _ hy)) h3;have hself:∃c',cl.lookup n=some c':=q4 n c (by simp);refine⟨cl,?_,q2,λy hy hf=>?_,λn' c' q=>?_⟩
   .rw[bX];simp only[beq_self_eq_true,if_true,e1,pure_bind];exact q1
   .rcases aH.mp hy with rfl|hy
    .exact hself
    .exact q3 y hy hf
   .by_cases hb:n'=n
    .subst hb;exact hself
    .exact q4 n' c' (by rw[br,beq_eq_false_iff_ne.mpr hb];exact q)
  .obtain⟨cl,q1,q2,q3,q4⟩:=DY r cs (λy hy=>h1 y (ao _ hy)) h2;refine⟨cl,?_,q2,λy hy hf=>?_,q4⟩
   .rw[bX];have hb:(k==NameKind.free)=false:=by simpa using e
    simp only[hb,bC,if_false,pure_bind];exact q1
   .rcases aH.mp hy with rfl|hy
    .exact absurd hf e
    .exact q3 y hy hf
theorem Ep{sc:Scope}{env:Env}(h:∀y∈sc.names,y.2=.free->∃c,env.cells.lookup y.1=some c) :
  ∃cl,closureFor sc env=pure cl/\(∀n c,cl.lookup n=some c->env.cells.lookup n=some c)/\(∀y∈sc.names,y.2=.free->∃c,cl.lookup y.1=some c):=by
 obtain⟨cl,q1,q2,q3,_⟩:=DY (env:=env) sc.names [] h (λn c q=>by simp at q);refine⟨cl,?_,q2,q3⟩;unfold closureFor;simp only[bind_pure];refine Eq.trans ?_ q1;congr 1
section
variable{prog:Program}{w:World}{A:Around}{R:Result->Shared->Prop}{s:Shared}
theorem Jc{elt target iter:Expr}{ifs:List Expr}{scope:Scope}{pos:Pos}{it acc:Value}{env:Env}(I:Nat->Shared->Prop)
  (turn:∀n s,I n s->wpAny (model prog w) A (pyNext it) (λr s₁=>match r with
   |none=>R (.ok .next) s₁
   |some v=>wpAny (model prog w) A (letOwnedTupleGo target it v) (λ_ s₁=>wpAny (model prog w) A (assign target env v) (λ_ s₂ =>
     wpAny (model prog w) A (forIn ifs true λc r=>if r=true then do let ok <- isTrue c env (eval c env);pure (ForInStep.yield ok)else pure (ForInStep.yield r)) (λok s₃ =>
      if ok=true then wpAny (model prog w) A (eval elt env) (λx s₄ =>wpAny (model prog w) A (call (.builtin "list.append") [acc,x]) (λ_ s₅=>∃m,m<n/\I m s₅) (λ_ _=>False) s₄) (λ_ _=>False) s₃
      else ∃m,m<n/\I m s₃) (λ_ _=>False) s₂) (λ_ _=>False) s₁) (λ_ _=>False) s₁) (λ_ _=>False) s)
  (n:Nat) (h:I n s) :
  codeAny (model prog w) A (.compLoop (.ListComp elt [⟨target,iter,ifs,0⟩] scope pos) 0 it acc env) R s:=by
 refine codeAny_loop rfl I (λn s hI=>?_) n h;show wpAny _ A ((compTurn (.ListComp elt [⟨target,iter,ifs,0⟩] scope pos) 0 it acc env).onRaise (λx=>do noteFrame x env;theTreesLotGoes x)) _ _ s;refine wpAny_noted ?_;rw[compTurn_list];refine aa (wpAny_standAt (aa (wpAny_mono (turn n s hI) (λr s₁ h₁=>?_) λ_ _ h'=>h'.elim)));cases r with|none=>exact au h₁|some v =>refine aa (wpAny_mono h₁ (λ_ s₁' h₁'=>?_) λ_ _ h'=>h'.elim);refine aa (wpAny_mono h₁' (λ_ s₂ h₂=>aa (wpAny_mono h₂ (λok s₃ h₃=>?_) λ_ _ h'=>h'.elim)) λ_ _ h'=>h'.elim);cases ok with|false=>exact au ⟨rfl,h₃⟩|true =>exact aa (aa (wpAny_mono h₃ (λx s₄ h₄=>aa (wpAny_mono h₄ (λ_ s₅ h₅=>au (au ⟨rfl,h₅⟩)) λ_ _ h'=>h'.elim)) λ_ _ h'=>h'.elim))
end
structure Ls(fn sc:Scope):Prop where
 kind:sc.kind=.function
 zc:∀y∈sc.names,y.2≠.cell
 loc:∀y∈sc.names,y.2=.local->sc.names.lookup y.1=some .local
 fr:∀y∈sc.names,y.2=.free->fn.names.lookup y.1=some .cell\/fn.names.lookup y.1=some .free
noncomputable def GY(fn sc:Scope):Bool :=
 decide (sc.kind=.function)&&sc.names.all λy=>decide (y.2≠.cell)&&(decide (y.2≠.local)||decide (sc.names.lookup y.1=some .local)) &&
  (decide (y.2≠.free)||decide (fn.names.lookup y.1=some .cell)||decide (fn.names.lookup y.1=some .free))
theorem Jb{fn sc:Scope}(h:GY fn sc=true):Ls fn sc:=by
 unfold GY at h;rw[aL,bx]at h;obtain⟨h1,h2⟩:=h;refine⟨aO h1,λy hy=>?_,λy hy e=>?_,λy hy e=>?_⟩
 all_goals
  have q:=h2 y hy;rw[aL,aL]at q;obtain⟨⟨q1,q2⟩,q3⟩:=q
 .exact aO q1
 .rw[bY]at q2;rcases q2 with q|q
  .exact absurd e (aO q)
  .exact aO q
 .rw[bY,bY]at q3;rcases q3 with(q|q)|q
  .exact absurd e (aO q)
  .exact .inl (aO q)
  .exact .inr (aO q)
theorem CS{env:Env}{x:Str}{k':NameKind}:∀{names:List (Str×NameKind)},
  (names.map λ(n,k)=>if(k==NameKind.free&&env.scope.kind==.function&&env.kindOf n==some .cell)then(n,NameKind.cell)else(n,k)).lookup x=some k'->∃k,names.lookup x=some k/\(k'=k\/(k=.free/\k'=.cell))
 | [],h=>by simp at h
 |(n,k)::r,h=>by
  have h:List.lookup x ((if(k==NameKind.free&&env.scope.kind==.function&&env.kindOf n==some .cell)=true then(n,NameKind.cell)else(n,k))::_)=some k':=h;cases hx:x==n with
  |true =>
   refine⟨k,by simp[br,hx],?_⟩;by_cases hc:(k==NameKind.free&&env.scope.kind==.function&&env.kindOf n==some .cell)=true
   .rw[if_pos hc]at h;simp only[br,hx]at h;cases h;rw[aL,aL]at hc;exact .inr ⟨beq_iff_eq.mp hc.1.1,rfl⟩
   .rw[if_neg hc]at h;simp only[br,hx]at h;cases h;exact .inl rfl
  |false =>
   have h':List.lookup x (r.map λ(n,k)=>if(k==NameKind.free&&env.scope.kind==.function&&env.kindOf n==some .cell)then(n,NameKind.cell)else(n,k))=some k':=by
    by_cases hc:(k==NameKind.free&&env.scope.kind==.function&&env.kindOf n==some .cell)=true
    .rw[if_pos hc]at h;simpa only[br,hx]using h
    .rw[if_neg hc]at h;simpa only[br,hx]using h
   obtain⟨k0,e1,e2⟩:=CS h';exact⟨k0,by simp only[br,hx];exact e1,e2⟩
noncomputable def BP(X:Cx)(N:List Str)(sc:Scope)(cl:List (Str×Addr))(C:Addr)(s:Shared)(H:Hp)(ex:List Addr):Cx :=
 {X with N:=N,zZ:=s,zu:=H,env:=compEnvC sc cl C X.env,outer:=X.stack,stack:=X.stack,ex:=ex,fn:=λ_=>false,xe:=λ_ _=>False}
noncomputable def EI(XN:List Str)(sc:Scope):List Str->List (Option Nat)->Bool
 | [],[]=>true
 |n::r,none::q=>EI XN sc r q
 |n::r,some i::q=>decide (XN[i]?=some n)&&decide (sc.names.lookup n=some .free)&&EI XN sc r q
 |_,_=>false
noncomputable def E2(U:St)(src:List (Option Nat)):St:=src.map λo=>o.bind λi=>(U[i]?).join
theorem F9{XN:List Str}{sc:Scope}:∀{N:List Str}{src:List (Option Nat)},EI XN sc N src=true->src.length=N.length
 | [],[],_=>rfl
 |_::r,none::q,h=>by rw[aX,aX,F9 (N:=r) (src:=q) h]
 |_::r,some i::q,h=>by unfold EI at h;rw[aL]at h;rw[aX,aX,F9 (N:=r) (src:=q) h.2]
 | [],_::_,h=>by cases h
 |_::_,[],h=>by cases h
theorem Jd{XN:List Str}{sc:Scope}:∀{N:List Str}{src:List (Option Nat)}{j i:Nat}{n:Str},EI XN sc N src=true->N[j]?=some n->src[j]?=some (some i)->XN[i]?=some n/\sc.names.lookup n=some .free
 | [],_,j,i,n,_,h1,_=>by simp at h1
 |_::_,[],j,i,n,_,_,h2=>by simp at h2
 |n0::r,o::q,0,i,n,h,h1,h2=>by simp at h1 h2;subst h1;subst h2;unfold EI at h;rw[aL,aL]at h;exact⟨aO h.1.1,aO h.1.2⟩
 |n0::r,o::q,j+1,i,n,h,h1,h2=>by refine Jd (N:=r) (src:=q) (j:=j) ?_ (by simpa using h1) (by simpa using h2);cases o with|none=>exact h|some k =>unfold EI at h;rw[aL]at h;exact h.2
section
variable{X:Cx}{pins:List (Addr×Obj)}{U:St}{H:Hp}{s:Shared}{fp:List Addr}{N:List Str}{sc:Scope}{cl:List (Str×Addr)}{C:Addr}{src:List (Option Nat)}
theorem X0(I:Inv X pins U H s)(hf:∀b∈fp,Jt X pins H b)(hfs:∀b∈fp,b<s.heap.objs.size)(hS:Ls X.env.scope sc)(hC:s.heap.objs.size<=C)
  (hc1:∀n c,cl.lookup n=some c->X.env.cells.lookup n=some c) (hc2:∀y∈sc.names,y.2=.free->∃c,cl.lookup y.1=some c):(BP X N sc cl C s H fp).Ok where
 mod:=I.ok.mod
 kind:=hS.kind
 glob:=I.ok.glob
 blt:=I.ok.blt
 above:=hC
 inj:=λx y c h1 h2=>I.ok.inj x y c (hc1 _ _ h1) (hc1 _ _ h2)
 has:=λx hx=>by
  have free:∀k',(k'=NameKind.cell\/k'=NameKind.free)->(relabel sc X.env).names.lookup x=some k'->∃c,cl.lookup x=some c:=λk' hk e=>by
   obtain⟨k,e1,e2⟩:=CS (env:=X.env) e;have hm:=PySem.mem_of_lookup e1;have hk2:k=.free:=by
    rcases e2 with e2|⟨e2,_⟩
    .subst e2;rcases hk with hk|hk
     .exact absurd hk (hS.zc _ hm)
     .exact hk
    .exact e2
   exact hc2 _ hm hk2
  rcases hx with hx|hx
  .exact free _ (.inl rfl) hx
  .exact free _ (.inr rfl) hx
 zh:=λx c h _=>absurd (show false=true from h) aQ
 hd:=I.ok.hd
 frames:=I.ok.frames
 y1:=.inl rfl
 yX:=λb hb=>⟨aS (aE (hfs b hb) hC),λx c e=>(hf b hb).2.2.2.2.1 x c (hc1 x c e)⟩
 bs:=I.bs
 zA:=aR I.ok.zA I.sz
 zx:=λb o e hb=>by
  rcases(hf b hb).2.2.2.1 with z|z
  .exact I.ok.zx b o e z
  .exact absurd (aE (az e) (aR I.ok.zA z)) (bA _)
 zy:=λb hb hz=>by
  rcases aH.mp (I.Ih b hz)with z|z
  .exact(hf b hb).2.1 z
  .exact(hf b hb).2.2.1 z
 K0:=I.stack
 zo:=I.Jz
theorem UB{D:Addr}{h':Heap}{tk:Nat}{m:Str->Option Value}(I:Inv X pins U H s)(hf:∀b∈fp,Jt X pins H b)(hfs:∀b∈fp,b<s.heap.objs.size)(hS:Ls X.env.scope sc)
  (hc1:∀n c,cl.lookup n=some c->X.env.cells.lookup n=some c) (hc2:∀y∈sc.names,y.2=.free->∃c,cl.lookup y.1=some c) (hcap:EI X.N sc N src=true)
  (hD:s.heap.objs.size<=D) (hC:s.heap.objs.size<=C) (hDC:D≠C) (hk:∀b o,s.heap.get? b=some o->h'.get? b=some o) (hn:h'.Ns C m) (hl:h'.get? D=some {cls:=.type "list",data:=.seq (#[]:Array Value)}) :
  Inv (BP X N sc cl C s H fp) pins (E2 U src) (upd H D (.lst [])) {s with heap:=h',toks:=tk}:=by
 have fD:H D=none:=I.z9.fresh hD;have fC:H C=none:=I.z9.fresh hC;have old:∀{b:Addr}{o:Obj},s.heap.get? b=some o->b≠D/\b≠C:=λ{b o} e=>⟨aS (aE (az e) hD),aS (aE (az e) hC)⟩
 refine⟨X0 I hf hfs hS hC hc1 hc2,rfl,I.bare,Un.laid hk hD fD,⟨m,hn,λj x v e1 e2 e3=>?_⟩,λx c e=>?_,?_,λx c e=>?_,λp hp=>?_,I.z9.laid hk hD ⟨Nat.zero_le _,[],0,.nil,hl⟩,?_⟩
 .unfold E2 at e2;rw[aP]at e2;cases q:src[j]? with
  |none=>rw[q]at e2;cases e2
  |some o =>
   rw[q]at e2;cases o with
   |none=>cases e2
   |some i =>
    have e2':(U[i]?).join=some v:=Option.some.inj e2;have e4:U[i]?=some (some v):=by cases r:U[i]? with|none=>rw[r]at e2';cases e2'|some u=>rw[r]at e2';cases u with|none=>cases e2'|some u=>have e5:some u=some v:=e2';cases e5;rfl
    obtain⟨g1,g2⟩:=Jd hcap e1 q;obtain⟨m0,_,hl0⟩:=I.loc;have hfr:=hS.fr _ (PySem.mem_of_lookup g2) rfl;obtain⟨u,ru,lk⟩:=hl0 i x v g1 e4 (hfr.elim (λz=>.inr (.inl z)) λz=>.inr (.inr z));refine⟨u,ru,.inr ⟨?_,?_⟩⟩
    .rcases e3 with e3|e3|e3
     .obtain⟨k,r1,r2⟩:=CS (env:=X.env) (show(relabel sc X.env).names.lookup x=some .local from e3);rw[g2]at r1;cases r1;rcases r2 with r2|⟨_,r2⟩<;>cases r2
     .exact .inl e3
     .exact .inr e3
    .obtain⟨c,hc⟩:=hc2 _ (PySem.mem_of_lookup g2) rfl;refine⟨c,hc,?_⟩;rcases lk with⟨lk,_⟩|⟨_,c',hc',z⟩
     .rcases hfr with z|z
      .have z':X.env.kindOf x=some .cell:=z;rw[lk]at z';cases z'
      .have z':X.env.kindOf x=some .free:=z;rw[lk]at z';cases z'
     .have:=hc1 _ _ hc;rw[hc']at this;cases this;obtain⟨o,ho,hd⟩:=z;exact⟨o,hk _ _ ho,hd⟩
 .obtain⟨v,o,ho,hd⟩:=I.cell x c (hc1 x c e);exact⟨v,o,hk _ _ ho,hd⟩
 .show upd H D (.lst []) C=none;rw[Ai (Ne.symm hDC)];exact fC
 .obtain⟨v,o,ho,hd⟩:=I.cell x c (hc1 x c e);rw[Ai (old ho).1];exact I.zY x c (hc1 x c e)
 .obtain⟨p1,p2,p3,p4,p5⟩:=I.pin p hp;refine⟨hk _ _ p1,by rw[Ai (old p1).1];exact p2,(old p1).2,λz=>?_,p5⟩;rcases aH.mp (I.Ih _ z)with z|z
  .exact p3 z
  .exact p4 z
 .show(E2 U src).length=N.length;unfold E2;rw[ar];exact F9 hcap
end
def RQ(X:Cx)(ifs:List Expr)(t:TT):Prop :=
 ∀(pins:List (Addr×Obj))(s:Shared)(U:St)(H:Hp)(Q:Bool->Hp->Prop),Inv X pins U H s->t U H Q ->
  wpAny (model X.prog X.w) X.A (forIn ifs true λc r=>if r=true then do let ok <- isTrue c X.env (eval c X.env);pure (ForInStep.yield ok)else pure (ForInStep.yield r)) (TP X pins U Q) X.xe s
def Jbh:TT:=λ_ H Q=>Q true H
theorem O9{X:Cx}:RQ X [] Jbh:=λpins s U H Q I h=>au ⟨H,I,h⟩
theorem O8{X:Cx}{c:Expr}{t:TT}(h:PT X c t):RQ X [c] t:=by intro pins s U H Q I q;rw[bX];simp only[if_true];refine aa (aa (thn (h pins s U H Q I q) λb s1 q1=>au ?_));exact au q1
def XO(J:It)(g:TG)(tt:TT)(te:TE)(Q:VK)(τ0:St)(H1:Hp):Prop:=∀D,H1 D=none ->
 ∃W:Nat->Nat->St->Hp->Prop,(∃m,W 0 m τ0 (upd H1 D (.lst [])))/\∀i m τ H2,W i m τ H2 ->
  (J.stop i H2/\Q (.ref D) H2)\/(J.go i H2/\∃N:St->Hp->Prop,(∀τ' H',N τ' H'->∃m',m'<m/\W (i+1) m' τ' H')/\∀x H3,J.yW i H2 x H3->g x τ H3 λτ2 H4=>tt τ2 H4 λb H5 =>if b=true then te τ2 H5 λy H6=>∃ys,H6 D=some (.lst ys)/\ys.length<sizeLine/\N τ2 (upd H6 D (.lst (ys++[y])))else N τ2 H5)
def Sd(src:List (Option Nat))(wi:TI)(g:TG)(tt:TT)(te:TE):TE:=λU H Q=>wi U H λJ H1=>XO J g tt te Q (E2 U src) H1
section
variable{X:Cx}{tg iter elt:Expr}{ifs:List Expr}{sc:Scope}{pos:Pos}{N:List Str}{src:List (Option Nat)}{wi:TI}{g:TG}{tt:TT}{te:TE}
theorem Lb(hcalm:X.calm=true)(hS:Ls X.env.scope sc)(hcap:EI X.N sc N src=true)
  (hg:∀cl C s H fp,PG (BP X N sc cl C s H fp) tg g) (ht:∀cl C s H fp,RQ (BP X N sc cl C s H fp) ifs tt) (he:∀cl C s H fp,PE (BP X N sc cl C s H fp) elt te)
  {pins:List (Addr×Obj)} {s:Shared} {U:St} {H:Hp} {it:Addr} {fp:List Addr} {tn:Nat->Heap->Prop} {J:It} {cl:List (Str×Addr)} {Q:VK} {E:Value->Shared->Prop} {RR:Value->Addr->Result->Shared->Prop}
  (hc1:∀n c,cl.lookup n=some c->X.env.cells.lookup n=some c) (hc2:∀y∈sc.names,y.2=.free->∃c,cl.lookup y.1=some c)
  (I:Inv X pins U H s) (T:Turn X.prog X.w X.K tg J fp it tn) (t0:tn 0 s.heap) (hf:∀b∈fp,Jt X pins H b) (hw:XO J g tt te Q (E2 U src) H)
  (hR:∀(D C:Addr)(s':Shared)(τ:St)(H':Hp)(m:Str->Option Value),s.heap.objs.size<=C->s'.heap.Ns C m->Inv (BP X N sc cl C s H fp) pins τ H' s'->(∀b∈fp,H' b=none)->Q (.ref D) H'->RR (.ref D) C (.ok .next) s') :
  wpAny (model X.prog X.w) X.A (newList []) (λacc s₃=>wpAny (model X.prog X.w) X.A (newFunctionEnv sc X.env.globals cl [] X.env.qual none .none (some X.env)) (λcenv s₄ =>codeAny (model X.prog X.w) X.A (.compStart (.ListComp elt [⟨tg,iter,ifs,0⟩] sc pos) 0 (.ref it) acc {cenv with scope:=relabel sc X.env}) (RR acc cenv.locals) s₄) E s₃) E s:=by
 have hfs:∀b∈fp,b<s.heap.objs.size:=λb hb=>by obtain⟨o,e,_⟩:=T.obj 0 _ t0 b hb;exact az e
 refine wpAny_newObj_type (wpAny_newFunctionEnv hS.zc (by intro y hy;simp at hy) (λh₁ hns₁ hsb₁=>?_) hS.kind);dsimp only at hns₁ hsb₁ ⊢;generalize hH2:s.heap.push {cls:=.type "list",dict:=none,data:=.seq ([]:List Value).toArray}=H2 at hns₁ hsb₁ ⊢;have hC:H2.objs.size=s.heap.objs.size+1:=by rw[<- hH2,bF]
 have hDC:s.heap.objs.size≠H2.objs.size:=by rw[hC];exact aS (Nat.lt_succ_self _)
 have hCle:s.heap.objs.size<=H2.objs.size:=by rw[hC];exact Nat.le_succ _
 have old:∀b o,s.heap.get? b=some o->h₁.get? b=some o:=λb o e=>hsb₁.extBut b o (aS (aE (az e) hCle)) (af _ (hH2▸af _ e))
 have hacc:h₁.get? s.heap.objs.size=some {cls:=.type "list",data:=.seq (#[]:Array Value)}:=hsb₁.extBut _ _ hDC (af _ (hH2▸aD _ rfl));have fresh:H s.heap.objs.size=none:=I.z9.fresh (aJ _);obtain⟨W,⟨m0,w0⟩,turn⟩:=hw s.heap.objs.size fresh;have Y0:Inv (BP X N sc cl H2.objs.size s H fp) pins (E2 U src) (upd H s.heap.objs.size (.lst [])) {s with heap:=h₁,toks:=s.toks+([]:List (Str×Value)).length} :=
  UB I hf hfs hS hc1 hc2 hcap (aJ _) hCle hDC old hns₁ hacc
 have t1:tn 0 h₁:=T.keep 0 _ _ t0 λb _ o e=>old b o e
 have fp0:∀b∈fp,upd H s.heap.objs.size (.lst []) b=none:=λb hb=>by rw[Ai (aS (hfs b hb))];exact(hf b hb).1
 have stat:∀{H':Hp},(∀b∈fp,H' b=none)->∀b∈fp,Jt (BP X N sc cl H2.objs.size s H fp) pins H' b:=λ{H'} hn b hb =>⟨hn b hb,aS (aE (hfs b hb) hCle),Y0.ok.zy b hb,.inl hb,(Y0.ok.yX b hb).2,(hf b hb).2.2.2.2.2⟩
 have loop:∀s₃:Shared,s₃={s with heap:=h₁,toks:=s.toks+([]:List (Str×Value)).length} ->
   codeAny (model X.prog X.w) X.A (.compLoop (.ListComp elt [⟨tg,iter,ifs,0⟩] sc pos) 0 (.ref it) (.ref s.heap.objs.size) (compEnvC sc cl H2.objs.size X.env)) (RR (.ref s.heap.objs.size) H2.objs.size) s₃:=by
  rintro s₃ rfl
  refine Jc (λn s'=>∃i τ H',Inv (BP X N sc cl H2.objs.size s H fp) pins τ H' s'/\tn i s'.heap/\(∀b∈fp,H' b=none)/\W i n τ H') ?_ m0 ⟨0,_,_,Y0,t1,fp0,w0⟩
  rintro n s4 ⟨i,τ,H4,I4,t4,fr4,w4⟩
  rcases turn i n τ H4 w4 with⟨stop,qn⟩|⟨go,Nx,hNx,step⟩
  .refine thn (T.done (BP X N sc cl H2.objs.size s H fp) rfl rfl rfl hcalm i pins s4 τ H4 _ I4 (stat fr4) t4 stop) λr s5 ⟨hr,I5⟩=>?_
   subst hr;obtain⟨m5,hn5,_⟩:=I5.loc;exact hR _ _ s5 τ H4 m5 hCle hn5 I5 fr4 qn
  .refine thn (T.item (BP X N sc cl H2.objs.size s H fp) rfl rfl rfl hcalm i pins s4 τ H4 _ I4 (stat fr4) t4 go) λr s5 ⟨u,hr,h5⟩=>?_
   subst hr;refine thn h5 λ_ s6 hpt=>?_
   obtain⟨x,H6,I6,r6,y6,st6,fr6⟩:= hpt;have I6':=I6.pinned (stat fr6) (T.obj _ _ st6);have again:∀{τ7:St}{H7:Hp}{s7:Shared}{m':Nat},Inv (BP X N sc cl H2.objs.size s H fp) (pins++Iu fp s6.heap) τ7 H7 s7->m'<n->W (i+1) m' τ7 H7 ->
     ∃m,m<n/\∃i τ H',Inv (BP X N sc cl H2.objs.size s H fp) pins τ H' s7/\tn i s7.heap/\(∀b∈fp,H' b=none)/\W i m τ H':=λ{τ7 H7 s7 m'} I7 hm w7=>by
    refine⟨m',hm,i+1,τ7,H7,I7.E3,T.keep _ _ _ st6 λb hb o e=>(I7.pin (b,o) (aC _ (aC _ (DB hb e)))).1,λb hb=>?_,w7⟩;obtain⟨o,e,d⟩:=T.obj _ _ st6 b hb;exact(I7.pin (b,o) (aC _ (aC _ (DB hb e)))).2.1
   refine thn (hg cl H2.objs.size s H fp _ s6 τ H6 x u _ I6' r6 (step x H6 y6)) λ_ s7 hpt=>?_
   obtain⟨τ7,H7,I7,q7⟩:= hpt;refine thn (ht cl H2.objs.size s H fp _ s7 τ7 H7 _ I7 q7) λb s8 hpt=>?_
   obtain⟨H8,I8,q8⟩:= hpt;cases b with
   |false =>rw[if_neg aQ]at q8 ⊢;obtain⟨m',hm,w8⟩:=hNx _ _ q8;exact again I8 hm w8
   |true =>
    rw[if_pos rfl]at q8 ⊢;refine thn (he cl H2.objs.size s H fp _ s8 τ7 H8 _ I8 q8) λv s9 hpt=>?_
    obtain⟨y,H9,I9,r9,ys,hD9,hz,w9⟩:= hpt;obtain⟨m',hm,w9⟩:=hNx _ _ w9;refine thn (IH _ s9 τ7 H9 (.ref s.heap.objs.size) [y] (.ref s.heap.objs.size) [v] (λ_ Hn=>W (i+1) m' τ7 Hn) I9 rfl (.cons r9 .nil) ⟨_,ys,y,rfl,rfl,hD9,hz,w9⟩) λ_ s10 hpt=>?_
    obtain⟨_,H10,I10,_,w10⟩:= hpt;exact again I10 hm w10
 exact codeAny_compStart_list (loop _ rfl) (T.self X.A 0 _ _ _ t1 (loop _ rfl))
theorem Ow{pins:List (Addr×Obj)}{s s':Shared}{U τ:St}{H H':Hp}{fp:List Addr}{cl:List (Str×Addr)}{C:Addr}(I:Inv X pins U H s)(hf:∀b∈fp,Jt X pins H b)(J:Inv (BP X N sc cl C s H fp) pins τ H' s'):Inv X pins U H' s' :=
 I.XZ (ch:=fp) J.os J.base J.z9 J.bare λb hb=>⟨(hf b hb).2.2.2.1,(hf b hb).2.1,(hf b hb).2.2.2.2.1,(hf b hb).2.2.2.2.2⟩
theorem UA{pins:List (Addr×Obj)}{s s':Shared}{U τ:St}{H H':Hp}{fp:List Addr}{cl:List (Str×Addr)}{C:Addr}{h':Heap}(I:Inv X pins U H s)(hC:s.heap.objs.size<=C)(hf:∀b∈fp,Jt X pins H b)
  (J:Inv (BP X N sc cl C s H fp) pins τ H' s') (hs:Heap.SameBut C s'.heap h'):Inv X pins U H' {s' with heap:=h' }:=by
 have I':=Ow I hf J;refine I'.turned (it:=C) (t':=s'.toks) (λb o hb e=>hs.extBut b o hb e) J.free (cG (aE I.lt hC)) (.inr (aR I.sz hC)) (λx c e z=>?_) λp hp z=>?_
 .obtain⟨v,q⟩:=I.cell x c e;exact absurd (aE q.lt (by rw[z];exact hC)) (bA _)
 .exact absurd (aE (az (I.pin p hp).1) (by rw[z];exact hC)) (bA _)
theorem SM(N:List Str)(src:List (Option Nat))(hcalm:X.calm=true)(hi:PI X tg iter wi)(hg:∀cl C s H fp,PG (BP X N sc cl C s H fp) tg g)(ht:∀cl C s H fp,RQ (BP X N sc cl C s H fp) ifs tt)
  (he:∀cl C s H fp,PE (BP X N sc cl C s H fp) elt te) (hS:GY X.env.scope sc=true:=by rfl) (hcap:EI X.N sc N src=true:=by rfl)
  (hs:∀x,foldedSetIterable iter X.env x=pure x:=by intro _;rfl):PE X (.ListComp elt [⟨tg,iter,ifs,0⟩] sc pos) (Sd src wi g tt te):=by
 intro pins s U H Q I h;have S:=Jb hS;obtain⟨cl,hcl,hc1,hc2⟩:=Ep (sc:=sc) (env:=X.env) λy hy e=>I.ok.has y.1 (S.fr y hy e)
 rw[eval_ListComp];refine wpAny_comprehension_free (use:=none) rfl hs hcl S.kind S.loc (thn (hi pins s U H _ I h) λv s1 h1=>thn h1 λitv s2 h2=>?_);obtain⟨it,fp,tn,J,H2,e,I2,T,t2,f2,hw⟩:=h2;subst e;refine Lb hcalm S hcap hg ht he hc1 hc2 I2 T t2 f2 hw (RR:=λacc C=>compPost (model X.prog X.w) X.A X.xe none (EP X pins U Q) acc C) λD C s' τ H' m hC hn J' _ q=>?_
 exact⟨m,hn,λh' hsb=>⟨.ref D,H',UA I2 hC f2 J' hsb,rfl,q⟩⟩
theorem LJ{i:Nat}{y:Str}{pos' spos:Pos}(N:List Str)(src:List (Option Nat))(hcalm:X.calm=true)(hN:X.N.Nodup)(hiy:X.N[i]?=some y)(hy:Loc X.env.scope y)(hi:PI X tg iter wi)(hg:∀cl C s H fp,PG (BP X N sc cl C s H fp) tg g)(ht:∀cl C s H fp,RQ (BP X N sc cl C s H fp) ifs tt)
  (he:∀cl C s H fp,PE (BP X N sc cl C s H fp) elt te) (hS:GY X.env.scope sc=true:=by rfl) (hcap:EI X.N sc N src=true:=by rfl)
  (hs:∀x,foldedSetIterable iter X.env x=pure x:=by intro _;rfl) (hsw:swapsWith (.ListComp elt [⟨tg,iter,ifs,0⟩] sc pos) (some (.Name y pos')) spos.line X.env=pure true:=by rfl)
  (hf:X.fn y=true\/X.env.scope.names.lookup y=some .local:=by first|exact .inl rfl|exact .inr rfl|assumption) :
  PS X (.Assign [.Name y pos'] (.ListComp elt [⟨tg,iter,ifs,0⟩] sc pos) spos) (Vi (Sd src wi g tt te) (P9 i)):=by
 intro pins s U H D0 I h;have S:=Jb hS;obtain⟨cl,hcl,hc1,hc2⟩:=Ep (sc:=sc) (env:=X.env) λy hy e=>I.ok.has y.1 (S.fr y hy e)
 rw[exec_Assign_Name_used _ _ _ _ hsw];refine aa (wpAny_standAt (aa ?_));show wpAny _ X.A (do let _ <- comprehension (.ListComp elt [⟨tg,iter,ifs,0⟩] sc pos) sc X.env _ (newList []) false (eval iter X.env) (some (assign (.Name y pos') X.env))) _ _ s;refine aa (wpAny_mono (wpAny_comprehension_free (use:=some (assign (.Name y pos') X.env)) (Q:=λ_ s'=>SP X pins D0 .next s') rfl hs hcl S.kind S.loc
  (thn (hi pins s U H _ I h) λv s1 h1=>thn h1 λitv s2 h2=>?_)) (λ_ s' hq=>au (au hq)) λ_ _ e=>e)
 obtain⟨it,fp,tn,J,H2,e,I2,T,t2,f2,hw⟩:=h2;subst e;refine Lb hcalm S hcap hg ht he hc1 hc2 I2 T t2 f2 hw (RR:=λacc C=>compPost (model X.prog X.w) X.A X.xe (some (assign (.Name y pos') X.env)) (λ_ s'=>SP X pins D0 .next s') acc C) λD C s' τ H' m hC hn J' _ q=>?_
 show wpAny _ X.A (assign (.Name y pos') X.env (.ref D)) _ _ s';have I':=Ow I2 f2 J';have ltC:∀{b:Addr}{o:Obj},s2.heap.get? b=some o->b≠C:=λe=>aS (aE (az e) hC)
 have cC:∀x c,X.env.cells.lookup x=some c->c≠C:=λx c e=>by obtain⟨v,o,ho,_⟩:=I2.cell x c e;exact ltC ho
 have lC:X.env.locals≠C:=aS (aE I2.lt hC);refine wpAny_assign_Name (Ig I' hN hiy hy (v:=.ref D) rfl (λs3 I3 hpt=>?_) hf);obtain⟨a,sb,ha⟩:= hpt;have naC:C≠a:=by
  rcases ha with rfl|ha
  .exact Ne.symm lC
  .exact Ne.symm (cC _ _ ha)
 refine⟨m,hn.sameBut sb naC,λh' hs'=>⟨_,H',I3.turned (it:=C) (t':=s3.toks) (λb o hb e=>hs'.extBut b o hb e) J'.free (Ne.symm lC) (.inr (aR I2.sz hC)) cC (λp hp z=>ltC (I2.pin p hp).1 z),q⟩⟩
end
section
variable{K:Fg}{a:Addr}{xs:List V}{g:TG}{tt:TT}{te:TE}{Q:VK}{τ0:St}{H1:Hp}
end
end L2
namespace PySem
namespace F
end F
section
variable{prog:Program}{w:World}{A:Around}{s:Shared}{R:Result->Shared->Prop}
variable{I:Addr}{fp wr:List Addr}{G:Array GenState->Array GenState->Prop}{n:Nat}{P:Nat->Value->Prop}{St:Nat->Shared->Prop}
end
section
variable{prog:Program}{w:World}{A:Around}{E:Value->Shared->Prop}{s:Shared}
end
end PySem
namespace L2
open PySem PySem.Spec PyProof.Rows
section
variable{X:Cx}{pins:List (Addr×Obj)}{U:St}{H:Hp}{s:Shared}
end
section
variable{X:Cx}{a:Expr}{ta:TE}{p1 p2 pos1 pos2:Pos}
theorem QC(hc:X.calm=true):Co X (.builtin "sum") (λxs H Q=>∃(l:Addr)(ns:List Int),xs=[.ref l]/\SqL X.K H l (ns.map V.int)/\Q (.int ns.sum) H):=by
 intro pins s U H xs us Q I r h;obtain⟨l,ns,rfl,hq,q⟩:=h;obtain⟨u,rfl,rx⟩:=vals1 r;cases rx;obtain⟨its,rv,pl,hz⟩:=I.list hq;have hi:=intsAre_of rv;obtain⟨zs,hx⟩:=hi.allInts.items;have hl':s.heap.IsList l (intItems zs):=hx▸pl.isList;refine sum_intListG (I.ok.hd hc) hl' λh' tk t' hk=>?_
 have e1:ns=zs.toList.map (·.1):=by rw[<- nums_intItems,<- hx];exact(show numsOf its.toArray.toList=ns from hi.numsOf).symm
 have e2:preSum (numAt zs) zs.size=ns.sum:=by rw[preSum_eq,bU (by simp),e1]
 rw[e2];exact⟨.int ns.sum,H,I.kept hk,⟨_,rfl⟩,q⟩
theorem Cy:∀{bs:List Bool}{us:List Value},Vals (bs.map V.o) us->us=bs.map Value.bool
 | [],_,.nil=>rfl
 |b::bs,_,.cons r t=>by cases(show _=Value.bool b from r);rw[aj,Cy t]
theorem QE(hc:X.calm=true):Co X (.builtin "all") (λxs H Q=>∃(l:Addr)(bs:List Bool),xs=[.ref l]/\SqL X.K H l (bs.map V.o)/\Q (.o (bs.all id)) H):=by
 intro pins s U H xs us Q I r h;obtain⟨l,bs,rfl,hq,q⟩:=h;obtain⟨u,rfl,rx⟩:=vals1 r;cases rx;obtain⟨its,rv,pl,hz⟩:=I.list hq;have hb:=Cy rv;have hl:=pl.isList;have hlt:l<s.heap.objs.size:=by obtain⟨_,e,_⟩:=hl;exact az e
 refine call_all_walk (wpAny_pyIter_list hl ?_);refine⟨s.heap.objs.size,[s.heap.objs.size,l],[s.heap.objs.size],its.toArray.size,_,_,λi=>(bs[i]?).getD true,rfl,Walks.list (A:=X.A.in1) (I.ok.hd hc) _ l (aS hlt) its.toArray,
  ⟨⟨_,aD _ rfl,rfl,rfl⟩,hl.push _⟩,λi v s' Q' E' hP hQ=>?_,λh' tk hk=>?_⟩
 .have e:its[i]?=some v:=by simpa using hP
  rw[hb,aP]at e;cases eb:bs[i]? with|none=>rw[eb]at e;cases e|some b =>rw[eb]at e;have e':Value.bool b=v:=Option.some.inj e;subst e';simp only[eb,Option.getD_some]at hQ;exact wpAny_truthy_bool hQ
 .have e:((List.range its.toArray.size).all λi=>(bs[i]?).getD true)=bs.all id:=by
   have hlen:its.toArray.size=bs.length:=by rw[hb];simp
   rw[hlen];rw[bO,bx,bx];constructor
   .intro hh b hm;obtain⟨i,hi,rfl⟩:=cj hm;have:=hh i (bT.mpr hi);simpa[ag hi]using this
   .intro hh i hi;have hi':=bT.mp hi;have:=hh _ (List.getElem_mem hi');simpa[ag hi']using this
  rw[e];have kp:∀b o,s.heap.get? b=some o->h'.get? b=some o:=λb o e=>hk b o (λhm=>by rw[aG.mp hm]at e;exact bA _ (az e)) (af _ e)
  exact⟨.o _,H,I.kept kp,rfl,q⟩
theorem SU:OpR X (binaryOp .Mult) (rI IntMulOk λi j=>.int (i*j)):=opI λ_ _ _ _ _ _ _ hc q=>mul_int q hc
theorem M8:OpR X (binaryOp .Mult) (λx y H Q=>∃z n,x=.str z/\y=.int n/\MulOk z n/\Q (.str (Txt.mul z n)) H):=by intro pins s U H x y v u Q I rx ry h;obtain⟨z,n,rfl,rfl,z9,q⟩:=h;obtain⟨t,rfl⟩:=rx;obtain⟨t',rfl⟩:=ry;exact SB.mul z9 λt' k=>⟨.str _,H,I.tok _,⟨_,rfl⟩,q⟩
end
section
variable{X:Cx}{tg:Expr}
def Its(z:Str):It:=⟨λi _=>i<z.cps.size,λi H x H'=>H'=H/\∃c,z.cps[i]?=some c/\x=.str ⟨#[c]⟩,λi _=>z.cps.size<=i⟩
theorem WS{M:Model}{A:Around}{E:Value->Shared->Prop}{s:Shared}{tg:Expr}{it:Value}{x:Str}{t:Tok}{Q:Unit->Shared->Prop}(hQ:Q () s):wpAny M A (letOwnedTupleGo tg it (.str x t)) Q E s:=by
 unfold letOwnedTupleGo;cases tg<;>first
  |exact au hQ
  |(cases it<;>exact au hQ)
theorem OM{P:Program}{w:World}{K:Fg}{tg:Expr}(it:Addr)(ty:String)(z:Str)(t:Tok)(hty:ty="str_ascii_iterator"\/ty="str_iterator"):Turn P w K tg (Its z) [it] it (λi h=>h.IsStrIter it ty z t i) where
 mem:=by simp
 obj:=λi h st b hb=>by
  have e:b=it:=by simpa using hb
  subst e;obtain⟨o,e,c,d⟩:=st;exact⟨o,e,λv z=>by rw[d]at z;cases z⟩
 keep:=λi h h' st k=>by obtain⟨o,e,c,d⟩:=st;exact⟨o,k it (by simp) o e,c,d⟩
 item:=by
  intro X hP hw hK hc i pins s U H E I hf st hg;subst hP hw hK;obtain⟨f0,f1,f2,f3,f4,f5⟩:=hf it (by simp);have fin:∀(v:Value)(h':Heap)(tk:Nat),SignAt z i v->h'.IsStrIter it ty z t (i+1)->(∀b o,b∉[it]->s.heap.get? b=some o->h'.get? b=some o) ->
    ∃u,some v=some u/\wpAny (model X.prog X.w) X.A (letOwnedTupleGo tg (.ref it) u) (λ_ s2=>∃x H',Inv X pins U H' s2/\RelV x u/\(Its z).yW i H x H'/\s2.heap.IsStrIter it ty z t (i+1)/\∀b∈[it],H' b=none) E {s with heap:=h',toks:=tk}:=λv h' tk hv st' kk=>by
   obtain⟨c,u,hcs,rfl⟩:=hv;have I1:Inv X pins U H {s with heap:=h',toks:=tk}:=I.turned (λb o hb e=>kk b o (by simpa using hb) e) f0 f1 f3 f4 f5;exact⟨_,rfl,WS ⟨.str ⟨#[c]⟩,H,I1,⟨u,rfl⟩,⟨rfl,c,hcs,rfl⟩,st',λb hb=>(hf b hb).1⟩⟩
  rcases hty with rfl|rfl
  .exact(Walks.strAscii (prog:=X.prog) (w:=X.w) (I.ok.hd hc) it z t).item i s _ _ hg st fin
  .exact(Walks.strWide (prog:=X.prog) (w:=X.w) (I.ok.hd hc) it z t).item i s _ _ hg st fin
 done:=by
  intro X hP hw hK hc i pins s U H E I hf st hg;subst hP hw hK;obtain⟨f0,f1,f2,f3,f4,f5⟩:=hf it (by simp);have hz:z.cps[i]?=none:=Array.getElem?_eq_none hg;rcases hty with rfl|rfl
  .exact wpAny_pyNext_ascii_end (I.ok.hd hc) st hz λh' he'=>⟨rfl,I.turned (t':=s.toks) (λb o hb e=>he' b o hb e) f0 f1 f3 f4 f5⟩
  .exact wpAny_pyNext_wide_end (I.ok.hd hc) st hz λh' he'=>⟨rfl,I.turned (t':=s.toks) (λb o hb e=>he' b o hb e) f0 f1 f3 f4 f5⟩
 self:=λ_ _ _ _ _ st h=>by
  rcases hty with rfl|rfl
  .exact wpAny_pyIter_striter_ascii st h
  .exact wpAny_pyIter_striter_wide st h
end
section
variable{K:Fg}{a:Addr}{xs:List V}{g:TG}{te:TE}{Q:VK}{τ0:St}{H1:Hp}
end
section
variable{X:Cx}(K:Fg)
end
structure FnAt(P:Program)(w:World)(K:Fg)(mg:Str->Option Value)(base:Heap)(CX:CXT)(x:Str)(k:Nat)(ps:List Str)(sp:Sp):Prop where
 ex:∃f fd,DS P w K mg base CX k f fd ps sp/\mg x=some (.ref f)/\keepIn K (.ref f)=true/\Binds K fd ps []
section
variable{X:Cx}{CX:CXT}{k:Nat}{ps:List Str}{sp:Sp}{E:XK}{x:Str}{p pos:Pos}{e:Expr}{es:List Expr}{t:TA}
end
section
variable{X:Cx}{x:Str}{pos:Pos}
theorem ZK{i:Int}(h:∃t,X.mg x=some (.int i t))(hg:Gl X x:=by rfl)(hd:(x==("__debug__":Str))=false:=by decide):PE X (.Name x pos) (tC (.int i)):=by obtain⟨t,h⟩:=h;exact M4 hg h ⟨t,rfl⟩ hd
theorem ZJ{z:Str}(h:∃t,X.mg x=some (.str z t))(hg:Gl X x:=by rfl)(hd:(x==("__debug__":Str))=false:=by decide):PE X (.Name x pos) (tC (.str z)):=by obtain⟨t,h⟩:=h;exact M4 hg h ⟨t,rfl⟩ hd
theorem Nv{k:Key}{v:Value}(h:Gz k v=true):RelV (kV k) v:=by
 rcases AX h with⟨i,t,rfl,rfl⟩|⟨x,t,rfl,rfl⟩
 .exact⟨t,rfl⟩
 .exact⟨t,rfl⟩
theorem Mz{kvs:List (Key×V)}{vs:List (Key×Value)}{acc:Array Value}(r:KV kvs vs)(h:ItemsOf (λi v=>∃k x,vs[i]?=some (k,x)/\Gz k v=true) acc vs.length):Vals (kvs.map λkv=>kV kv.1) acc.toList:=by
 obtain⟨h1,h2⟩:=h;have key:∀(kvs:List (Key×V))(vs:List (Key×Value))(l:List Value),KV kvs vs->l.length=vs.length->(∀(j:Nat)(v:Value),l[j]?=some v->∃k x,vs[j]?=some (k,x)/\Gz k v=true)->Vals (kvs.map λkv=>kV kv.1) l:=by
  intro kvs
  induction kvs with
  |nil =>intro vs l r hl _;cases r;have:l=[]:=bS (by simpa using hl);subst this;exact .nil
  |cons p kvs ih =>
   intro vs l r hl hh;cases r with
   |@cons _ q _ vr e t =>
    cases l with
    |nil=>simp at hl
    |cons v l =>
     obtain⟨k,x,e1,e2⟩:=hh 0 v rfl;have e1':q=(k,x):=Option.some.inj e1;refine .cons ?_ (ih vr l t (by simpa using hl) λj w hw=>?_)
     .have:p.1=k:=by rw[e.1,e1']
      show RelV (kV p.1) v;rw[this];exact Nv e2
     .exact hh (j+1) w hw
 exact key kvs vs acc.toList r (by rw[bP];exact h1) λj v e=>h2 j v (by rw[<- Array.getElem?_toList];exact e)
end
structure UN(P:Program)(w:World)(K:Fg)(mg:Str->Option Value)(base:Heap)(CX:CXT)(C:Addr)(m:Str)(k:Nat)(ps:List Str)(sp:Sp):Prop where
 cl:Cls K C
 ex:∃f fd,DS P w K mg base CX k f fd ps sp/\Meth K C m f/\Binds K fd ps []
structure Yg(P:Program)(w:World)(K:Fg)(mg:Str->Option Value)(base:Heap)(CX:CXT)(x:Str)(C:Addr)(k:Nat)(ps:List Str)(sp:Sp):Prop where
 at_:mg x=some (.ref C)
 ex:∃f fd,DS P w K mg base CX k f fd ps sp/\Mk K C f/\Binds K fd ps []
section
variable{X:Cx}{CX:CXT}{k:Nat}{C:Addr}{ps:List Str}{sp:Sp}{E:XK}{x m:Str}{p pos apos:Pos}{e o:Expr}{es:List Expr}{ta:TE}{t:TA}
theorem VX{pl:Sem Bool}(G:UN X.prog X.w X.K X.mg X.base CX C m k ps sp)(hr:DA k X.A)(hx:Passes CX X E)(he:PE X o ta)
  (ht:eval (.Call (.Attribute o m apos) [] [] pos) X.env=(do
   let ov <- eval o X.env
   standAt apos.atName
   let(f,first) <- holding [ov] (getMethod ov m pl)
   callWith pos f first (backTo pos (starEach [] X.env)) (backToKw pos (keywordEach [] X.env))):=by rfl) :
  PE X (.Call (.Attribute o m apos) [] [] pos) (Sb C m sp [] E ta X7):=by
 obtain⟨f,fd,F,hm,hb⟩:=G.ex;exact Pf he G.cl hm F hr hb .nil hx ht
theorem ZH(G:Yg X.prog X.w X.K X.mg X.base CX x C k ps sp)(hr:DA (k+1) X.A)(hx:Passes CX X E)(ha:PA X (e::es) t)(hg:Gl X x:=by rfl)(hdb:(x==("__debug__":Str))=false:=by decide)
  (he:starEach (e::es) X.env=(false,eval e X.env)::starEach es X.env:=by rfl) (hpl:(backTo pos (starEach es X.env)).any (·.1)=false:=by rfl):PE X (.Call (.Name x p) (e::es) [] pos) (Vf C sp [] E t):=by
 obtain⟨f,fd,F,M,hb⟩:=G.ex;exact SI M F hr hg G.at_ hb .nil hx ha hdb he hpl
end
def orR(r r':R2):R2:=λx y H Q=>r x y H Q\/r' x y H Q
section
variable{X:Cx}
theorem OpR.orR{f:Value->Value->Sem Value}{r r':R2}(h:OpR X f r)(h':OpR X f r'):OpR X f (orR r r'):=λpins s U H x y v u Q I rx ry q=>q.elim (h pins s U H x y v u Q I rx ry) (h' pins s U H x y v u Q I rx ry)
theorem IxR.orR{r r':R2}(h:IxR X r)(h':IxR X r'):IxR X (L2.orR r r'):=λvalue slice pins s U H x y v u Q I rx ry q e=>q.elim (λq=>h value slice pins s U H x y v u Q I rx ry q e) (λq=>h' value slice pins s U H x y v u Q I rx ry q e)
def Vv:R2:=λx y H Q=>∃a v,x=.ref a/\Ju H a y (some v)/\Q v H
def Zt(neg:Bool):R2:=λy x H Q=>∃a o,x=.ref a/\Ju H a y o/\Q (.o (if neg then !o.isSome else o.isSome)) H
theorem Ra(hu:X.A.units+1<cLine):OpR X (compareOp .In) (Zt false):=by intro pins s U H y x v u Q I ry rx h;obtain⟨a,o,rfl,g,q⟩:=h;obtain rfl:u=Value.ref a:=rx;exact JbS hu I g ry λs3 I3=>⟨.o o.isSome,H,I3,rfl,q⟩
theorem Na(hu:X.A.units+1<cLine):OpR X (compareOp .NotIn) (Zt true):=by intro pins s U H y x v u Q I ry rx h;obtain⟨a,o,rfl,g,q⟩:=h;obtain rfl:u=Value.ref a:=rx;exact Uq hu I g ry λs3 I3=>⟨.o (!o.isSome),H,I3,rfl,q⟩
theorem Tv(hu:X.A.units+1<cLine):IxR X Vv:=by
 intro value slice pins s U H x y v u Q I rx ry h hs;obtain⟨a,w,rfl,g,q⟩:=h;obtain rfl:v=Value.ref a:=rx;have hT:=FZ I g;have h₂:wpAny (model X.prog X.w) X.A (getItem (.ref a) u) (EP X pins U Q) X.xe s:=I0 hu I g ry λw' s3 I3 rw'=>⟨w,H,I3,rw',q⟩
 unfold subscriptTail;refine aa ?_;rw[getitemInPython_of_ne hT.not_modules];refine aa (wpAny_specialOf hT PySem.F.slot_dict_getitem.lookup ?_);have fin:wpAny (model X.prog X.w) X.A (subscripted slice false (.ref a) u) (λr s₃=>wpAny (model X.prog X.w) X.A (letTemporaryGo value (.ref a) r >>= λ_=>pure r) (EP X pins U Q) X.xe s₃) X.xe s:=by rw[hs];exact wpAny_operating (wpAny_mono h₂ (λr s₃ h₃=>aa (wpAny_letTemporaryGo (au h₃))) λ_ _ x=>x)
 first
  |exact au (aa fin)
  |exact aa (au (aa fin))
  |exact aa fin
noncomputable def SR(r r':RN):RN:=λo i v H Q=>r o i v H Q\/r' o i v H Q
theorem QN.orR{r r':RN}(h:QN X r)(h':QN X r'):QN X (SR r r'):=λpins s U H o i v ov iv u Q I r1 r2 r3 q=>q.elim (h pins s U H o i v ov iv u Q I r1 r2 r3) (h' pins s U H o i v ov iv u Q I r1 r2 r3)
noncomputable def O1:RN:=λo i v H Q=>∃a H4,o=.ref a/\Mq H a i v H4/\Q H4
theorem set_dict(hu:X.A.units+1<cLine):QN X O1:=by intro pins s U H o i v ov iv u Q I ro ri rv h;obtain⟨a,H4,rfl,g,q⟩:=h;obtain rfl:ov=Value.ref a:=ro;exact IZ hu I g ri rv λs4 I4=>⟨H4,I4,q⟩
def Q9(r r':List V->Hp->VK->Prop):List V->Hp->VK->Prop:=λvs H Q=>r vs H Q\/r' vs H Q
theorem Co.orR{f:Value}{r r':List V->Hp->VK->Prop}(h:Co X f r)(h':Co X f r'):Co X f (Q9 r r'):=λpins s U H xs us Q I rx q=>q.elim (h pins s U H xs us Q I rx) (h' pins s U H xs us Q I rx)
def JbL(K:Fg)(tl:TE):TI:=λU H R=>tl U H λx H1=>(∃a,x=.ref a/\(∃xs,SqL K H1 a xs)/\R (Itl K a) H1)\/(∃a,x=.ref a/\(∃xs,SqT K H1 a xs)/\R (Itt K a) H1)\/(∃z,x=.str z/\R (Its z) H1)
variable{tg:Expr}
theorem VN{l:Expr}{tl:TE}(hl:PE X l tl):PI X tg l (JbL X.K tl):=by
 intro pins s U H R I h;have key:∀(x:V)(H1:Hp)(v:Value)(s1:Shared),Inv X pins U H1 s1->RelV x v->((∃a,x=.ref a/\(∃xs,SqL X.K H1 a xs)/\R (Itl X.K a) H1)\/(∃a,x=.ref a/\(∃xs,SqT X.K H1 a xs)/\R (Itt X.K a) H1)\/(∃z,x=.str z/\R (Its z) H1)) ->
   wpAny (model X.prog X.w) X.A (pyIter v) (PIE X pins U tg R) X.xe s1:=by
  intro x H1 v s1 I1 r1 q1;rcases q1 with⟨a,e,⟨xs,hq⟩,q⟩|⟨a,e,⟨xs,hq⟩,q⟩|⟨z,e,q⟩
  .subst e;cases r1;obtain⟨its,rv,p,hz⟩:=I1.list hq;refine wpAny_pyIter_list p.isList ?_;refine⟨s1.heap.objs.size,[s1.heap.objs.size],_,_,H1,rfl,I1.kept (t':=s1.toks) λb o e=>af _ e,MB a _,⟨_,aD _ rfl,rfl,rfl⟩,λb hb=>?_,q⟩;have e:b=s1.heap.objs.size:=by simpa using hb
   subst e;exact I1.Rm (aJ _) (I1.z9.fresh (aJ _))
  .subst e;cases r1;obtain⟨its,rv,p,hz⟩:=I1.tuple hq;refine wpAny_pyIter_tuple (show s1.heap.IsTuple a its.toArray from p) ?_;refine⟨s1.heap.objs.size,[s1.heap.objs.size],_,_,H1,rfl,I1.kept (t':=s1.toks) λb o e=>af _ e,Lv a _,⟨_,aD _ rfl,rfl,rfl⟩,λb hb=>?_,q⟩;have e:b=s1.heap.objs.size:=by simpa using hb
   subst e;exact I1.Rm (aJ _) (I1.z9.fresh (aJ _))
  .subst e;obtain⟨t,rfl⟩:=r1;have go:∀(ty:String),(ty="str_ascii_iterator"\/ty="str_iterator")->PIE X pins U tg R (.ref s1.heap.objs.size) {s1 with heap:=s1.heap.push {cls:=.type ty,data:=.fields #[.str z t,.int 0 0]} }:=λty hty=>by
    refine⟨s1.heap.objs.size,[s1.heap.objs.size],_,_,H1,rfl,I1.kept (t':=s1.toks) λb o e=>af _ e,OM _ ty z t hty,⟨_,aD _ rfl,rfl,rfl⟩,λb hb=>?_,q⟩;have e:b=s1.heap.objs.size:=by simpa using hb
    subst e;exact I1.Rm (aJ _) (I1.z9.fresh (aJ _))
   cases ha:z.cps.all (·<128)
   .exact wpAny_pyIter_wide ha (go _ (.inr rfl))
   .exact wpAny_pyIter_ascii ha (go _ (.inl rfl))
 refine thn (hl pins s U H _ I h) λv s1 hpt => ?_
 obtain⟨x,H1,I1,r1,q1⟩:= hpt;exact key x H1 v s1 I1 r1 q1
end
end L2
namespace PySem
namespace Zp
section
variable{prog:Program}{w:World}{A:Around}{E:Value->Shared->Prop}{s:Shared}
theorem OO{it t:Addr}{i:Nat}{items:Array Value}{x:Value}{Q:Value->Shared->Prop}(hit:s.heap.IsTupleIter it t i)(ht:s.heap.IsTuple t items)(hx:items[i]?=some x)
  (hQ:∀h',h'.IsTupleIter it t (i+1)->Heap.SameBut it s.heap h'->Q x {s with heap:=h' }):wpAny (model prog w) A (Builtin.SmallTypes.nextOf (.ref it)) Q E s:=by
 obtain⟨o,ho,hc,hd⟩:=id hit;obtain⟨ol,hol,_,nl,hdl⟩:=ht;unfold Builtin.SmallTypes.nextOf;refine aa (wpAny_callSpecial?_slot (name:=Str.ofString "__next__") hit.typeIs F.slot_tuple_iterator_next (wpAny_call_entry F.slot_tuple_iterator_next hit.typeIs F.entry_tuple_iterator_next ?_ (F.args_tuple_iterator_next_1 _)));show wpAny _ _ (field (.ref it) 0 >>= _) _ _ s;refine aa (aY ho hd (x:=.ref t) rfl ?_);show wpAny _ _ (if(Value.ref t==Value.none)=true then _ else _) _ _ s;rw[if_neg (show ¬((Value.ref t==Value.none)=true)from aQ)];show wpAny _ _ (field (.ref it) 1 >>= _) _ _ s;refine aa (aY ho hd (x:=.int i 0) rfl ?_);show wpAny _ _ (seqItems? (.ref t) >>= _) _ _ s;refine aa (wpAny_seqItems hol hdl ?_);simp only[bD,hx];refine aa (wpAny_setField ho hd (by simp) (au ⟨x,rfl,au (hQ _ ?_ (Heap.SameBut.update ..))⟩));exact⟨_,cB _ ho (Obj.isFreed_of_fields (Obj.data_mapFields hd _)),(Obj.cls_mapFields ..).trans hc,by rw[Obj.data_mapFields hd];simp[rawInt]⟩
theorem R7{it t:Addr}{i:Nat}{items:Array Value}{Q:Value->Shared->Prop}(hh:A.handled=none)(hit:s.heap.IsTupleIter it t i)(ht:s.heap.IsTuple t items)(hx:items[i]?=none)
  (hE:∀h' e,Heap.ExtBut it s.heap h'->(∃o,h'.get? e=some o/\o.cls=.type "StopIteration")->E (.ref e) {s with heap:=h' }):wpAny (model prog w) A (Builtin.SmallTypes.nextOf (.ref it)) Q E s:=by
 obtain⟨o,ho,hc,hd⟩:=id hit;obtain⟨ol,hol,_,nl,hdl⟩:=ht;unfold Builtin.SmallTypes.nextOf;refine aa (wpAny_callSpecial?_slot (name:=Str.ofString "__next__") hit.typeIs F.slot_tuple_iterator_next (wpAny_call_entry F.slot_tuple_iterator_next hit.typeIs F.entry_tuple_iterator_next ?_ (F.args_tuple_iterator_next_1 _)));show wpAny _ _ (field (.ref it) 0 >>= _) _ _ s;refine aa (aY ho hd (x:=.ref t) rfl ?_);show wpAny _ _ (if(Value.ref t==Value.none)=true then _ else _) _ _ s;rw[if_neg (show ¬((Value.ref t==Value.none)=true)from aQ)];show wpAny _ _ (field (.ref it) 1 >>= _) _ _ s;refine aa (aY ho hd (x:=.int i 0) rfl ?_);show wpAny _ _ (seqItems? (.ref t) >>= _) _ _ s;refine aa (wpAny_seqItems hol hdl ?_);simp only[bD,hx];refine aa (wpAny_rule (aa (wpAny_setField ho hd (by simp) ?_)));show wpAny _ _ (newExc (.type "StopIteration") [] >>= _) _ _ _;refine aa ?_;simp only[newExc,newTuple];refine aa (wpAny_newObj_type ?_ (by size_fits));refine aa (m:=firstArgMember _ _) (wpAny_of_eq (a:=Value.none) (by first|rfl|(simp only[firstArgMember];rfl)) ?_);refine wpAny_newObj_type ?_ (by size_fits);simp only[raiseNew];refine aa (wpAny_handled ?_);first|rw[show A.in1.handled=none from hh]|rw[hh]
 refine aa (au (wpAny_throw ?_));exact hE _ _ (((Heap.SameBut.update ..).extBut.push _).push _) ⟨_,aD _ rfl,rfl⟩
end
structure Draws(prog:Program)(w:World)(it src:Addr)(xs:Array Value)(S:Nat->Heap->Prop):Prop where
 ne:src≠it
 obj:∀k h,S k h->∃o,h.get? it=some o/\∀v,o.data≠.cell v
 yM:∀k h,S k h->∃o,h.get? src=some o/\(o.cls=.type "list"\/o.cls=.type "tuple")
 keep:∀k (h h':Heap),S k h->(∀o,h.get? it=some o->h'.get? it=some o)->(∀o,h.get? src=some o->h'.get? src=some o)->S k h'
 item:∀(A:Around)(s:Shared)(k:Nat)(x:Value)(Q:Value->Shared->Prop)(E:Value->Shared->Prop),S k s.heap->xs[k]?=some x->(∀h',S (k+1) h'->Heap.SameBut it s.heap h'->Q x {s with heap:=h' }) ->
  wpAny (model prog w) A (Builtin.SmallTypes.nextOf (.ref it)) Q E s
 stop:∀(A:Around)(s:Shared)(k:Nat)(Q:Value->Shared->Prop)(E:Value->Shared->Prop),A.handled=none->S k s.heap->xs[k]?=none ->
  (∀h' e,Heap.ExtBut it s.heap h'->(∃o,h'.get? e=some o/\o.cls=.type "StopIteration")->E (.ref e) {s with heap:=h' })->wpAny (model prog w) A (Builtin.SmallTypes.nextOf (.ref it)) Q E s
theorem Draws.tup{prog:Program}{w:World}{it t:Addr}{xs:Array Value}(hne:t≠it):Draws prog w it t xs (λk h=>h.IsTupleIter it t k/\h.IsTuple t xs) where
 ne:=hne
 obj:=λk h st=>by obtain⟨⟨o,e,c,d⟩,_⟩:=st;exact⟨o,e,λv z=>by rw[d]at z;cases z⟩
 yM:=λk h st=>by obtain⟨_,o,e,c,_⟩:=st;exact⟨o,e,.inr c⟩
 keep:=λk h h' st k1 k2=>⟨st.1.at k1,st.2.at k2⟩
 item:=λA s k x Q E st hx hQ=>OO st.1 st.2 hx λh' a b=>hQ h' ⟨a,st.2.at λo e=>(b.2 t hne).trans e⟩ b
 stop:=λA s k Q E hh st hx hE=>R7 hh st.1 st.2 hx hE
theorem Draws.lst{prog:Program}{w:World}{it t:Addr}{xs:Array Value}(hne:t≠it):Draws prog w it t xs (λk h=>h.IsListIter it t k/\h.IsList t xs) where
 ne:=hne
 obj:=λk h st=>by obtain⟨⟨o,e,c,d⟩,_⟩:=st;exact⟨o,e,λv z=>by rw[d]at z;cases z⟩
 yM:=λk h st=>by obtain⟨_,o,e,c,_⟩:=st;exact⟨o,e,.inl c⟩
 keep:=λk h h' st k1 k2=>⟨st.1.at k1,st.2.at k2⟩
 item:=λA s k x Q E st hx hQ=>wpAny_nextOf_list_item st.1 st.2 hx λh' a b=>hQ h' ⟨a,st.2.at λo e=>(b.2 t hne).trans e⟩ b
 stop:=λA s k Q E hh st hx hE=>wpAny_nextOf_list_end hh st.1 st.2 hx hE
structure Apart(z TI TO i1 i2 l1 l2:Addr):Prop where
 zs:TI≠z/\TO≠z/\i1≠z/\i2≠z/\l1≠z/\l2≠z
 ts:TI≠TO/\TI≠i1/\TI≠i2/\TO≠i1/\TO≠i2/\i1≠i2
 ls:l1≠TO/\l1≠i1/\l1≠i2/\l2≠TO/\l2≠i1/\l2≠i2
section
variable{prog:Program}{w:World}{A:Around}{E:Value->Shared->Prop}{s:Shared}{z TI TO i1 i2 l1 l2:Addr}{xs ys:Array Value}{S1 S2:Nat->Heap->Prop}
theorem Po(D:Apart z TI TO i1 i2 l1 l2)(W1:Draws prog w i1 l1 xs S1)(W2:Draws prog w i2 l2 ys S2){k:Nat}{x y a b:Value}{Q:Value->Shared->Prop}
  (hz:IsZip s.heap z TI TO .none) (hTI:IsPair s.heap TI (.ref i1) (.ref i2)) (hTO:IsPair s.heap TO a b) (h1:S1 k s.heap) (h2:S2 k s.heap) (hx:xs[k]?=some x) (hy:ys[k]?=some y)
  (hQ:∀h',IsZip h' z TI TO (rawInt s.heap.objs.size)->IsPair h' TO x y->S1 (k+1) h'->S2 (k+1) h'->IsPair h' s.heap.objs.size x y->h'.objs.size=s.heap.objs.size+1 ->
   (∀c o,c≠z->c≠TO->c≠i1->c≠i2->s.heap.get? c=some o->h'.get? c=some o)->Q (.ref s.heap.objs.size) {s with heap:=h' }) :
  wpAny (model prog w) A (Builtin.«zip.__next__» ⟨[.ref z],[]⟩) (λfin s'=>∃v,fin=.done (.ret v)/\Q v s') E s:=by
 obtain⟨⟨TIz,TOz,i1z,i2z,l1z,l2z⟩,⟨TITO,TIi1,TIi2,TOi1,TOi2,i12⟩,⟨l1TO,l1i1,l1i2,l2TO,l2i1,l2i2⟩⟩:=D;show wpAny _ _ (field (.ref z) 2 >>= _) _ _ _;refine aa (aY hz rfl (x:=.bool false) rfl ?_);show wpAny _ _ (field (.ref z) 3 >>= _) _ _ _;refine aa (aY hz rfl (x:=.ref TI) rfl ?_);refine aa (wpAny_seqItems hTI rfl ?_);show wpAny _ _ (Builtin.SmallTypes.ownedTupleIsFree (.ref z) >>= _) _ _ _;refine aa ?_;unfold Builtin.SmallTypes.ownedTupleIsFree;refine aa (aY hz rfl (x:=.none) rfl (au ?_));simp only[if_true];refine aa (wpAny_rule ?_);refine aa (aY hz rfl (x:=.ref TO) rfl ?_);refine aa (wpAny_setField_rec hz (by simp) λha hza hsa=>?_);replace hza:IsZip ha z TI TO .ellipsis:=hza;refine aa ?_;simp only[List.zipIdx_cons,List.zipIdx_nil,bX,List.forIn_nil];refine aa (aa (wpAny_onRaise ?_));show wpAny _ _ (Builtin.SmallTypes.nextOf (.ref i1) >>= _) _ _ _;have h1a:S1 k ha:=W1.keep _ _ _ h1 (λo e=>hsa.extBut _ _ i1z e) λo e=>hsa.extBut _ _ l1z e
 refine aa (W1.item _ _ k x _ _ h1a hx λhb h1b hsb=>au ?_);have hTOb:IsPair hb TO a b:=hsb.extBut _ _ TOi1 (hsa.extBut _ _ TOz hTO);refine aa (wpAny_seqItems hTOb rfl ?_);refine aa (wpAny_updateSeq_pair hTOb λhc hTOc hsc=>?_);replace hTOc:IsPair hc TO x b:=hTOc;refine aa (wpAny_letGo (au ?_));refine aa (aa (wpAny_onRaise ?_));show wpAny _ _ (Builtin.SmallTypes.nextOf (.ref i2) >>= _) _ _ _;have h2c:S2 k hc:=W2.keep _ _ _ h2 (λo e=>hsc.extBut _ _ (Ne.symm TOi2) (hsb.extBut _ _ (Ne.symm i12) (hsa.extBut _ _ i2z e))) λo e=>hsc.extBut _ _ l2TO (hsb.extBut _ _ l2i1 (hsa.extBut _ _ l2z e))
 refine aa (W2.item _ _ k y _ _ h2c hy λhd h2d hsd=>au ?_);have hTOd:IsPair hd TO x b:=hsd.extBut _ _ TOi2 hTOc;refine aa (wpAny_seqItems hTOd rfl ?_);refine aa (wpAny_updateSeq_pair hTOd λhe hTOe hse=>?_);replace hTOe:IsPair he TO x y:=hTOe;refine aa (wpAny_letGo (au (au ?_)));refine aa (wpAny_seqItems hTOe rfl ?_);refine aa (wpAny_newTuple ?_);have hsz:he.objs.size=s.heap.objs.size:=by rw[hse.1,hsd.1,hsc.1,hsb.1,hsa.1]
 have hze:IsZip he z TI TO .ellipsis:=hse.extBut _ _ (Ne.symm TOz) (hsd.extBut _ _ (Ne.symm i2z) (hsc.extBut _ _ (Ne.symm TOz) (hsb.extBut _ _ (Ne.symm i1z) hza)));have hke:∀c o,c≠z->c≠TO->c≠i1->c≠i2->s.heap.get? c=some o->he.get? c=some o:=λc o c1 c2 c3 c4 e=>hse.extBut _ _ c2 (hsd.extBut _ _ c4 (hsc.extBut _ _ c2 (hsb.extBut _ _ c3 (hsa.extBut _ _ c1 e))))
 have h1e:S1 (k+1) he:=W1.keep _ _ _ h1b (λo e=>hse.extBut _ _ (Ne.symm TOi1) (hsd.extBut _ _ i12 (hsc.extBut _ _ (Ne.symm TOi1) e))) λo e=>hse.extBut _ _ l1TO (hsd.extBut _ _ l1i2 (hsc.extBut _ _ l1TO e))
 have h2e:S2 (k+1) he:=W2.keep _ _ _ h2d (λo e=>hse.extBut _ _ (Ne.symm TOi2) e) λo e=>hse.extBut _ _ l2TO e
 have ltz:z<he.objs.size:=az hze;show wpAny _ _ (Builtin.SmallTypes.ownedTupleHandOut (.ref z) (.ref he.objs.size) >>= _) _ _ _;refine aa ?_;unfold Builtin.SmallTypes.ownedTupleHandOut;have hzf:IsZip (he.push {cls:=.type "tuple",data:=.seq #[x,y]}) z TI TO .ellipsis:=af _ hze;refine aa (wpAny_setField_rec hzf (by simp) λhg hzg hsg=>?_);replace hzg:IsZip hg z TI TO (rawInt he.objs.size):=hzg;refine wpAny_setField_rec hzg (by simp) λhi hzi hsi=>?_;replace hzi:IsZip hi z TI TO (rawInt he.objs.size):=hzi
 have up:∀c o,c≠z->he.get? c=some o->hi.get? c=some o:=λc o c1 e=>hsi.extBut _ _ c1 (hsg.extBut _ _ c1 (af _ e))
 have hTi:IsPair hi he.objs.size x y:=hsi.extBut _ _ (cG ltz) (hsg.extBut _ _ (cG ltz) (aD _ rfl));have szi:hi.objs.size=he.objs.size+1:=by rw[hsi.1,hsg.1,bF]
 rw[hsz]at hzi hTi szi;refine au ⟨_,rfl,?_⟩;show Q (.ref he.objs.size) _;rw[hsz];exact hQ hi hzi (up _ _ TOz hTOe) (W1.keep _ _ _ h1e (λo e=>up _ o i1z e) λo e=>up _ o l1z e) (W2.keep _ _ _ h2e (λo e=>up _ o i2z e) λo e=>up _ o l2z e) hTi szi λc o c1 c2 c3 c4 e=>up c o c1 (hke c o c1 c2 c3 c4 e)
theorem next_end(hh:A.handled=none)(D:Apart z TI TO i1 i2 l1 l2)(W1:Draws prog w i1 l1 xs S1)(W2:Draws prog w i2 l2 ys S2){k:Nat}{a b:Value}{Q:Fin->Shared->Prop}
  (hz:IsZip s.heap z TI TO .none) (hTI:IsPair s.heap TI (.ref i1) (.ref i2)) (hTO:IsPair s.heap TO a b) (h1:S1 k s.heap) (h2:S2 k s.heap) (hend:xs[k]?=none\/ys[k]?=none)
  (hE:∀h' e,(∀c o,c≠z->c≠TO->c≠i1->c≠i2->s.heap.get? c=some o->h'.get? c=some o)->(∃o,h'.get? e=some o/\o.cls=.type "StopIteration")->E (.ref e) {s with heap:=h' }) :
  wpAny (model prog w) A (Builtin.«zip.__next__» ⟨[.ref z],[]⟩) Q E s:=by
 obtain⟨⟨TIz,TOz,i1z,i2z,l1z,l2z⟩,⟨TITO,TIi1,TIi2,TOi1,TOi2,i12⟩,⟨l1TO,l1i1,l1i2,l2TO,l2i1,l2i2⟩⟩:=D;show wpAny _ _ (field (.ref z) 2 >>= _) _ _ _;refine aa (aY hz rfl (x:=.bool false) rfl ?_);show wpAny _ _ (field (.ref z) 3 >>= _) _ _ _;refine aa (aY hz rfl (x:=.ref TI) rfl ?_);refine aa (wpAny_seqItems hTI rfl ?_);show wpAny _ _ (Builtin.SmallTypes.ownedTupleIsFree (.ref z) >>= _) _ _ _;refine aa ?_;unfold Builtin.SmallTypes.ownedTupleIsFree;refine aa (aY hz rfl (x:=.none) rfl (au ?_));simp only[if_true];refine aa (wpAny_rule ?_);refine aa (aY hz rfl (x:=.ref TO) rfl ?_);refine aa (wpAny_setField_rec hz (by simp) λha hza hsa=>?_);replace hza:IsZip ha z TI TO .ellipsis:=hza;refine aa ?_;simp only[List.zipIdx_cons,List.zipIdx_nil,bX,List.forIn_nil];refine aa (aa (wpAny_onRaise ?_));show wpAny _ _ (Builtin.SmallTypes.nextOf (.ref i1) >>= _) _ _ _;have h1a:S1 k ha:=W1.keep _ _ _ h1 (λo e=>hsa.extBut _ _ i1z e) λo e=>hsa.extBut _ _ l1z e
 cases hx:xs[k]? with
 |none =>
  refine aa (W1.stop _ _ k _ _ hh h1a hx λhb e hsb he=>?_);obtain⟨oe,hoe,hce⟩:=he;have hzb:IsZip hb z TI TO .ellipsis:=hsb _ _ (Ne.symm i1z) hza;have hez:e≠z:=λq=>by subst q;rw[hzb]at hoe;cases hoe;simp at hce
  refine wpAny_setField_rec hzb (by simp) λhc _ hsc=>hE hc e (λc o c1 _ c3 _ q=>hsc.extBut _ _ c1 (hsb _ _ c3 (hsa.extBut _ _ c1 q))) ⟨oe,hsc.extBut _ _ hez hoe,hce⟩
 |some x =>
  have hy:ys[k]?=none:=by rcases hend with h|h;rw[hx]at h;cases h;exact h
  refine aa (W1.item _ _ k x _ _ h1a hx λhb h1b hsb=>au ?_);have hTOb:IsPair hb TO a b:=hsb.extBut _ _ TOi1 (hsa.extBut _ _ TOz hTO);refine aa (wpAny_seqItems hTOb rfl ?_);refine aa (wpAny_updateSeq_pair hTOb λhc hTOc hsc=>?_);refine aa (wpAny_letGo (au ?_));refine aa (aa (wpAny_onRaise ?_));show wpAny _ _ (Builtin.SmallTypes.nextOf (.ref i2) >>= _) _ _ _;have h2c:S2 k hc:=W2.keep _ _ _ h2 (λo e=>hsc.extBut _ _ (Ne.symm TOi2) (hsb.extBut _ _ (Ne.symm i12) (hsa.extBut _ _ i2z e))) λo e=>hsc.extBut _ _ l2TO (hsb.extBut _ _ l2i1 (hsa.extBut _ _ l2z e))
  refine aa (W2.stop _ _ k _ _ hh h2c hy λhd e hsd he=>?_);obtain⟨oe,hoe,hce⟩:=he;have hzd:IsZip hd z TI TO .ellipsis:=hsd _ _ (Ne.symm i2z) (hsc.extBut _ _ (Ne.symm TOz) (hsb.extBut _ _ (Ne.symm i1z) hza));have hez:e≠z:=λq=>by subst q;rw[hzd]at hoe;cases hoe;simp at hce
  refine wpAny_setField_rec hzd (by simp) λhf _ hsf=>hE hf e (λc o c1 c2 c3 c4 q=>hsf.extBut _ _ c1 (hsd _ _ c4 (hsc.extBut _ _ c2 (hsb.extBut _ _ c3 (hsa.extBut _ _ c1 q))))) ⟨oe,hsf.extBut _ _ hez hoe,hce⟩
end
end Zp
end PySem
namespace PySem
namespace Zp
noncomputable def GA(T:String)(l:Addr):Obj:={cls:=.type T,data:=.fields #[.ref l,.int 0 0]}
noncomputable def z1(h:Heap)(T1:String)(l1:Addr):Heap:=h.push (GA T1 l1)
noncomputable def z2(h:Heap)(T1 T2:String)(l1 l2:Addr):Heap:=(z1 h T1 l1).push (GA T2 l2)
noncomputable def z3(h:Heap)(T1 T2:String)(l1 l2:Addr):Heap:=(z2 h T1 T2 l1 l2).push {cls:=.type "tuple",data:=.seq #[.ref h.objs.size,.ref (z1 h T1 l1).objs.size]}
noncomputable def z4(h:Heap)(T1 T2:String)(l1 l2:Addr):Heap:=(z3 h T1 T2 l1 l2).push {cls:=.type "tuple",data:=.seq #[.none,.none]}
noncomputable def z5(h:Heap)(T1 T2:String)(l1 l2:Addr):Heap:=(z4 h T1 T2 l1 l2).push {cls:=.type "zip",data:=.fields #[.none,.bool false,.bool false,.ref (z2 h T1 T2 l1 l2).objs.size,.ref (z3 h T1 T2 l1 l2).objs.size]}
abbrev Its(T:String)(l:Addr)(C:Heap->Prop):Prop:=∀{prog:Program}{w:World}{A:Around}{E:Value->Shared->Prop}{s:Shared}{Q:Value->Shared->Prop},C s.heap->Q (.ref s.heap.objs.size) {s with heap:=s.heap.push (GA T l)}->wpAny (model prog w) A (pyIter (.ref l)) Q E s
theorem Np(T1 T2:String)(l1 l2:Addr)(C1 C2:Heap->Prop)(p1:Its T1 l1 C1)(p2:Its T2 l2 C2)(k2:∀h o,C2 h->C2 (Heap.push h o)) :
  Meets (Builtin.«zip.__new__» ⟨[.type "zip",.ref l1,.ref l2],[]⟩) (λ_ R s=>C1 s.heap/\C2 s.heap/\R (.ok (.ret (.ref (z4 s.heap T1 T2 l1 l2).objs.size))) {s with heap:=z5 s.heap T1 T2 l1 l2}) :=
 .of_wp λprog w A R s h=>by
  obtain⟨hp,g,d,tk,os⟩:=s;obtain⟨c1,c2,h⟩:=h;have hsub:=sub_zip;have a1:C1 (Shared.heap ⟨hp,g,d,tk,os⟩):=c1;have a2:C2 (Shared.heap ⟨hp.push (GA T1 l1),g,d,tk,os⟩):=k2 _ _ c2
  wp_walk using p1 a1,p2 a2
  exact⟨_,rfl,h⟩
section
variable{prog:Program}{w:World}{A:Around}{E:Value->Shared->Prop}{s:Shared}{z TI TO i1 i2 l1 l2:Addr}{xs ys:Array Value}{S1 S2:Nat->Heap->Prop}
theorem Lg{T1 T2:String}{C1 C2:Heap->Prop}{Q:Value->Shared->Prop}(p1:Its T1 l1 C1)(p2:Its T2 l2 C2)(k2:∀h o,C2 h->C2 (Heap.push h o))(c1:C1 s.heap)(c2:C2 s.heap)
  (h:Q (.ref (z4 s.heap T1 T2 l1 l2).objs.size) {s with heap:=z5 s.heap T1 T2 l1 l2}):wpAny (model prog w) A (call (.type "zip") [.ref l1,.ref l2]) Q E s :=
 callType_new F.called_zip (by decide) (F.typeCall_zip_2 _ _) (F.newCall_zip_2 _ _) (λobj=>F.args_object_init_3 obj _ _) F.entry_zip_new (Np T1 T2 l1 l2 C1 C2 p1 p2 k2)
  ⟨c1,c2,⟨_,aD _ rfl,rfl⟩,h⟩
theorem GL(D:Apart z TI TO i1 i2 l1 l2)(W1:Draws prog w i1 l1 xs S1)(W2:Draws prog w i2 l2 ys S2){k:Nat}{x y a b:Value}{Q:Option Value->Shared->Prop}
  (hz:IsZip s.heap z TI TO .none) (hTI:IsPair s.heap TI (.ref i1) (.ref i2)) (hTO:IsPair s.heap TO a b) (h1:S1 k s.heap) (h2:S2 k s.heap) (hx:xs[k]?=some x) (hy:ys[k]?=some y)
  (hQ:∀h',IsZip h' z TI TO (rawInt s.heap.objs.size)->IsPair h' TO x y->S1 (k+1) h'->S2 (k+1) h'->IsPair h' s.heap.objs.size x y->h'.objs.size=s.heap.objs.size+1 ->
   (∀c o,c≠z->c≠TO->c≠i1->c≠i2->s.heap.get? c=some o->h'.get? c=some o)->Q (some (.ref s.heap.objs.size)) {s with heap:=h' }) :
  wpAny (model prog w) A (pyNext (.ref z)) Q E s:=by
 have hT:s.TypeIs (.ref z) "zip":=⟨_,hz,rfl⟩
 unfold pyNext;exact aa (wpAny_attempt (wpAny_callSpecial?_slot (name:=Str.ofString "__next__") hT F.slot_zip_next (wpAny_call_entry F.slot_zip_next hT F.entry_zip_next
  (Po D W1 W2 hz hTI hTO h1 h2 hx hy λh' a1 a2 a3 a4 a5 a6 a7=>au (hQ h' a1 a2 a3 a4 a5 a6 a7)) (F.args_zip_next_1 _))))
theorem GN(hh:A.handled=none)(D:Apart z TI TO i1 i2 l1 l2)(W1:Draws prog w i1 l1 xs S1)(W2:Draws prog w i2 l2 ys S2){k:Nat}{a b:Value}{Q:Option Value->Shared->Prop}
  (hz:IsZip s.heap z TI TO .none) (hTI:IsPair s.heap TI (.ref i1) (.ref i2)) (hTO:IsPair s.heap TO a b) (h1:S1 k s.heap) (h2:S2 k s.heap) (hend:xs[k]?=none\/ys[k]?=none)
  (hQ:∀h',(∀c o,c≠z->c≠TO->c≠i1->c≠i2->s.heap.get? c=some o->h'.get? c=some o)->Q none {s with heap:=h' }):wpAny (model prog w) A (pyNext (.ref z)) Q E s:=by
 have hT:s.TypeIs (.ref z) "zip":=⟨_,hz,rfl⟩
 unfold pyNext;refine aa (wpAny_attempt (wpAny_callSpecial?_slot (name:=Str.ofString "__next__") hT F.slot_zip_next (wpAny_call_entry F.slot_zip_next hT F.entry_zip_next
  (next_end (A:=A.in1) (show A.in1.handled=none from hh) D W1 W2 hz hTI hTO h1 h2 hend λh' e hk he=>?_) (F.args_zip_next_1 _))))
 obtain⟨o,ho,hc⟩:=he;refine aa (wpAny_isInstance (T:="StopIteration") (b:=true) ⟨o,ho,hc⟩ isSubtype_stop ?_);exact au (hQ _ hk)
end
def GC:Bool->Heap->Addr->Addr->Nat->Prop
 |true,h,it,l,k=>h.IsTupleIter it l k
 |false,h,it,l,k=>h.IsListIter it l k
def D2:Bool->Heap->Addr->Array Value->Prop
 |true,h,l,xs=>h.IsTuple l xs
 |false,h,l,xs=>h.IsList l xs
noncomputable def BR:Bool->String
 |true=>"tuple_iterator"
 |false=>"list_iterator"
theorem Bf(b:Bool){prog:Program}{w:World}{it t:Addr}{xs:Array Value}(hne:t≠it):Draws prog w it t xs (λk h=>GC b h it t k/\D2 b h t xs):=by
 cases b
 .exact Draws.lst hne
 .exact Draws.tup hne
theorem KW(b:Bool)(l:Addr)(xs:Array Value):Its (BR b) l (λh=>D2 b h l xs):=by
 intro prog w A E s Q c q;cases b
 .exact wpAny_pyIter_list c q
 .exact wpAny_pyIter_tuple c q
theorem D2.at{b:Bool}{h h':Heap}{l:Addr}{xs:Array Value}(c:D2 b h l xs)(e:∀o,h.get? l=some o->h'.get? l=some o):D2 b h' l xs:=by
 cases b
 .exact Heap.IsList.at c e
 .exact Heap.IsTuple.at c e
theorem GC.at{b:Bool}{h h':Heap}{it l:Addr}{k:Nat}(c:GC b h it l k)(e:∀o,h.get? it=some o->h'.get? it=some o):GC b h' it l k:=by
 cases b
 .exact Heap.IsListIter.at c e
 .exact Heap.IsTupleIter.at c e
theorem GC.obj{b:Bool}{h:Heap}{it l:Addr}{k:Nat}(c:GC b h it l k):∃o,h.get? it=some o/\∀v,o.data≠.cell v:=by
 cases b
 .obtain⟨o,e,_,d⟩:=c;exact⟨o,e,λv z=>by rw[d]at z;cases z⟩
 .obtain⟨o,e,_,d⟩:=c;exact⟨o,e,λv z=>by rw[d]at z;cases z⟩
theorem GC.new{b:Bool}{h:Heap}{it l:Addr}(e:h.get? it=some (GA (BR b) l)):GC b h it l 0:=by
 cases b
 .exact⟨_,e,rfl,rfl⟩
 .exact⟨_,e,rfl,rfl⟩
end Zp
end PySem
namespace L2
open PySem PySem.Spec PyProof.Rows
def SqB(b:Bool)(K:Fg)(H:Hp)(a:Addr)(xs:List V):Prop:=match b with|true=>SqT K H a xs|false=>SqL K H a xs
section
variable{X:Cx}{pins:List (Addr×Obj)}{U:St}{H:Hp}{s:Shared}{a:Addr}{xs ys:List V}{b:Bool}
theorem Inv.sqb(I:Inv X pins U H s)(h:SqB b X.K H a xs):∃its:List Value,Vals xs its/\Zp.D2 b s.heap a its.toArray/\xs.length<=sizeLine:=by
 cases b
 .obtain⟨its,r,p,z⟩:=I.list h;exact⟨its,r,p.isList,z⟩
 .obtain⟨its,r,p,z⟩:=I.tuple h;exact⟨its,r,p,z⟩
theorem Inv.JC(I:Inv X pins U H s)(h:SqB b X.K H a xs)(h':SqB b X.K H a ys):xs=ys:=by
 cases b
 .exact I.KR h h'
 .exact I.Ie h h'
theorem Inv.Hl{h':Heap}{t':Nat}{fp:List Addr}(I:Inv X pins U H s)(k:∀b o,b∉fp->s.heap.get? b=some o->h'.get? b=some o)(hf:∀b∈fp,Jt X pins H b):Inv X pins U H {s with heap:=h',toks:=t' }:=by
 have nit:∀b u,H b=some u->b∉fp:=λb u e z=>by rw[(hf b z).1]at e;cases e
 refine I.step (g':=s.gens) (d':=s.drawn) (ch:=fp) (λb hb=>?_) (λb o _ _ hc e _=>k b o hc e) (λb o _ _ hc e _=>⟨o.slots,k b o hc e⟩) (λ_ _ _ _ n=>n)
  (λb o hc e=>⟨o,k b o hc e⟩) (λ_ _ e=>e) (λ_ _ _ e=>e) (λb ps e=>⟨#[],by rw[e];simp⟩) (λm hm=>?_) (λb u e=>?_) I.bare
 .obtain⟨f0,f1,f2,f3,f4,f5⟩:=hf b hb;exact⟨f3,f1,f4,f5⟩
 .obtain⟨o,es,ep,ho,r⟩:=hm;exact⟨o,es,ep,k _ o (λz=>(hf _ z).2.1 rfl) ho,r⟩
 .refine(I.z9 b u e).MG (λc v hc q=>k c v ?_ q) (λ_ q=>q) λ_ _ q=>q
  rcases hc with z|z
  .rw[z];exact nit b u e
  .exact nit c _ z
end
def Itz(K:Fg)(b1:Bool)(a1:Addr)(b2:Bool)(a2:Addr):It :=
  ⟨λi H=>∃xs ys x y,SqB b1 K H a1 xs/\SqB b2 K H a2 ys/\xs[i]?=some x/\ys[i]?=some y,
   λi H x H'=>∃T vx vy,H T=none/\x=.ref T/\H'=upd H T (.tup [vx,vy])/\(∀xs,SqB b1 K H a1 xs->xs[i]?=some vx)/\∀ys,SqB b2 K H a2 ys->ys[i]?=some vy,
   λi H=>∃xs ys,SqB b1 K H a1 xs/\SqB b2 K H a2 ys/\(xs.length<=i\/ys.length<=i)⟩
theorem OL{P:Program}{w:World}{K:Fg}{elts:List Expr}{k0:Nat}{tpos:Pos}{b1 b2:Bool}{a1 a2 z TI TO i1 i2:Addr}(D:Zp.Apart z TI TO i1 i2 a1 a2) :
  Turn P w K (.Tuple elts k0 tpos) (Itz K b1 a1 b2 a2) [z,TI,TO,i1,i2] z (λi h=>IsZip h z TI TO .none/\IsPair h TI (.ref i1) (.ref i2)/\(∃a b,IsPair h TO a b)/\Zp.GC b1 h i1 a1 i/\Zp.GC b2 h i2 a2 i) where
 mem:=by simp
 obj:=λi h st b hb=>by
  obtain⟨hz,hTI,⟨ta,tb,hTO⟩,h1,h2⟩:=st;simp only[aH,aZ,or_false]at hb;rcases hb with rfl|rfl|rfl|rfl|rfl
  .exact⟨_,hz,λv z=>nomatch z⟩
  .exact⟨_,hTI,λv z=>nomatch z⟩
  .exact⟨_,hTO,λv z=>nomatch z⟩
  .exact h1.obj
  .exact h2.obj
 keep:=λi h h' st k=>by obtain⟨hz,hTI,⟨ta,tb,hTO⟩,h1,h2⟩:=st;exact⟨k z (by simp) _ hz,k TI (by simp) _ hTI,⟨ta,tb,k TO (by simp) _ hTO⟩,h1.at λo e=>k i1 (by simp) o e,h2.at λo e=>k i2 (by simp) o e⟩
 item:=by
  intro X hP hw hK hc i pins s U H E I hf st hg;subst hP hw hK;obtain⟨hz,hTI,⟨ta,tb,hTO⟩,h1,h2⟩:=st;obtain⟨xs,ys,x,y,q1,q2,ex,ey⟩:=hg;obtain⟨its1,r1,c1,z1⟩:=I.sqb q1;obtain⟨its2,r2,c2,z2⟩:=I.sqb q2;obtain⟨u1,hu1,ru1⟩:=r1.get ex;obtain⟨u2,hu2,ru2⟩:=r2.get ey;obtain⟨⟨TIz,TOz,i1z,i2z,l1z,l2z⟩,⟨TITO,TIi1,TIi2,TOi1,TOi2,i12⟩,⟨l1TO,l1i1,l1i2,l2TO,l2i1,l2i2⟩⟩:=id D;refine Zp.GL D (Zp.Bf b1 l1i1) (Zp.Bf b2 l2i2) hz hTI hTO ⟨h1,c1⟩ ⟨h2,c2⟩ (x:=u1) (y:=u2) (by simpa using hu1) (by simpa using hu2) λh' hz' hTO' s1' s2' hT' hs' hk'=>⟨_,rfl,?_⟩
  refine wpAny_letOwnedTupleGo_zip hz' λh2' hz2 sb=>?_
  have hTne:∀{c o},s.heap.get? c=some o->c≠s.heap.objs.size:=λe=>aS (az e)
  have Il:Inv X pins U (upd H s.heap.objs.size (.tup [x,y])) {s with heap:=s.heap.push {cls:=.type "tuple",data:=.seq #[u1,u2]},toks:=s.toks} :=
   I.laid (λb o e=>af _ e) (aJ _) ⟨by show 2<=sizeLine;rw[sizeLine_eq];decide,[u1,u2],.cons ru1 (.cons ru2 .nil),⟨_,aD _ rfl,rfl,_,rfl⟩⟩
  have hlt:∀b∈[z,TI,TO,i1,i2],b≠s.heap.objs.size:=λb hb=>by
   simp only[aH,aZ,or_false]at hb;rcases hb with rfl|rfl|rfl|rfl|rfl
   .exact hTne hz
   .exact hTne hTI
   .exact hTne hTO
   .obtain⟨o,e,_⟩:=h1.obj;exact hTne e
   .obtain⟨o,e,_⟩:=h2.obj;exact hTne e
  have hf':∀b∈[z,TI,TO,i1,i2],Jt X pins (upd H s.heap.objs.size (.tup [x,y])) b:=λb hb=>by obtain⟨f0,f⟩:=hf b hb;exact⟨by rw[Ai (hlt b hb)];exact f0,f⟩
  have I2:Inv X pins U (upd H s.heap.objs.size (.tup [x,y])) {s with heap:=h2',toks:=s.toks}:=Il.Hl (t':=s.toks) (λb o hb e=>by
   have nz:b≠z:=λq=>hb (by simp[q])
   refine sb.extBut _ _ nz ?_;by_cases hbT:b=s.heap.objs.size
   .subst hbT;have e':(s.heap.push {cls:=.type "tuple",data:=.seq #[u1,u2]}).get? s.heap.objs.size=some o:=e;rw[aD _ rfl]at e';cases e';exact hT'
   .have e':(s.heap.push {cls:=.type "tuple",data:=.seq #[u1,u2]}).get? b=some o:=e;rw[Heap.get?_push_ne _ _ _ hbT]at e';exact hk' b o nz (λq=>hb (by simp[q])) (λq=>hb (by simp[q])) (λq=>hb (by simp[q])) e') hf'
  refine⟨.ref s.heap.objs.size,_,I2,rfl,⟨s.heap.objs.size,x,y,I.z9.fresh (aJ _),rfl,rfl,λzs hz=>by rw[I.JC hz q1];exact ex,λzs hz=>by rw[I.JC hz q2];exact ey⟩,?_,λb hb=>(hf' b hb).1⟩;exact⟨hz2,sb.extBut _ _ TIz (hk' _ _ TIz TITO TIi1 TIi2 hTI),⟨_,_,sb.extBut _ _ TOz hTO'⟩,s1'.1.at λo e=>sb.extBut _ _ i1z e,s2'.1.at λo e=>sb.extBut _ _ i2z e⟩
 done:=by
  intro X hP hw hK hc i pins s U H E I hf st hg;subst hP hw hK;obtain⟨hz,hTI,⟨ta,tb,hTO⟩,h1,h2⟩:=st;obtain⟨xs,ys,q1,q2,hend⟩:=hg;obtain⟨its1,r1,c1,z1⟩:=I.sqb q1;obtain⟨its2,r2,c2,z2⟩:=I.sqb q2;have e1:=r1.length;have e2:=r2.length;obtain⟨_,_,⟨l1TO,l1i1,l1i2,l2TO,l2i1,l2i2⟩⟩:=id D;refine Zp.GN (I.ok.hd hc) D (Zp.Bf b1 l1i1) (Zp.Bf b2 l2i2) hz hTI hTO ⟨h1,c1⟩ ⟨h2,c2⟩ ?_ λh' hk=>⟨rfl,I.Hl (t':=s.toks) (λb o hb e=>hk b o (λq=>hb (by simp[q])) (λq=>hb (by simp[q])) (λq=>hb (by simp[q])) (λq=>hb (by simp[q])) e) hf⟩
  rcases hend with z|z
  .exact .inl (by simp;lia)
  .exact .inr (by simp;lia)
 self:=λ_ _ _ _ _ st h=>wpAny_pyIter_zip st.1 h
end L2
namespace PySem
namespace Zp
theorem made{h:Heap}{b1 b2:Bool}{l1 l2:Addr}{xs ys:Array Value}(c1:D2 b1 h l1 xs)(c2:D2 b2 h l2 ys) :
  ∃z TI TO i1 i2,z=(z4 h (BR b1) (BR b2) l1 l2).objs.size/\h.objs.size<=z/\h.objs.size<=TI/\h.objs.size<=TO/\h.objs.size<=i1/\h.objs.size<=i2/\Apart z TI TO i1 i2 l1 l2 /\
   IsZip (z5 h (BR b1) (BR b2) l1 l2) z TI TO .none/\IsPair (z5 h (BR b1) (BR b2) l1 l2) TI (.ref i1) (.ref i2)/\IsPair (z5 h (BR b1) (BR b2) l1 l2) TO .none .none /\
   GC b1 (z5 h (BR b1) (BR b2) l1 l2) i1 l1 0/\GC b2 (z5 h (BR b1) (BR b2) l1 l2) i2 l2 0/\∀c o,h.get? c=some o->(z5 h (BR b1) (BR b2) l1 l2).get? c=some o:=by
 have s1:(z1 h (BR b1) l1).objs.size=h.objs.size+1:=bF ..;have s2:(z2 h (BR b1) (BR b2) l1 l2).objs.size=h.objs.size+2:=by unfold z2;rw[bF,s1]
 have s3:(z3 h (BR b1) (BR b2) l1 l2).objs.size=h.objs.size+3:=by unfold z3;rw[bF,s2]
 have s4:(z4 h (BR b1) (BR b2) l1 l2).objs.size=h.objs.size+4:=by unfold z4;rw[bF,s3]
 have lt:∀{b:Bool}{l:Addr}{xs:Array Value},D2 b h l xs->l<h.objs.size:=λ{b l xs} c=>by
  cases b
  .obtain⟨o,e,_⟩:=c;exact az e
  .obtain⟨o,e,_⟩:=c;exact az e
 have t1:@LT.lt Nat _ l1 h.objs.size:=lt c1;have t2:@LT.lt Nat _ l2 h.objs.size:=lt c2;refine⟨(z4 h (BR b1) (BR b2) l1 l2).objs.size,(z2 h (BR b1) (BR b2) l1 l2).objs.size,(z3 h (BR b1) (BR b2) l1 l2).objs.size,h.objs.size,(z1 h (BR b1) l1).objs.size,rfl,by lia,by lia,by lia,by lia,by lia,⟨?_,?_,?_⟩,?_,?_,?_,?_,?_,?_⟩
 .rw[s1,s2,s3,s4];refine⟨?_,?_,?_,?_,?_,?_⟩<;>(intro e;have e2:@Eq Nat _ _:=e;lia)
 .rw[s1,s2,s3];refine⟨?_,?_,?_,?_,?_,?_⟩<;>(intro e;have e2:@Eq Nat _ _:=e;lia)
 .rw[s1,s3];refine⟨?_,?_,?_,?_,?_,?_⟩<;>(intro e;have e2:@Eq Nat _ _:=e;lia)
 .exact aD _ rfl
 .exact af _ (af _ (aD _ rfl))
 .exact af _ (aD _ rfl)
 .exact GC.new (af _ (af _ (af _ (af _ (aD _ rfl)))))
 .exact GC.new (af _ (af _ (af _ (aD _ rfl))))
 .exact λc o e=>af _ (af _ (af _ (af _ (af _ e))))
end Zp
end PySem
namespace L2
open PySem PySem.Spec PyProof.Rows
def JbK(K:Fg)(ta:TA):TI:=λU H R=>ta U H λvs H1=>∃b1 a1 b2 a2,vs=[.ref a1,.ref a2]/\(∃xs,SqB b1 K H1 a1 xs)/\(∃ys,SqB b2 K H1 a2 ys)/\R (Itz K b1 a1 b2 a2) H1
theorem VM{X:Cx}{a b:Expr}{ta:TA}{p pos tpos:Pos}{elts:List Expr}{k0:Nat}(hg:Gl X "zip")(hm:X.mg "zip"=none)(ha:PA X [a,b] ta)(hs:starEach [a,b] X.env=[(false,eval a X.env),(false,eval b X.env)]:=by rfl)(hs2:starEach [b] X.env=[(false,eval b X.env)]:=by rfl) :
  PI X (.Tuple elts k0 tpos) (.Call (.Name "zip" p) [a,b] [] pos) (JbK X.K ta):=by
 intro pins s U H R I h;refine Call_ (ER I hg hm boot_zip (callWith_type1 (thn (ha pos pins s U H _ I h) λus s1 hpt=>?_) (by rw[hs,hs2]) (by rw[hs2];rfl)));obtain⟨vs,H1,I1,r1,q1⟩:= hpt;obtain⟨b1,a1,b2,a2,e,⟨xs,hx⟩,⟨ys,hy⟩,q⟩:=q1;subst e;cases r1 with
 |cons r rr =>
  cases rr with
  |cons r' rr =>
   cases rr;cases r;cases r';obtain⟨its1,rv1,c1,_⟩:=I1.sqb hx;obtain⟨its2,rv2,c2,_⟩:=I1.sqb hy;refine Zp.Lg (T1:=Zp.BR b1) (T2:=Zp.BR b2) (C1:=λh=>Zp.D2 b1 h a1 its1.toArray) (C2:=λh=>Zp.D2 b2 h a2 its2.toArray) (Zp.KW b1 a1 its1.toArray) (Zp.KW b2 a2 its2.toArray) (λh o c=>Zp.D2.at (b:=b2) c λo e=>af _ e) c1 c2 ?_;obtain⟨z,TI,TO,i1,i2,ez,g0,g1,g2,g3,g4,D,hz,hTI,hTO,t1,t2,hk⟩:=Zp.made c1 c2;rw[<- ez];refine wpAny_pyIter_zip hz ⟨z,[z,TI,TO,i1,i2],_,Itz X.K b1 a1 b2 a2,H1,rfl,I1.kept (t':=s1.toks) hk,OL D,⟨hz,hTI,⟨_,_,hTO⟩,t1,t2⟩,λb hb=>?_,q⟩;have hge:s1.heap.objs.size<=b:=by simp only[aH,aZ,or_false]at hb;rcases hb with rfl|rfl|rfl|rfl|rfl<;>assumption
   exact I1.Rm hge (I1.z9.fresh hge)
end L2
namespace PySem
end PySem
namespace L2
open PySem PySem.Spec PyProof.Rows
section
variable{X:Cx}
def Q2(K:Fg):R2:=λx y H Q=>∃a b ys,x=.ref a/\y=.ref b/\SqT K H a []/\SqT K H b ys/\Q (.ref b) H
theorem Pk:OpR X (binaryOp .Add) (Q2 X.K):=by intro pins s U H x y v u Q I rx ry h;obtain⟨a,b,ys,rfl,rfl,ha,hb,q⟩:=h;cases rx;cases ry;obtain⟨its,r1,⟨⟨cls,dd,data,sl⟩,ho,hc,n,hd⟩,_⟩:=I.tuple ha;obtain⟨its2,r2,⟨⟨cls2,dd2,data2,sl2⟩,ho2,hc2,n2,hd2⟩,_⟩:=I.tuple hb;simp only at hc hd hc2 hd2;subst hc hd hc2 hd2;cases r1;exact concat_meets ⟨_,ho,rfl⟩ ⟨_,ho2,rfl⟩ noFill_tuple_add seq_tuple_add slot_tuple_add entry_tuple_add (args_tuple_add_2 _ _) (tuple_addW0 a b _ _ n n2 dd dd2 sl sl2 (by simp)) ⟨ho,ho2,⟨.ref b,H,I,rfl,q⟩⟩
theorem Kg(T:String):Co X (.builtin "isinstance") (λxs H Q=>∃x t b,xs=[x,.ty T]/\Lr X.K H x t/\kitOne X.K t (.type T)=some b/\Q (.o b) H):=by intro pins s U H xs us Q I r h;obtain⟨x,t,b,rfl,ty,e,q⟩:=h;cases r with|cons r1 rr =>cases rr with|cons r2 rr =>cases rr;obtain rfl:_=Value.type T:=r2;exact NB I r1 ty e λtk=>⟨.o b,H,I.tok tk,rfl,q⟩
end
end L2
namespace PySem
namespace Zp
abbrev HZ(h:Heap)(z TI TO a:Addr)(f:Bool):Prop:=h.get? z=some {cls:=.type "zip",data:=.fields #[rawInt a,.bool f,.bool false,.ref TI,.ref TO]}
section
variable{prog:Program}{w:World}{A:Around}{E:Value->Shared->Prop}{s:Shared}{z TI TO i1 i2 l1 l2 ad:Addr}{xs ys:Array Value}{S1 S2:Nat->Heap->Prop}
theorem alive{a:Addr}{o:Obj}{Q:Option Obj->Shared->Prop}(ho:s.heap.get? a=some o)(h:Q (some o) s):wpAny (model prog w) A (loadIfAlive a) Q E s:=by
 have h':Q (s.heap.get? a) s:=by rw[ho];exact h
 exact λ_ _ _=>h'
theorem Nk{f:Bool}{oa:Obj}{Q:Bool->Shared->Prop}(hz:HZ s.heap z TI TO ad f)(ha:s.heap.get? ad=some oa)(hQ:∀h',HZ h' z TI TO ad true->Heap.SameBut z s.heap h'->Q false {s with heap:=h' }) :
  wpAny (model prog w) A (Builtin.SmallTypes.ownedTupleIsFree (.ref z)) Q E s:=by
 unfold Builtin.SmallTypes.ownedTupleIsFree;refine aa (aY hz rfl (x:=rawInt ad) rfl ?_);show wpAny _ _ (loadIfAlive ((ad:Int).toNat) >>= _) _ _ _;rw[bD];refine aa (alive ha ?_);simp only[Option.isNone_some,bC,if_false];refine aa (aY hz rfl (x:=.bool f) rfl ?_);cases f with|true =>rw[if_neg (show ¬((Value.bool true !=Value.bool true)=true)from aQ)];exact au (hQ s.heap hz (Heap.SameBut.refl _ _))|false =>rw[if_pos (show(Value.bool false !=Value.bool true)=true from rfl)];exact aa (wpAny_setField_rec hz (by simp) λh3 he hs=>au (hQ h3 he hs))
theorem Nl(D:Apart z TI TO i1 i2 l1 l2)(W1:Draws prog w i1 l1 xs S1)(W2:Draws prog w i2 l2 ys S2){k:Nat}{f:Bool}{oa:Obj}{x y:Value}{Q:Value->Shared->Prop}
  (hz:HZ s.heap z TI TO ad f) (ha:s.heap.get? ad=some oa) (hTI:IsPair s.heap TI (.ref i1) (.ref i2)) (h1:S1 k s.heap) (h2:S2 k s.heap) (hx:xs[k]?=some x) (hy:ys[k]?=some y)
  (hQ:∀h',HZ h' z TI TO ad true->S1 (k+1) h'->S2 (k+1) h'->IsPair h' s.heap.objs.size x y->h'.objs.size=s.heap.objs.size+1 ->
   (∀c o,c≠z->c≠i1->c≠i2->s.heap.get? c=some o->h'.get? c=some o)->Q (.ref s.heap.objs.size) {s with heap:=h' }) :
  wpAny (model prog w) A (Builtin.«zip.__next__» ⟨[.ref z],[]⟩) (λfin s'=>∃v,fin=.done (.ret v)/\Q v s') E s:=by
 obtain⟨⟨TIz,TOz,i1z,i2z,l1z,l2z⟩,⟨TITO,TIi1,TIi2,TOi1,TOi2,i12⟩,⟨l1TO,l1i1,l1i2,l2TO,l2i1,l2i2⟩⟩:=D;show wpAny _ _ (field (.ref z) 2 >>= _) _ _ _;refine aa (aY hz rfl (x:=.bool false) rfl ?_);show wpAny _ _ (field (.ref z) 3 >>= _) _ _ _;refine aa (aY hz rfl (x:=.ref TI) rfl ?_);refine aa (wpAny_seqItems hTI rfl ?_);show wpAny _ _ (Builtin.SmallTypes.ownedTupleIsFree (.ref z) >>= _) _ _ _;refine aa (Nk hz ha λhA hzA hsA=>?_);simp only[bC,if_false];simp only[<- Array.forIn_toList,bX,List.forIn_nil];refine aa (aa (aa (wpAny_holding ?_)));show wpAny _ _ (Builtin.SmallTypes.nextOf (.ref i1) >>= _) _ _ _;have h1a:S1 k hA:=W1.keep _ _ _ h1 (λo e=>hsA.extBut _ _ i1z e) λo e=>hsA.extBut _ _ l1z e
 refine aa (W1.item _ _ k x _ _ h1a hx λhb h1b hsb=>au (au ?_));refine aa (aa (wpAny_holding ?_));show wpAny _ _ (Builtin.SmallTypes.nextOf (.ref i2) >>= _) _ _ _;have h2b:S2 k hb:=W2.keep _ _ _ h2 (λo e=>hsb.extBut _ _ (Ne.symm i12) (hsA.extBut _ _ i2z e)) λo e=>hsb.extBut _ _ l2i1 (hsA.extBut _ _ l2z e)
 refine aa (W2.item _ _ k y _ _ h2b hy λhd h2d hsd=>au (au (au ?_)));refine aa (wpAny_newTuple (hsz:=by show 2<=sizeLine;rw[sizeLine_eq];decide) ?_);have hsz:hd.objs.size=s.heap.objs.size:=by rw[hsd.1,hsb.1,hsA.1]
 have kp:∀c o,c≠z->c≠i1->c≠i2->s.heap.get? c=some o->hd.get? c=some o:=λc o c1 c2 c3 e=>hsd.extBut _ _ c3 (hsb.extBut _ _ c2 (hsA.extBut _ _ c1 e))
 have h1d:S1 (k+1) hd:=W1.keep _ _ _ h1b (λo e=>hsd.extBut _ _ i12 e) λo e=>hsd.extBut _ _ l1i2 e
 refine au ⟨_,rfl,?_⟩;show Q (.ref hd.objs.size) _;rw[hsz];refine hQ _ (af _ (hsd.extBut _ _ (Ne.symm i2z) (hsb.extBut _ _ (Ne.symm i1z) hzA))) (W1.keep _ _ _ h1d (λo e=>af _ e) λo e=>af _ e) (W2.keep _ _ _ h2d (λo e=>af _ e) λo e=>af _ e) ?_ (by rw[bF,hsz]) λc o c1 c2 c3 e=>af _ (kp c o c1 c2 c3 e)
 rw[<- hsz];exact aD _ rfl
theorem Qr(hh:A.handled=none)(D:Apart z TI TO i1 i2 l1 l2)(W1:Draws prog w i1 l1 xs S1)(W2:Draws prog w i2 l2 ys S2){k:Nat}{f:Bool}{oa:Obj}{Q:Fin->Shared->Prop}
  (hz:HZ s.heap z TI TO ad f) (ha:s.heap.get? ad=some oa) (hTI:IsPair s.heap TI (.ref i1) (.ref i2)) (h1:S1 k s.heap) (h2:S2 k s.heap) (hend:xs[k]?=none\/ys[k]?=none)
  (hE:∀h' e,(∀c o,c≠z->c≠i1->c≠i2->s.heap.get? c=some o->h'.get? c=some o)->(∃o,h'.get? e=some o/\o.cls=.type "StopIteration")->E (.ref e) {s with heap:=h' }) :
  wpAny (model prog w) A (Builtin.«zip.__next__» ⟨[.ref z],[]⟩) Q E s:=by
 obtain⟨⟨TIz,TOz,i1z,i2z,l1z,l2z⟩,⟨TITO,TIi1,TIi2,TOi1,TOi2,i12⟩,⟨l1TO,l1i1,l1i2,l2TO,l2i1,l2i2⟩⟩:=D;show wpAny _ _ (field (.ref z) 2 >>= _) _ _ _;refine aa (aY hz rfl (x:=.bool false) rfl ?_);show wpAny _ _ (field (.ref z) 3 >>= _) _ _ _;refine aa (aY hz rfl (x:=.ref TI) rfl ?_);refine aa (wpAny_seqItems hTI rfl ?_);show wpAny _ _ (Builtin.SmallTypes.ownedTupleIsFree (.ref z) >>= _) _ _ _;refine aa (Nk hz ha λhA hzA hsA=>?_);simp only[bC,if_false];simp only[<- Array.forIn_toList,bX,List.forIn_nil];refine aa (aa (aa (wpAny_holding ?_)));show wpAny _ _ (Builtin.SmallTypes.nextOf (.ref i1) >>= _) _ _ _;have h1a:S1 k hA:=W1.keep _ _ _ h1 (λo e=>hsA.extBut _ _ i1z e) λo e=>hsA.extBut _ _ l1z e
 cases hx:xs[k]? with
 |none=>exact aa (W1.stop _ _ k _ _ hh h1a hx λhb e hsb he=>hE hb e (λc o c1 c2 c3 q=>hsb _ _ c2 (hsA.extBut _ _ c1 q)) he)
 |some x =>
  have hy:ys[k]?=none:=by
   rcases hend with h|h
   .rw[hx]at h;cases h
   .exact h
  refine aa (W1.item _ _ k x _ _ h1a hx λhb h1b hsb=>au (au ?_));refine aa (aa (wpAny_holding ?_));show wpAny _ _ (Builtin.SmallTypes.nextOf (.ref i2) >>= _) _ _ _;have h2b:S2 k hb:=W2.keep _ _ _ h2 (λo e=>hsb.extBut _ _ (Ne.symm i12) (hsA.extBut _ _ i2z e)) λo e=>hsb.extBut _ _ l2i1 (hsA.extBut _ _ l2z e)
  exact aa (W2.stop _ _ k _ _ hh h2b hy λhd e hsd he=>hE hd e (λc o c1 c2 c3 q=>hsd _ _ c3 (hsb.extBut _ _ c2 (hsA.extBut _ _ c1 q))) he)
theorem JE(D:Apart z TI TO i1 i2 l1 l2)(W1:Draws prog w i1 l1 xs S1)(W2:Draws prog w i2 l2 ys S2){k:Nat}{f:Bool}{oa:Obj}{x y:Value}{Q:Option Value->Shared->Prop}
  (hz:HZ s.heap z TI TO ad f) (ha:s.heap.get? ad=some oa) (hTI:IsPair s.heap TI (.ref i1) (.ref i2)) (h1:S1 k s.heap) (h2:S2 k s.heap) (hx:xs[k]?=some x) (hy:ys[k]?=some y)
  (hQ:∀h',HZ h' z TI TO ad true->S1 (k+1) h'->S2 (k+1) h'->IsPair h' s.heap.objs.size x y->h'.objs.size=s.heap.objs.size+1 ->
   (∀c o,c≠z->c≠i1->c≠i2->s.heap.get? c=some o->h'.get? c=some o)->Q (some (.ref s.heap.objs.size)) {s with heap:=h' }):wpAny (model prog w) A (pyNext (.ref z)) Q E s:=by
 have hT:s.TypeIs (.ref z) "zip":=⟨_,hz,rfl⟩
 unfold pyNext;exact aa (wpAny_attempt (wpAny_callSpecial?_slot (name:=Str.ofString "__next__") hT F.slot_zip_next (wpAny_call_entry F.slot_zip_next hT F.entry_zip_next
  (Nl D W1 W2 hz ha hTI h1 h2 hx hy λh' a1 a3 a4 a5 a6 a7=>au (hQ h' a1 a3 a4 a5 a6 a7)) (F.args_zip_next_1 _))))
theorem LI(hh:A.handled=none)(D:Apart z TI TO i1 i2 l1 l2)(W1:Draws prog w i1 l1 xs S1)(W2:Draws prog w i2 l2 ys S2){k:Nat}{f:Bool}{oa:Obj}{Q:Option Value->Shared->Prop}
  (hz:HZ s.heap z TI TO ad f) (ha:s.heap.get? ad=some oa) (hTI:IsPair s.heap TI (.ref i1) (.ref i2)) (h1:S1 k s.heap) (h2:S2 k s.heap) (hend:xs[k]?=none\/ys[k]?=none)
  (hQ:∀h',(∀c o,c≠z->c≠i1->c≠i2->s.heap.get? c=some o->h'.get? c=some o)->Q none {s with heap:=h' }):wpAny (model prog w) A (pyNext (.ref z)) Q E s:=by
 have hT:s.TypeIs (.ref z) "zip":=⟨_,hz,rfl⟩
 unfold pyNext;refine aa (wpAny_attempt (wpAny_callSpecial?_slot (name:=Str.ofString "__next__") hT F.slot_zip_next (wpAny_call_entry F.slot_zip_next hT F.entry_zip_next
  (Qr (A:=A.in1) (show A.in1.handled=none from hh) D W1 W2 hz ha hTI h1 h2 hend λh' e hk he=>?_) (F.args_zip_next_1 _))))
 obtain⟨o,ho,hc⟩:=he;refine aa (wpAny_isInstance (T:="StopIteration") (b:=true) ⟨o,ho,hc⟩ isSubtype_stop ?_);exact au (hQ _ hk)
end
def Frs(b1 b2:Bool)(h:Heap)(z TI TO i1 i2 l1 l2 lo:Addr)(i:Nat):Prop :=
 ((i=0/\IsZip h z TI TO .none/\∃a b,IsPair h TO a b)\/∃ad f oa,HZ h z TI TO ad f/\h.get? ad=some oa/\lo<=ad)/\IsPair h TI (.ref i1) (.ref i2)/\GC b1 h i1 l1 i/\GC b2 h i2 l2 i
theorem Frs.keep{b1 b2:Bool}{h h':Heap}{z TI TO i1 i2 l1 l2 lo S:Addr}{i:Nat}(x:Frs b1 b2 h z TI TO i1 i2 l1 l2 lo i)(hk:∀b o,b≠S->h.get? b=some o->h'.get? b=some o)(hS:∀b∈[z,TI,TO,i1,i2],b≠S)(hlo:S<lo):Frs b1 b2 h' z TI TO i1 i2 l1 l2 lo i:=by
 obtain⟨x,p,t1,t2⟩:=x;refine⟨?_,hk _ _ (hS _ (by simp)) p,t1.at λo e=>hk _ o (hS _ (by simp)) e,t2.at λo e=>hk _ o (hS _ (by simp)) e⟩;rcases x with⟨e,hz,a,b,ht⟩|⟨ad,f,oa,hz,ha,hl⟩
 .exact .inl ⟨e,hk _ _ (hS _ (by simp)) hz,a,b,hk _ _ (hS _ (by simp)) ht⟩
 .exact .inr ⟨ad,f,oa,hk _ _ (hS _ (by simp)) hz,hk _ _ (λq=>absurd (aE hlo hl) (by rw[q];exact bA _)) ha,hl⟩
section
variable{prog:Program}{w:World}{A:Around}{E:Value->Shared->Prop}{s:Shared}{z TI TO i1 i2 l1 l2 ad lo S:Addr}{xs ys:Array Value}{b1 b2:Bool}{R:Result->Shared->Prop}
theorem ON(D:Apart z TI TO i1 i2 l1 l2){k:Nat}{x y:Value}{Q:Option Value->Shared->Prop}(st:Frs b1 b2 s.heap z TI TO i1 i2 l1 l2 lo k)(c1:D2 b1 s.heap l1 xs)(c2:D2 b2 s.heap l2 ys)(hx:xs[k]?=some x)(hy:ys[k]?=some y)(hl:lo<=s.heap.objs.size)(hlo:∀b∈[z,TI,TO,i1,i2,l1,l2],b<lo)
  (hQ:∀h',Frs b1 b2 h' z TI TO i1 i2 l1 l2 lo (k+1)->D2 b1 h' l1 xs->D2 b2 h' l2 ys->IsPair h' s.heap.objs.size x y->h'.objs.size=s.heap.objs.size+1 ->
   (∀c o,c≠z->c≠TO->c≠i1->c≠i2->s.heap.get? c=some o->h'.get? c=some o)->Q (some (.ref s.heap.objs.size)) {s with heap:=h' }):wpAny (model prog w) A (pyNext (.ref z)) Q E s:=by
 obtain⟨x0,p,t1,t2⟩:=st;obtain⟨⟨TIz,TOz,i1z,i2z,l1z,l2z⟩,⟨TITO,TIi1,TIi2,TOi1,TOi2,i12⟩,⟨l1TO,l1i1,l1i2,l2TO,l2i1,l2i2⟩⟩:=id D;rcases x0 with⟨e,hz,a,b,ht⟩|⟨ad,f,oa,hz,ha,hl2⟩
 .exact GL D (Bf b1 l1i1) (Bf b2 l2i2) hz p ht ⟨t1,c1⟩ ⟨t2,c2⟩ hx hy λh' hz' _ s1 s2 hp hs hk=>hQ h' ⟨.inr ⟨_,false,_,hz',hp,hl⟩,hk _ _ TIz TITO TIi1 TIi2 p,s1.1,s2.1⟩ s1.2 s2.2 hp hs hk
 .have hne:∀b∈[z,TI,TO,i1,i2,l1,l2],ad≠b:=λb hb q=>absurd (aE (hlo b hb) hl2) (by rw[q];exact bA _)
  exact JE D (Bf b1 l1i1) (Bf b2 l2i2) hz ha p ⟨t1,c1⟩ ⟨t2,c2⟩ hx hy λh' hz' s1 s2 hp hs hk=>hQ h' ⟨.inr ⟨ad,true,oa,hz',hk _ _ (hne _ (by simp)) (hne _ (by simp)) (hne _ (by simp)) ha,hl2⟩,hk _ _ TIz TIi1 TIi2 p,s1.1,s2.1⟩ s1.2 s2.2 hp hs λc o q1 _ q3 q4 e=>hk c o q1 q3 q4 e
theorem Ul(hh:A.handled=none)(D:Apart z TI TO i1 i2 l1 l2){k:Nat}{Q:Option Value->Shared->Prop}(st:Frs b1 b2 s.heap z TI TO i1 i2 l1 l2 lo k)(c1:D2 b1 s.heap l1 xs)(c2:D2 b2 s.heap l2 ys)(hend:xs[k]?=none\/ys[k]?=none)
  (hQ:∀h',(∀c o,c≠z->c≠TO->c≠i1->c≠i2->s.heap.get? c=some o->h'.get? c=some o)->Q none {s with heap:=h' }):wpAny (model prog w) A (pyNext (.ref z)) Q E s:=by
 obtain⟨x0,p,t1,t2⟩:=st;obtain⟨⟨TIz,TOz,i1z,i2z,l1z,l2z⟩,⟨TITO,TIi1,TIi2,TOi1,TOi2,i12⟩,⟨l1TO,l1i1,l1i2,l2TO,l2i1,l2i2⟩⟩:=id D;rcases x0 with⟨e,hz,a,b,ht⟩|⟨ad,f,oa,hz,ha,hl2⟩
 .exact GN hh D (Bf b1 l1i1) (Bf b2 l2i2) hz p ht ⟨t1,c1⟩ ⟨t2,c2⟩ hend hQ
 .exact LI hh D (Bf b1 l1i1) (Bf b2 l2i2) hz ha p ⟨t1,c1⟩ ⟨t2,c2⟩ hend λh' hk=>hQ h' λc o q1 _ q3 q4 e=>hk c o q1 q3 q4 e
end
end Zp
end PySem
namespace PySem
namespace F
end F
namespace Zp
section
variable{prog:Program}{w:World}{A:Around}{E:Value->Shared->Prop}{s:Shared}{z TI TO i1 i2 l1 l2 S:Addr}{xs ys:Array Value}{b1 b2:Bool}{R:Result->Shared->Prop}
end
end Zp
end PySem
namespace L2
open PySem PySem.Spec PyProof.Rows
section
variable{X:Cx}{pins:List (Addr×Obj)}{U:St}{H H':Hp}{s:Shared}
theorem Inv.To{h':Heap}{t':Nat}{fp:List Addr}(I:Inv X pins U H s)(k:∀b o,b∉fp->s.heap.get? b=some o->h'.get? b=some o)(hf:∀b∈fp,Jt X pins H b)
  (up:∀b u,H b=some u->H' b=some u) (dn:∀b u,H' b=some u->H b=some u\/(s.heap.objs.size<=b/\A4 X.prog X.w H' h' b u)):Inv X pins U H' {s with heap:=h',toks:=t' }:=by
 have nit:∀b u,H b=some u->b∉fp:=λb u e z=>by rw[(hf b z).1]at e;cases e
 refine I.step (g':=s.gens) (d':=s.drawn) (ch:=fp) (λb hb=>?_) (λb o _ _ hc e _=>k b o hc e) (λb o _ _ hc e _=>⟨o.slots,k b o hc e⟩) (λb o _ e n=>?_)
  (λb o hc e=>⟨o,k b o hc e⟩) (λb _ e=>up b _ e) (λb _ _ e=>up b _ e) (λb ps e=>⟨#[],by rw[up b _ e];simp⟩) (λm hm=>?_) (λb u e=>?_) I.bare
 .obtain⟨f0,f1,f2,f3,f4,f5⟩:=hf b hb;exact⟨f3,f1,f4,f5⟩
 .cases q:H' b with
  |none=>rfl
  |some u =>
   rcases dn b u q with z|z
   .rw[n]at z;cases z
   .exact absurd (aE (az e) z.1) (bA _)
 .obtain⟨o,es,ep,ho,r⟩:=hm;exact⟨o,es,ep,k _ o (λz=>(hf _ z).2.1 rfl) ho,r⟩
 .rcases dn b u e with z|z
  .refine(I.z9 b u z).MG (λc v hc q=>k c v ?_ q) (λc q=>up c _ q) λc _ q=>up c _ q
   rcases hc with y|y
   .rw[y];exact nit b u z
   .exact nit c _ y
  .exact z.2
end
end L2
namespace PySem
open PyProof.Rows (IsTup)
namespace Rv
section
variable{prog:Program}{w:World}{A:Around}{E:Value->Shared->Prop}{s:Shared}
end
end Rv
end PySem
namespace L2
open PySem PySem.Spec PyProof.Rows
end L2
namespace HT
open PySem PyProof.Rows
section
variable{prog:Program}{w:World}{A:Around}{E:Value->Shared->Prop}{s:Shared}
theorem EF{t sl:Addr}{items:Array Value}{vl vu:Value}{lo hi:Option Int}{Q:Value->Shared->Prop}(ht:IsTup s.heap t items)(hs:s.heap.IsSliceOf sl vl vu .none)(pl:IsPart vl lo)(pu:IsPart vu hi)
  (hw:sIx items.size 0 lo=0/\sIx items.size items.size hi=items.size) (h:Q (.ref t) s):wpAny (model prog w) A (getItem (.ref t) (.ref sl)) Q E s:=by
 obtain⟨os,hos,hcs,hds⟩:=id hs;have hTs:s.TypeIs (.ref sl) "slice":=⟨os,hos,hcs⟩
 unfold getItem
 try with_reducible refine wpAny_holding ?_
 first|refine aa (au ?_)|skip
 refine aa (wpAny_sequenceKey ht.typeIs (by decide) ?_);refine aa (wpAny_callSpecial?_slot (name:=Str.ofString "__getitem__") ht.typeIs slot_tuple_getitem
  (wpAny_call_entry slot_tuple_getitem ht.typeIs entry_tuple_getitem ?_ (args_tuple_getitem _ _)))
 show wpAny _ _ (Builtin.Tuple.tupleItemsOf (.ref t) >>= _) _ _ s;refine aa (tupleItemsOf_ ht ?_);refine aa (wpAny_typeOf hTs ?_);rw[if_pos (by decide)];refine aa (Di hs pl pu ?_);have hyes:(((sIx items.size 0 lo:Nat):Int)==0&&(1:Int)==1&&(sIx items.size items.size hi-sIx items.size 0 lo)==items.size)=true:=by rw[hw.1,hw.2];simp
 show wpAny _ _ (if(((sIx items.size 0 lo:Nat):Int)==0&&(1:Int)==1&&(sIx items.size items.size hi-sIx items.size 0 lo)==items.size)=true then _ else _) _ _ s;rw[if_pos hyes];refine aa ?_;unfold Builtin.Tuple.tupleIsExact;refine aa (wpAny_typeOf ht.typeIs (au ?_));rw[if_pos (by decide)];exact aa (wpAny_rule (au ⟨_,rfl,au h⟩))
end
end HT
namespace L2
open PySem PySem.Spec PyProof.Rows
def Jby(K:Fg):V->Option Int->Option Int->Hp->VK->Prop:=λx lo hi H Q=>∃a xs,x=.ref a/\SqT K H a xs/\(HT.sIx xs.length 0 lo=0/\HT.sIx xs.length xs.length hi=xs.length)/\Q (.ref a) H
theorem Vn{X:Cx}:SlR X (Jby X.K):=by
 intro pins s U H x v vl vu lo hi sl Q I rx hs pl pu h;obtain⟨a,xs,rfl,hx,hw,q⟩:=h;cases rx;obtain⟨its,r,ht,hz⟩:=I.tuple hx;have hlen:its.toArray.size=xs.length:=by rw[ax];exact r.length.symm
 refine⟨"tuple",_,PyProof.Rows.slot_tuple_getitem.lookup,ht.typeIs,?_⟩;exact HT.EF ht hs pl pu (by rw[hlen];exact hw) ⟨.ref a,H,I,rfl,q⟩
end L2
namespace L2
open PySem PySem.Spec PySem.W PyProof.Rows
noncomputable def CU:List Int->Nat
 | []=>0
 |n::ns=>Builtin.Int.intBits n+1+CU ns
theorem Gb:∀ns:List Int,WData.weightAll (ns.map WData.int)=CU ns
 | []=>by simp[WData.weightAll,CU]
 |n::ns=>by simp only[aj,WData.weightAll,CU,WData.weight,Gb ns];rfl
end L2
namespace L2
open PySem PySem.Spec
theorem Vt{k:Key}{u:Value}(h:Gz k u=true):RelV (kV k) u:=by
 cases k with
 |inl i =>
  have h:Value.isInt i u=true:=h;cases u<;>first
   |(simp[Value.isInt]at h;subst h;exact⟨_,rfl⟩)
   |(simp[Value.isInt]at h)
   |(cases h)
 |inr x =>
  have h:Value.isStrOf x u=true:=h;cases u<;>first
   |(simp[Value.isStrOf]at h;subst h;exact⟨_,rfl⟩)
   |(simp[Value.isStrOf]at h)
   |(cases h)
noncomputable def Jas(o:Obj):Nat:=match o.data with|.dict _ ep=>ep|_=>0
def Itd(a:Addr)(o:Obj)(kvs:List (Key×V)):It :=
 ⟨λi H=>H a=some (.frz o (.l kvs))/\i<kvs.length,λi H x H'=>H'=H/\∃k,(kvs.map (·.1))[i]?=some k/\x=kV k,λi H=>H a=some (.frz o (.l kvs))/\kvs.length<=i⟩
section
variable{X:Cx}{pins:List (Addr×Obj)}{U:St}{H:Hp}{s:Shared}{a:Addr}{o:Obj}{kvs:List (Key×V)}
theorem Inv.Jai(I:Inv X pins U H s)(e:H a=some (.frz o (.l kvs))):(a==sysModules)=false/\∃vs,KV kvs vs/\s.heap.DictAt (A0 X.prog X.w) a vs (Jas o):=by
 obtain⟨h1,h2⟩:=(show A4 X.prog X.w H s.heap a (.frz o (.l kvs))from I.z9 a _ e)
 obtain⟨z,hd,vs,rel,dd⟩:=(show kvs.length<=sizeLine/\(a==sysModules)=false/\∃vs,KV kvs vs/\s.heap.DictOf (A0 X.prog X.w) a vs from h2)
 refine⟨hd,vs,rel,?_⟩;obtain⟨o',es,ep,ho,hc,hdat,r⟩:=dd;rw[h1]at ho;cases ho;refine⟨o,es,h1,hc,?_,r⟩;rw[hdat];unfold Jas;rw[hdat]
theorem Inv.freeze(I:Inv X pins U H s)(e:H a=some (.l kvs)):∃o,Inv X pins U (upd H a (.frz o (.l kvs))) s:=by
 have h2:=(show A4 X.prog X.w H s.heap a (.l kvs)from I.z9 a _ e)
 obtain⟨z,hd,vs,rel,dd⟩:=(show kvs.length<=sizeLine/\(a==sysModules)=false/\∃vs,KV kvs vs/\s.heap.DictOf (A0 X.prog X.w) a vs from h2)
 obtain⟨o,es,ep,ho,r⟩:=id dd;exact⟨o,I.write (x:=a) (e:=a) (t':=s.toks) (h':=s.heap) (by rw[e];exact True.intro) (.inl rfl) (λ_ _ _ z=>z) ⟨o,ho⟩ ⟨ho,z,hd,vs,rel,dd⟩⟩
end
theorem MD{P:Program}{w:World}{K:Fg}{tg:Expr}(a it:Addr)(o:Obj)(kvs:List (Key×V)):Turn P w K tg (Itd a o kvs) [it] it (λi h=>h.IsKeyIter it a i kvs.length (Jas o)) where
 mem:=by simp
 obj:=λi h st b hb=>by
  have e:b=it:=by simpa using hb
  subst e;obtain⟨o,e,c,d⟩:=st;exact⟨o,e,λv z=>by rw[d]at z;cases z⟩
 keep:=λi h h' st k=>by obtain⟨o,e,r⟩:=st;exact⟨o,k it (by simp) o e,r⟩
 item:=by
  intro X hP hw hK hc i pins s U H E I hf st hg;subst hP hw hK;obtain⟨he,hi⟩:=hg;obtain⟨hd,vs,rel,da⟩:=I.Jai he;have hl:=rel.length;have hi':i<vs.length:=by lia
  obtain⟨f0,f1,f2,f3,f4,f5⟩:=hf it (by simp);have hx:vs[i]?=some ((vs[i]).1,(vs[i]).2):=ag hi';rw[hl]at st;refine wpAny_pyNext_dict_item st da hx λkey h' hk st' sb=>?_
  rw[<- hl]at st';have I1:Inv X pins U H {s with heap:=h' }:=I.turned (t':=s.toks) (λb o hb e=>(sb.2 b hb).trans e) f0 f1 f3 f4 f5;obtain⟨o',e,c,d⟩:=id st';have hkk:(kvs.map (·.1))[i]?=some (vs[i]).1:=by
   have:kvs.map (·.1)=vs.map (·.1):=by
    clear hx hi' hl da st hk st' sb I1 e c d he hi;unfold KV at rel
    induction rel with|nil=>rfl|cons h t ih=>rw[aj,aj,h.1,ih]
   rw[this,aP,ag hi'];rfl
  exact⟨key,rfl,P2 (s:={s with heap:=h' }) e c d (by decide) ⟨kV (vs[i]).1,H,I1,Vt hk,⟨rfl,_,hkk,rfl⟩,st',λb hb=>(hf b hb).1⟩⟩
 done:=by intro X hP hw hK hc i pins s U H E I hf st hg;subst hP hw hK;obtain⟨he,hi⟩:=hg;obtain⟨hd,vs,rel,da⟩:=I.Jai he;have hl:=rel.length;obtain⟨f0,f1,f2,f3,f4,f5⟩:=hf it (by simp);rw[hl]at st;exact wpAny_pyNext_dict_end (I.ok.hd hc) st da (cA (by lia)) λh' eb=>⟨rfl,I.turned (t':=s.toks) (λb o hb e=>eb b o hb e) f0 f1 f3 f4 f5⟩
 self:=λ_ _ _ _ _ st h=>wpAny_pyIter_keyiter st h
section
variable{X:Cx}{tg:Expr}
end
section
variable{X:Cx}
theorem Ga(hc:X.calm=true):Co X (.type "list") (λxs H Q=>∃p kvs,xs=[.ref p]/\Rd H p (.l kvs)/\∀l,H l=none->Q (.ref l) (upd H l (.lst (kvs.map λkv=>kV kv.1)))):=by
 intro pins s U H xs us Q I r h;obtain⟨p,kvs,rfl,hp,q⟩:=h;obtain⟨u,rfl,rx⟩:=vals1 r;cases rx;obtain⟨z,hd,vs,rel,dd⟩:=IX I.z9 hp;obtain⟨ep,da⟩:=dd.dictAt;have hlen:kvs.length=vs.length:=Paired.length rel;refine PySem.W.kdl_call (PySem.W.kdl_dict (ep:=ep) hd) (I.ok.hd hc) da (by rw[<- hlen];exact z) λh' tk acc c' kp e hacc=>?_
 refine⟨.ref s.heap.objs.size,_,I.laid (t':=tk) kp (aJ _) (show A4 X.prog X.w _ h' _ (.lst (kvs.map λkv=>kV kv.1))from⟨by rw[ar];exact z,acc.toList,c',Mz rel hacc,by simpa using e⟩),rfl,q _ (I.z9.fresh (aJ _))⟩
theorem Mg:Co X (.builtin "len") (λxs H Q=>∃a kvs,xs=[V.ref a]/\Rd H a (.l kvs)/\Q (.int kvs.length) H):=by intro pins s U H xs us Q I r h;obtain⟨a,kvs,rfl,ha,q⟩:=h;obtain⟨u,rfl,ru⟩:=vals1 r;cases ru;exact Jav I ha λt s' I'=>⟨.int kvs.length,H,I',⟨t,rfl⟩,q⟩
end
section
variable{X:Cx}{pins:List (Addr×Obj)}{U:St}{H:Hp}{s:Shared}
theorem Mh:Co X (.type "dict") (λxs H Q=>∃a kvs,xs=[.ref a]/\Rd H a (.l kvs)/\∀l,H l=none->Q (.ref l) (upd H l (.l kvs))):=by intro pins s U H xs us Q I r h;obtain⟨a,kvs,rfl,ha,q⟩:=h;obtain⟨u,rfl,rx⟩:=vals1 r;cases rx;exact Qt I ha λp s' hp I'=>⟨.ref p,_,I',rfl,q p hp⟩
end
section
variable{X:Cx}{tg:Expr}
def WK(td:TE):TI:=λU H R=>td U H λx H1=>∃a kvs,x=.ref a/\((H1 a=some (.l kvs)/\∀o,R (Itd a o kvs) (upd H1 a (.frz o (.l kvs))))\/∃o,H1 a=some (.frz o (.l kvs))/\R (Itd a o kvs) H1)
theorem Pc{l:Expr}{td:TE}(hl:PE X l td):PI X tg l (WK td):=by
 intro pins s U H R I h;refine thn (hl pins s U H _ I h) λv s1 hpt=>?_
 obtain⟨x,H1,I1,r1,q1⟩:= hpt;obtain⟨a,kvs,e,hq⟩:=q1;subst e;cases r1
 suffices key:∃(o:Obj)(H2:Hp),Inv X pins U H2 s1/\H2 a=some (.frz o (.l kvs))/\R (Itd a o kvs) H2 by
  obtain⟨o,H2,I2,h2,q⟩:=key;obtain⟨hd,vs,rel,da⟩:=I2.Jai h2;have hlen:=rel.length;refine wpAny_pyIter_dict hd da ?_;refine⟨s1.heap.objs.size,[s1.heap.objs.size],_,_,_,rfl,I2.kept (t':=s1.toks) λb o e=>af _ e,MD a _ o kvs,⟨_,aD _ rfl,rfl,by rw[hlen];rfl⟩,λb hb=>?_,q⟩;have e:b=s1.heap.objs.size:=by simpa using hb
  subst e;exact I2.Rm (aJ _) (I2.z9.fresh (aJ _))
 rcases hq with⟨hq,q⟩|⟨o,hq,q⟩
 .obtain⟨o,I2⟩:=I1.freeze hq;exact⟨o,_,I2,Ak,q o⟩
 .exact⟨o,H1,I1,hq,q⟩
def Jbo(td:TE):TE:=λU H Q=>td U H λx H1=>∃a kvs,x=.ref a/\H1 a=some (.l kvs)/\∀o,Q (.ref a) (upd H1 a (.frz o (.l kvs)))
theorem VZ{e:Expr}{td:TE}(h:PE X e td):PE X e (Jbo td):=by
 intro pins s U H Q I q;refine thn (h pins s U H _ I q) λv s1 hpt=>?_
 obtain⟨x,H1,I1,r1,a,kvs,ex,hq,q⟩:= hpt;subst ex;cases r1;obtain⟨o,I2⟩:=I1.freeze hq;exact⟨.ref a,_,I2,rfl,q o⟩
end
end L2
namespace L2
open PySem PySem.Spec PyProof.Rows PySem.W
theorem Nq{h:Heap}:∀(K:Fg),(K.map (·.1)).map h.get?=K.map (λp=>some p.2)->K.In h
 | [],_=>λa o e=>by cases e
 |p::K,hk=>λa o e=>by
  simp only[aj,List.cons.injEq]at hk;rw[br]at e;by_cases q:a=p.1
  .subst q;rw[show(p.1==p.1)=true by simp]at e;cases e;exact hk.1
  .rw[show(a==p.1)=false by simpa using q]at e;exact Nq K hk.2 a o e
end L2
namespace L2
open PySem PySem.Spec PyProof.Rows
def ExT(h:Heap)(vs:Array Value)(a:Addr)(fl:Value):Option Addr->Prop
 |none=>vs[1]?=some .none
 |some T=>vs[1]?=some (.ref T)/\T≠a/\∃oT ts,h.get? T=some oT/\oT.data=.fields ts/\ts[3]?=some fl
def QO(h:Heap)(a:Addr)(c:Value)(T:Option Addr)(fl:Value):Prop:=∃oe vs,h.get? a=some oe/\oe.cls=c/\oe.dict=none/\oe.data=.fields vs/\ExT h vs a fl T
theorem Obj.Of(o:Obj)(f:Array Value->Array Value):(o.mapFields f).dict=o.dict:=by obtain⟨_,_,dt,_⟩:=o;cases dt<;>rfl
section
variable{M:Model}{A:Around}{E:Value->Shared->Prop}{s:Shared}
theorem K8{base:Heap}{env:Env}{outer:List Env}{L e:Addr}{oe:Obj}{vs:Array Value}{head:Value}{hadNext:Bool}{Q:Unit->Shared->Prop}
  (hfr:A.frames=some (env::outer)) (hl:s.heap.FunFrames base (env::outer)) (hf:env.frame=some L) (he:s.heap.get? e=some oe) (hdi:oe.dict=none) (hd:oe.data=.fields vs) (hsz:1<vs.size)
  (h:∀h' T,s.heap.objs.size<=T->(∀b o,s.heap.get? b=some o->b∉frs (env::outer)->b≠e->h'.get? b=some o)->(∀b o,s.heap.get? b=some o->b∈frs (env::outer)->∃sl,h'.get? b=some {o with slots:=sl}) ->
   QO h' e oe.cls (some T) (rawInt L)->Q () {s with heap:=h' }) :
  wpAny M A (do let a <- frameOf env;let pl <- entryPlaceOf L hadNext;let b <- EntryCells.newEntry head a .none (rawInt L) .none pl;setField (.ref e) 1 b) Q E s:=by
 have nfe:e∉(env::outer).filterMap (·.frame):=λhm=>by obtain⟨_,o,ho,hnf⟩:=hl.mem hm;rw[he]at ho;injection ho with ho;subst ho;exact hnf vs hd
 refine aa (wpAny_frameOf_fun hfr hl hf λh₁ hs₁=>?_);refine aa (wpAny_entryPlaceOf λpl hpl=>?_);unfold EntryCells.newEntry newFields;refine aa (wpAny_newObj_type ?_ (hpl.sizeOk5 _ _ _ _ _));have he₁:h₁.get? e=some oe:=(hs₁.2.1 e nfe).trans he;have he₂:=af (h:=h₁) {cls:=.type "traceback",dict:=none,data:=.fields ([head,.ref L,.none,rawInt L,.none]++(if pl.isEmpty then List.replicate 6 Value.none else pl)).toArray} he₁;refine wpAny_setField he₂ hd hsz ?_;have hTe:h₁.objs.size≠e:=cG (az he₁);have hd₃:=Obj.data_mapFields hd (·.setIfInBounds 1 (Value.ref h₁.objs.size));have he₃:=cB (Obj.mapFields (·.setIfInBounds 1 (Value.ref h₁.objs.size))) he₂ (Obj.isFreed_of_fields hd₃);have hT₃:=(bI (h₁.push {cls:=.type "traceback",dict:=none,data:=.fields ([head,.ref L,.none,rawInt L,.none]++(if pl.isEmpty then List.replicate 6 Value.none else pl)).toArray})
  (Obj.mapFields (·.setIfInBounds 1 (Value.ref h₁.objs.size))) (Ne.symm hTe)).trans (aD h₁ rfl)
 have keep:∀b o,b≠e->h₁.get? b=some o ->
   ((h₁.push {cls:=.type "traceback",dict:=none,data:=.fields ([head,.ref L,.none,rawInt L,.none]++(if pl.isEmpty then List.replicate 6 Value.none else pl)).toArray}).update e (Obj.mapFields (·.setIfInBounds 1 (Value.ref h₁.objs.size)))).get? b=some o:=λb o hbe hb=>by
  rw[bI _ _ (Ne.symm hbe)];exact af _ hb
 refine h _ h₁.objs.size (by rw[hs₁.1];exact aJ _) (λb o hb hn hbe=>keep b o hbe ((hs₁.2.1 b hn).trans hb)) (λb o hb hn=>?_) ?_
 .obtain⟨sl,q⟩:=hs₁.2.2 b o hb;exact⟨sl,keep b _ (λz=>nfe (by rw[<- z];exact hn)) q⟩
 .exact⟨_,_,he₃,Obj.cls_mapFields _ _,(Obj.Of _ _).trans hdi,hd₃,by simp[hsz],hTe,_,_,hT₃,rfl,by first|(simp;done)|(rcases hpl with rfl|⟨_,_,_,_,_,_,_,rfl⟩<;>simp)⟩
end
structure OD(X:Cx):Prop where
 pn:X.pn=[]
 ex:X.ex=[]
 st:X.stack=X.env::X.outer
 fr:X.env.frame=some X.env.locals
theorem A4.get{P:Program}{w:World}{H:Hp}{h:Heap}{a:Addr}{o:HO}(x:A4 P w H h a o):∃u,h.get? a=some u:=by cases o with|lst xs=>obtain⟨_,_,_,_,e⟩:=x;exact⟨_,e⟩|tup xs=>obtain⟨_,_,_,ob,e,_⟩:=x;exact⟨_,e⟩|l kvs=>obtain⟨_,_,_,_,o,_,_,e,_⟩:=x;exact⟨_,e⟩|dT kvs=>obtain⟨_,_,_,_,o,_,_,e,_⟩:=x;exact⟨_,e⟩|set S n=>obtain⟨o,_,_,_,e,_⟩:=x;exact⟨_,e⟩|ins C dx fs=>obtain⟨_,_,_,e,_⟩:=x;exact⟨_,e⟩|own y=>obtain⟨_,e⟩:=x;exact⟨_,e⟩|xd fs=>obtain⟨_,⟨_,_,_,e,_⟩,_⟩:=x;exact⟨_,e⟩|yU lo hi=>obtain⟨_,_,_,e⟩:=x;exact⟨_,e⟩|frz ob u=>obtain⟨e,_⟩:=x;exact⟨_,e⟩|zi ps=>exact⟨_,(show h.get? a=some _ from x)⟩|met f y=>exact⟨_,(show h.get? a=some _ from x)⟩|ext φ=>obtain⟨_,⟨_,e⟩,_⟩:=x;exact⟨_,e⟩
theorem HOk.none{P:Program}{w:World}{H:Hp}{h:Heap}{a:Addr}(x:HOk P w H h)(e:h.get? a=none):H a=none:=by cases q:H a with|none=>rfl|some u =>obtain⟨o,z⟩:=(x a u q).get;rw[e]at z;cases z
section
variable{X:Cx}{U:St}{H:Hp}{s:Shared}{h':Heap}{ch:List Addr}
theorem Inv.kp{pins:List (Addr×Obj)}(I:Inv X pins U H s)(hpn:X.pn=[])(k:∀b o,s.heap.get? b=some o->b∉frs X.stack->b∉ch->h'.get? b=some o)(sl:∀b o,s.heap.get? b=some o->b∈frs X.stack->∃sl,h'.get? b=some {o with slots:=sl})
  (nc:∀b∈ch,X.zZ.heap.get? b=none/\H b=none/\∃o vs,s.heap.get? b=some o/\o.data=.fields vs):Inv X [] U H {s with heap:=h' }:=by
 have any:∀b o,s.heap.get? b=some o->b∉ch->∃l,h'.get? b=some {o with slots:=l}:=λb o e n=>by
  by_cases hb:b∈frs X.stack
  .exact sl b o e hb
  .exact⟨o.slots,k b o e hb n⟩
 have n0:∀b o,X.zZ.heap.get? b=some o->b∉ch:=λb o e z=>by have:=(nc b z).1;rw[e]at this;cases this
 have nf:∀b o,s.heap.get? b=some o->(∀vs,o.data≠.fields vs)->b∉ch:=λb o e hd z=>by obtain⟨_,_,o',vs,e',d⟩:=nc b z;rw[e]at e';cases e';exact hd vs d
 have cellK:∀x c,X.env.cells.lookup x=some c->∀v,s.heap.IsCell c v->h'.IsCell c v:=λx c e v ⟨o,ho,hd⟩=>by obtain⟨l,q⟩:=any c o ho (nf c o ho λvs z=>by rw[hd]at z;cases z);exact⟨_,q,hd⟩
 refine⟨I.ok,I.os,I.bare,⟨λb o e n hb hx=>?_,λb o e n hb hx=>?_,I.base.free,λb o e hx=>?_,I.base.zL,I.base.zX,I.base.zN⟩,?_,λx c e=>?_,I.free,I.zY,λp hp=>?_,λb u e=>?_,I.len⟩
 .refine k b o (I.base.keep b o e n hb hx) (λz=>?_) (n0 b o e);rcases aH.mp (I.Ih b z)with z|z
  .exact aS (aE (az e) I.ok.above) z
  .exact hb z
 .obtain⟨l,e1⟩:=I.base.slot b o e n hb hx;obtain⟨l',e2⟩:=any b _ e1 (n0 b o e);exact⟨l',e2⟩
 .obtain⟨o',e1⟩:=I.base.there b o e hx;obtain⟨l',e2⟩:=any b _ e1 (n0 b o e);exact⟨_,e2⟩
 .obtain⟨m,⟨o,es,ep,ho,hd,r⟩,hl⟩:=I.loc;obtain⟨l,q⟩:=any _ o ho (nf _ o ho λvs z=>by rw[hd]at z;cases z);refine⟨m,⟨_,es,ep,q,hd,r⟩,λi x v e1 e2 e3=>?_⟩;obtain⟨u,rv,z⟩:=hl i x v e1 e2 e3;refine⟨u,rv,?_⟩;rcases z with z|⟨kk,c,e,z⟩
  .exact .inl z
  .exact .inr ⟨kk,c,e,cellK x c e _ z⟩
 .obtain⟨v,z⟩:=I.cell x c e;exact⟨v,cellK x c e v z⟩
 .rw[hpn]at hp;cases hp
 .have nn:∀c,(c=b\/H c=some (.own b))->H c≠none:=λc hc z=>by
   rcases hc with rfl|hc
   .rw[z]at e;cases e
   .rw[z]at hc;cases hc
  exact(I.z9 b u e).MG (λc v hc q=>k c v q (λz=>nn c hc (I.Jz c z)) λz=>nn c hc (nc c z).2.1) (λ_ q=>q) λ_ _ q=>q
theorem Inv.new{pins:List (Addr×Obj)}{b:Addr}(I:Inv X pins U H s)(D:X.ex=[])(e:s.heap.get? b=none):X.zZ.heap.get? b=none/\H b=none:=by refine⟨?_,I.z9.none e⟩;cases q:X.zZ.heap.get? b with|none=>rfl|some o =>obtain⟨o',z⟩:=I.base.there b o q (by rw[D];simp);rw[e]at z;cases z
end
section
variable{X:Cx}{U:St}{H:Hp}{s:Shared}{a:Addr}{c fl:Value}{T:Option Addr}{M:Model}{A:Around}{E:Value->Shared->Prop}{Q:Unit->Shared->Prop}
def Yf(X:Cx)(H:Hp)(a:Addr)(T:Option Addr):Prop:=∀b,b=a\/T=some b->X.zZ.heap.get? b=none/\H b=none
theorem QO.there(e:QO s.heap a c T fl):∀b,b=a\/T=some b->∃o vs,s.heap.get? b=some o/\o.data=.fields vs:=by
 obtain⟨oe,vs,h1,h2,h3,h4,h5⟩:=e;intro b hb;rcases hb with rfl|rfl
 .exact⟨oe,vs,h1,h4⟩
 .obtain⟨_,_,oT,ts,q1,q2,_⟩:=h5;exact⟨oT,ts,q1,q2⟩
theorem JM(D:OD X)(hfr:A.frames=some X.stack)(I:Inv X [] U H s)(e:QO s.heap a c T fl)(hfl:fl=.none\/fl=rawInt X.env.locals)(nw:Yf X H a T)
  (h:∀h' T',QO h' a c (some T') (rawInt X.env.locals)->Yf X H a (some T')->Inv X [] U H {s with heap:=h' }->Q () {s with heap:=h' }):wpAny M A (noteFrame (.ref a) X.env) Q E s:=by
 have hl:=I.stack;rw[D.st]at hfr hl;obtain⟨oe,vs,he,hcls,hdi,hd,ht⟩:=id e;have th:=e.there;subst hcls;unfold noteFrame;simp only[D.fr];cases T with
 |none =>
  refine aa (aY he hd ht ?_);rw[if_neg (by decide)];refine K8 hfr hl D.fr he hdi hd (bZ.mp ht).1 λh' T' q1 q2 q3 q4=>?_
  have nT:=I.new D.ex (Heap.get?_none_of_le q1);refine h h' T' q4 (λb hb=>hb.elim (λz=>nw b (.inl z)) λz=>by cases z;exact nT) (I.kp (ch:=[a]) D.pn (λb o x y z=>q2 b o x (by rw[<- D.st];exact y) λw=>z (by simp[w])) (λb o x y=>q3 b o x (by rw[<- D.st];exact y)) λb hb=>?_);rw[aG.mp hb];exact⟨(nw a (.inl rfl)).1,(nw a (.inl rfl)).2,oe,vs,he,hd⟩
 |some T =>
  obtain⟨h1,hTe,oT,ts,hT,hdT,h3⟩:=ht;refine aa (aY he hd h1 ?_);rw[if_pos (show(Value.ref T !=Value.none)=true from by simp)];refine aa (aY hT hdT h3 ?_);rcases hfl with rfl|rfl
  .rw[if_neg (show ¬((Value.none==rawInt X.env.locals)=true)from by simp[rawInt])];refine aa (wpAny_setField hT hdT (bZ.mp h3).1 ?_);have other:∀b,b≠T->(s.heap.update T (Obj.mapFields (·.setIfInBounds 3 Value.none))).get? b=s.heap.get? b:=λb hb=>bI _ _ (Ne.symm hb)
   have nr:∀b o,s.heap.get? b=some o->(∀vs,o.data≠.fields vs)->b≠T:=λb o hb hnf q=>by rw[q,hT]at hb;injection hb with hb;subst hb;exact hnf ts hdT
   have nfT:T∉frs X.stack:=λhm=>by obtain⟨_,o,ho,hnf⟩:=I.stack.mem hm;rw[hT]at ho;injection ho with ho;subst ho;exact hnf ts hdT
   refine K8 hfr (hl.of_keeps λb o hb hnf=>⟨o,(other b (nr b o hb hnf)).trans hb,rfl⟩) D.fr ((other a (Ne.symm hTe)).trans he) hdi hd (bZ.mp h1).1 λh' T' q1 q2 q3 q4=>?_
   have sz:s.heap.objs.size<=T':=by have:(s.heap.update T (Obj.mapFields (·.setIfInBounds 3 Value.none))).objs.size=s.heap.objs.size:=Heap.size_after_update ..;rw[<- this];exact q1
   have nT:=I.new D.ex (Heap.get?_none_of_le sz);refine h h' T' q4 (λb hb=>hb.elim (λz=>nw b (.inl z)) λz=>by cases z;exact nT) (I.kp (ch:=[a,T]) D.pn (λb o x y z=>?_) (λb o x y=>?_) λb hb=>?_)
   .exact q2 b o ((other b λw=>z (by simp[w])).trans x) (by rw[<- D.st];exact y) λw=>z (by simp[w])
   .exact q3 b o ((other b λw=>nfT (by rw[<- w];exact y)).trans x) (by rw[<- D.st];exact y)
   .have hb':b=a\/some T=some b:=by
     rcases aH.mp hb with z|z
     .exact .inl z
     .exact .inr (by rw[aG.mp z])
    exact⟨(nw b hb').1,(nw b hb').2,th b hb'⟩
  .rw[if_pos (show(rawInt X.env.locals==rawInt X.env.locals)=true from by simp)];exact au (h s.heap T e nw I)
theorem Ei{f:Option Addr}(hpn:X.pn=[])(I:Inv X [] U H s)(e:QO s.heap a c T fl)(nw:Yf X H a T)
  (h:∀h',QO h' a c T (f.elim .none λf=>rawInt f)->Inv X [] U H {s with heap:=h' }->Q () {s with heap:=h' }):wpAny M A (setFlight (.ref a) f) Q E s:=by
 obtain⟨oe,vs,he,hcls,hdi,hd,ht⟩:=id e;have th:=e.there;unfold setFlight;cases T with
 |none =>refine aa (aY he hd ht ?_);rw[if_neg (by decide)];exact au (h s.heap ⟨oe,vs,he,hcls,hdi,hd,ht⟩ I)
 |some T =>
  obtain⟨h1,hTe,oT,ts,hT,hdT,h3⟩:=ht;have hsz:=(bZ.mp h3).1;refine aa (aY he hd h1 ?_);rw[if_pos (show(Value.ref T !=Value.none)=true from by simp)];have other:∀b,b≠T->(s.heap.update T (Obj.mapFields (·.setIfInBounds 3 (f.elim Value.none λf=>rawInt f)))).get? b=s.heap.get? b:=λb hb=>bI _ _ (Ne.symm hb)
  refine wpAny_setField hT hdT hsz (h _ ⟨oe,vs,(other a (Ne.symm hTe)).trans he,hcls,hdi,hd,h1,hTe,_,_,cB _ hT (Obj.isFreed_of_fields (Obj.data_mapFields hdT _)),Obj.data_mapFields hdT _,by simp[hsz]⟩ (I.kp (ch:=[T]) hpn (λb o x _ z=>(other b λw=>z (by simp[w])).trans x) (λb o x y=>?_) λb hb=>?_))
  .refine⟨o.slots,(other b λw=>?_).trans x⟩;obtain⟨_,o',ho',hnf⟩:=I.stack.mem y;rw[w,hT]at ho';injection ho' with ho';subst ho';exact hnf ts hdT
  .rw[aG.mp hb];exact⟨(nw T (.inr rfl)).1,(nw T (.inr rfl)).2,th T (.inr rfl)⟩
end
abbrev XE:=Value->St->Hp->Prop
def XW(X:Cx)(Z:XE)(e:Value)(s:Shared):Prop:=∃a c T fl U H,e=.ref a/\Inv X [] U H s/\QO s.heap a c T fl/\(fl=.none\/fl=rawInt X.env.locals)/\Yf X H a T/\Z c U H
noncomputable def CX1(P:Program)(w:World):CXT:=λouter H s E e s'=>∃a c T H',e=.ref a/\s'.os=s.os/\AllBare s'.gens/\Un (frs outer) [] H H' s.heap s'.heap/\HOk P w H' s'.heap/\QO s'.heap a c T .none /\
 (∀b,b=a\/T=some b->s.heap.get? b=none/\H' b=none)/\E c none H'
section
variable{X:Cx}{Z Z':XE}{e:Value}{s s':Shared}{pins:List (Addr×Obj)}{U:St}{H:Hp}
theorem XW.imp(h:XW X Z e s)(k:∀c U H,Z c U H->Z' c U H):XW X Z' e s :=
 let⟨a,c,T,fl,U,H,q1,q2,q3,q4,q5,q6⟩:=h
 ⟨a,c,T,fl,U,H,q1,q2,q3,q4,q5,k _ _ _ q6⟩
theorem XW.Fj{E:Value->Shared->Prop}(h:XW (X.Fj E) Z e s):XW X Z e s :=
 let⟨a,c,T,fl,U,H,q1,q2,q3,q4,q5,q6⟩:=h
 ⟨a,c,T,fl,U,H,q1,q2.DO,q3,q4,q5,q6⟩
theorem CX1.xw(D:X.ex=[])(I:Inv X pins U H s)(h:CX1 X.prog X.w X.stack H s (λc _ H'=>Z c U H') e s'):XW X Z e s':=by
 obtain⟨a,c,T,H',rfl,q1,q2,q3,q4,q5,q6,q7⟩:=h;have I':Inv X pins U H' s':=I.XZ (ch:=[]) q1 q3 q4 q2 λb z=>absurd z (by simp)
 exact⟨a,c,T,.none,U,H',rfl,I'.Hw λ_ z=>absurd z (by simp),q5,.inl rfl,λb hb=>⟨(I.new D (q6 b hb).1).1,(q6 b hb).2⟩,q7⟩
theorem XW.own(D:OD X):PassesOwn (model X.prog X.w) X.A X.env (XW X Z):=by
 intro e s' h;obtain⟨a,c,T,fl,U,H,rfl,I,q3,q4,q5,q6⟩:=h;refine JM D I.ok.frames I q3 q4 q5 λh1 T1 e1 n1 I1=>?_
 obtain⟨oe,vs,he,hc,hdi,hd,ht⟩:=id e1;refine aa (aY he hd ht.1 ?_);rw[if_neg (show ¬((Value.ref T1==Value.none)=true)from by simp)];rw[D.fr];exact Ei (f:=some X.env.locals) D.pn I1 e1 n1 λh2 e2 I2=>⟨a,c,some T1,rawInt X.env.locals,U,H,rfl,I2,e2,.inr rfl,n1,q6⟩
end
section
variable{P:Program}{w:World}{K:Fg}{mg:Str->Option Value}{base:Heap}{N:List Str}{qual:Str}{scope:Scope}{f:Addr}{cd:Value}{A:Around}{outer:List Env}{s:Shared}{H:Hp}{E:XK}
theorem XM:OD (Mf (CX1 P w) P w K mg base N qual scope f cd A outer s H E):=⟨rfl,rfl,rfl,rfl⟩
theorem Yl{e:Value}{s':Shared}(h:XW (Mf (CX1 P w) P w K mg base N qual scope f cd A outer s H E) (λc _ H'=>E c none H') e s'):(Mf (CX1 P w) P w K mg base N qual scope f cd A outer s H E).xe e s':=by
 obtain⟨a,c,T,fl,U,H',rfl,I,q3,q4,q5,q6⟩:=h;show wpAny _ _ (leaving (Mf (CX1 P w) P w K mg base N qual scope f cd A outer s H E).env (.ref a)) _ _ s';unfold leaving;refine aa (JM XM I.ok.frames I q3 q4 q5 λh1 T1 e1 n1 I1=>?_);refine Ei (f:=none) rfl I1 e1 n1 λh2 e2 I2=>?_
 exact⟨a,c,some T1,H',rfl,I2.os,I2.bare,I2.base,I2.z9,e2,n1,q6⟩
end
def Lk(X:Cx)(Z:XE):Prop:=∀(pins:List (Addr×Obj))(U:St)(H:Hp)(s:Shared)(e:Value)(s':Shared),Inv X pins U H s->CX1 X.prog X.w X.stack H s (λc _ H'=>Z c U H') e s'->X.xe e s'
theorem Lk.of{X:Cx}{Z:XE}(D:X.ex=[])(k:∀e s,XW X Z e s->X.xe e s):Lk X Z:=λ_ _ _ _ _ _ I h=>k _ _ (CX1.xw D I h)
section
variable{X:Cx}{k:Nat}{f C:Addr}{fd:FuncData}{ps:List Str}{sp:Sp}{Z:XE}{x m:Str}{p pos apos:Pos}{e o:Expr}{es:List Expr}{ta:TE}{t:TA}
def Vh(sp:Sp)(Z:XE)(t:TA):TE:=λU H Q=>t U H λvs H1=>sp vs H1 Q λc _ H'=>Z c U H'
theorem MK{pins:List (Addr×Obj)}{U:St}{H:Hp}{s:Shared}{Q:VK}{us:List Value}{vs:List V}(F:DS X.prog X.w X.K X.mg X.base (CX1 X.prog X.w) k f fd ps sp)(hr:DA k X.A)(hb:Binds X.K fd ps [])(hx:Lk X Z)
  (I:Inv X pins U H s) (r:Vals vs us) (h:sp vs H Q λc _ H'=>Z c U H'):wpAny (model X.prog X.w) X.A (call (.ref f) us) (EP X pins U Q) X.xe s:=by
 have hl:us.length=ps.length:=by rw[<- r.length];exact F.len _ _ _ _ h
 have b:=hb s us I.kIn (by rw[bj];exact hl);rw[bj]at b;refine wpAny_call (codeAny_mono (F.run X.A X.stack s H ⟨us,[]⟩ us vs Q _ hr I.Jat b r h) λr s' hq=>?_);cases r with|error e=>exact hx pins U H s e s' I hq|ok fl =>cases fl with|ret u=>exact I.after hq|next=>exact False.elim hq|brk=>exact False.elim hq|cont=>exact False.elim hq
theorem V1(G:FnAt X.prog X.w X.K X.mg X.base (CX1 X.prog X.w) x k ps sp)(hr:DA k X.A)(hx:Lk X Z)(ha:PA X (e::es) t)(hg:Gl X x:=by rfl)(hdb:(x==("__debug__":Str))=false:=by decide)
  (he:starEach (e::es) X.env=(false,eval e X.env)::starEach es X.env:=by rfl) (hpl:(backTo pos (starEach es X.env)).any (·.1)=false:=by rfl):PE X (.Call (.Name x p) (e::es) [] pos) (Vh sp Z t):=by
 obtain⟨f,fd,F,hm,hk,hb⟩:=G.ex;intro pins s U H Q I h;refine wpAny_Call_Name_kw (EB I hg hm ?_ hdb);refine callWith_K (h₀:=X.base) I.ok.mod.zb hk (thn (ha pos pins s U H _ I h) λus s1 ⟨vs,H1,I1,r,q⟩=>⟨I1.kIn,?_⟩) he hpl;exact MK F hr hb hx I1 r q
end
noncomputable def UM:List Value:=[.type "ValueError",.type "Exception",.type "BaseException",.type "object"]
structure ExC(K:Fg)(mg:Str->Option Value)(x:Str)(C:Addr):Prop where
 at_:mg x=some (.ref C)
 ok:excIn K C UM "ValueError.__new__"=true
def Vc(C:Addr)(Z:XE)(t:TA):TS:=λ_ U H=>t U H λvs H1=>vs.length<=1000/\Z (.ref C) U H1
theorem ExC.own{K:Fg}{mg:Str->Option Value}{x:Str}{C:Addr}{h:Heap}(c:ExC K mg x C)(X:K.In h):OwnCls x C UM "ValueError.__new__" mg h:=by
 refine⟨c.at_,?_⟩;have q:=c.ok;unfold excIn at q;split at q
 .rename_i dd cd sl ho;split at q
  .rename_i C' bm k0 k1 k2 k3 n k5 hm hs;simp only[aL,beq_iff_eq,Bool.not_eq_true']at q;obtain⟨⟨⟨⟨⟨rfl,rfl⟩,hdel⟩,ht⟩,z9⟩,hni⟩:=q;obtain⟨nm,bs,mro,ns,qn,hd,sn,sub,ab,col,del⟩:=cd;dsimp only at hm hdel z9 hni;subst hm hdel;have hsl:sl=#[k0,k1,k2,k3,some (.builtin "ValueError.__new__"),k5]:=by obtain⟨l⟩:=sl;simp only at hs;rw[hs]
   subst hsl;exact⟨bm,ns,nm,qn,bs,hd,sn,sub,ab,col,dd,k0,k1,k2,k3,k5,_,X _ _ ho,.of_isNs (PySem.W.isNs_of_in X z9),PySem.W.nsMap_none_of_in X z9 hni,PySem.W.tail_of_in X ht⟩
  .cases q
 .cases q
section
variable{X:Cx}{C:Addr}{Z:XE}{x:Str}{np cpos pos:Pos}{e:Expr}{es:List Expr}{t:TA}
theorem Th{pins:List (Addr×Obj)}{U:St}{H:Hp}{s:Shared}{h':Heap}{a:Addr}{us:List Value}(D:X.ex=[])(I:Inv X pins U H s)(hm:Heap.MadeExcOf s.heap h' a (.ref C) us)(q:Z (.ref C) U H):XW X Z (.ref a) {s with heap:=h' }:=by
 obtain⟨t,ht,_,_⟩:=hm.there;refine⟨a,.ref C,none,.none,U,H,rfl,(I.kept (t':=s.toks) hm.keeps).Hw λ_ z=>absurd z (by simp),⟨_,_,ht,rfl,rfl,rfl,rfl⟩,.inl rfl,λb hb=>?_,q⟩;rcases hb with rfl|hb
 .exact I.new D hm.new
 .cases hb
theorem Hs(c:ExC X.K X.mg x C)(D:X.ex=[])(hc:X.calm=true)(hx:∀e s,XW X Z e s->X.xe e s)(ha:PA X (e::es) t)(hg:Gl X x:=by rfl)(hdb:(x==("__debug__":Str))=false:=by decide)
  (he:starEach (e::es) X.env=(false,eval e X.env)::starEach es X.env:=by rfl) (hpl:(backTo cpos (starEach es X.env)).any (·.1)=false:=by rfl) :
  PS X (.Raise (some (.Call (.Name x np) (e::es) [] cpos)) none pos) (Vc C Z t):=by
 intro pins s U H D' I h;obtain⟨tl,N,nm,q,bs,hdct,sn,sub,ab,col,dd,k0,k1,k2,k3,k5,mN,hC,hN,hni,T⟩:=(c.own I.ok.mod.zb).obj;refine wpAny_Raise_call_subT (C:=C) (nm:=nm) (q:=q) (N:=N) (bs:=bs) (bm:=tl) (hdct:=hdct) (sn:=sn) (sub:=sub) (ab:=ab) (col:=col) (dd:=dd) (k0:=k0) (k1:=k1) (k2:=k2) (k3:=k3) (k5:=k5)
  PySem.F.excBase_ValueError (mN:=mN) (T.hasType PySem.F.excBase_ValueError.hasBase) (I.ok.hd hc) (by rw[he];show(false||(backTo cpos (starEach es X.env)).any (·.1))=false;rw[hpl];rfl) hni (EB I hg c.at_ ⟨rfl,?_⟩ hdb)
 have h1:=ha cpos pins s U H _ I h;rw[he]at h1 ⊢;refine Calls.evalArgs_plain (thn h1 λus s2 ⟨vs,H1,I1,r,hl,hz⟩=>⟨rfl,?_,I1.bk _ _ hC,hN.keeps I1.bk,T.keeps I1.bk,λh' a hm=>hx _ _ (Th D I1 hm hz)⟩);show us.length<=sizeLine;rw[<- r.length,sizeLine_eq]
 lia
end
noncomputable def exO(c:Value)(a:Addr):HO:=.ext λh=>∃o vs,h.get? a=some o/\o.cls=c/\o.dict=none/\o.data=.fields vs
abbrev Cx.hand(X:Cx)(a:Addr):Cx:={X with A:=X.A.mark (some (.ref a)),calm:=false,xe:=λ_ _=>False}
section
variable{X:Cx}{pins:List (Addr×Obj)}{U:St}{H:Hp}{s:Shared}{a:Addr}
theorem Cx.Ok.hand(ok:X.Ok):(X.hand a).Ok :=
 ⟨ok.mod,ok.kind,ok.glob,ok.blt,ok.above,ok.inj,ok.has,ok.zh,(λz=>nomatch z),ok.frames,ok.y1,ok.yX,ok.bs,ok.zA,ok.zx,ok.zy,ok.K0,ok.zo⟩
theorem Inv.hand(I:Inv X pins U H s):Inv (X.hand a) pins U H s:=⟨I.ok.hand,I.os,I.bare,I.base,I.loc,I.cell,I.free,I.zY,I.pin,I.z9,I.len⟩
theorem Inv.GF(ok:X.Ok)(I:Inv (X.hand a) pins U H s):Inv X pins U H s:=⟨ok,I.os,I.bare,I.base,I.loc,I.cell,I.free,I.zY,I.pin,I.z9,I.len⟩
theorem Inv.Ze{o:HO}(I:Inv X [] U H s)(hpn:X.pn=[])(h0:X.zZ.heap.get? a=none)(hn:H a=none)(hf:∃u vs,s.heap.get? a=some u/\u.data=.fields vs)(new:A4 X.prog X.w (upd H a o) s.heap a o):Inv X [] U (upd H a o) s:=by
 have ne0:∀b u,X.zZ.heap.get? b=some u->b≠a:=λb u e z=>by rw[z,h0]at e;cases e
 obtain⟨u,vs,hu,hd⟩:=hf;refine⟨I.ok,I.os,I.bare,⟨I.base.keep,I.base.slot,λb o e n hx=>?_,I.base.there,λb xs e=>?_,λb o u e=>?_,λb ps e=>?_⟩,I.loc,I.cell,?_,λx c e=>?_,λp hp=>?_,λb u e=>?_,I.len⟩
 .rw[Ai (ne0 b o e)];exact I.base.free b o e n hx
 .have q:=I.base.zL b xs e;rw[Ai (Bb q hn)];exact q
 .have q:=I.base.zX b o u e;rw[Ai (Bb q hn)];exact q
 .obtain⟨more,q⟩:=I.base.zN b ps e;exact⟨more,by rw[Ai (Bb q hn)];exact q⟩
 .rw[Ai]
  .exact I.free
  .intro z;obtain⟨m,⟨o',_,_,ho',hd',_⟩,_⟩:=I.loc;rw[z,hu]at ho';cases ho';rw[hd]at hd';cases hd'
 .rw[Ai]
  .exact I.zY x c e
  .intro z;obtain⟨v,o',ho',hd'⟩:=I.cell x c e;rw[z,hu]at ho';cases ho';rw[hd]at hd';cases hd'
 .rw[hpn]at hp;cases hp
 .by_cases hb:b=a
  .subst hb;rw[Ak]at e;cases e;exact new
  .rw[Ai hb]at e;exact(I.z9 b u e).MG (λ_ _ _ q=>q) (λc q=>by rw[Ai (Bb q hn)];exact q) λc xs q=>by rw[Ai (Bb q hn)];exact q
theorem HI{M:Model}{A:Around}{E:Value->Shared->Prop}{i:Nat}{n:Str}{pos:Pos}{Q:Unit->Shared->Prop}(I:Inv X [] U H s)(hpn:X.pn=[])(hN:X.N.Nodup)(hi:X.N[i]?=some n)(hl:X.env.scope.names.lookup n=some .local)
  (h:∀s',Inv X [] (U.set i none) H s'->Q () s'):wpAny M A (do bindName X.env n .none;unbindBehindTheSuite X.env n pos) Q E s:=by
 have hcls:(X.env.scope.kind==.class||(X.env.scope.kind==.module&&X.env.locals !=X.env.globals))=false:=by rw[I.ok.kind];rfl
 have hk:X.env.kindOf n=some .local:=hl;refine aa (wpAny_bindName (E4 I hN hi (.inl hl) (v:=V.v) (u:=Value.none) rfl (λs1 I1=>?_) (.inr hl)));unfold unbindBehindTheSuite;refine wpAny_onRaise ?_;unfold unbindName;refine aa (wpAny_point (aa ?_));unfold deleteName;simp only[hk,hcls];rw[if_neg (by decide)];obtain⟨m,hn,hl'⟩:=id I1.loc;have hiσ:i<U.length:=by rw[I.len];exact(ak.mp hi).1
 have hmn:(m n).isSome=true:=by
  obtain⟨u,_,z⟩:=hl' i n V.v hi (by rw[bp hiσ]) (.inl hl);rcases z with⟨_,z⟩|⟨z,_⟩
  .rw[z];rfl
  .rw[hk]at z;rcases z with z|z<;>cases z
 refine aa (wpAny_nsDel_keeps hn λh2 v hn2 hs2=>?_);simp only[hmn,Bool.not_true,bC,if_false];refine au (wpAny_point ?_);have cne:=I1.cne;have neL:∀b o,X.zZ.heap.get? b=some o->b≠X.env.locals:=λb o e=>aS (aE (az e) I.ok.above)
 have key:Inv X [] (U.set i none) H {s1 with heap:=h2}:=by
  refine⟨I1.ok,I1.os,I1.bare,⟨λb o e n hb hx=>(hs2.2 b (neL b o e)).trans (I1.base.keep b o e n hb hx),λb o e n hb hx=>?_,I1.base.free,λb o e hx=>?_,I1.base.zL,I1.base.zX,I1.base.zN⟩,⟨_,hn2,λj y v' e1 e2 e3=>?_⟩,λy c e=>?_,I1.free,I1.zY,λp hp=>?_,λb ob e=>?_,by simpa using I1.len⟩
  .obtain⟨sl,e1⟩:=I1.base.slot b o e n hb hx;exact⟨sl,(hs2.2 b (neL b o e)).trans e1⟩
  .obtain⟨o',e1⟩:=I1.base.there b o e hx;exact⟨o',(hs2.2 b (neL b o e)).trans e1⟩
  .by_cases hj:j=i
   .subst hj;rw[bp hiσ]at e2;cases e2
   .rw[bw (Ne.symm hj)]at e2;obtain⟨u',r',q⟩:=hl' j y v' e1 (by rw[bw (Ne.symm hj)];exact e2) e3;refine⟨u',r',?_⟩;rcases q with⟨k,e⟩|⟨k,c,e,z⟩
    .refine .inl ⟨k,?_⟩;have:y≠n:=λe=>hj (HC hN e1 (e▸hi))
     simp[this,e]
    .exact .inr ⟨k,c,e,z.sameBut hs2 (cne y c e)⟩
  .obtain⟨w',z⟩:=I1.cell y c e;exact⟨w',z.sameBut hs2 (cne y c e)⟩
  .rw[hpn]at hp;cases hp
  .refine(I1.z9 b ob e).MG (λc w' hc q=>(hs2.2 c ?_).trans q) (λ_ q=>q) λ_ _ q=>q
   rintro rfl
   rcases hc with rfl|hc
   .rw[I1.free]at e;cases e
   .rw[I1.free]at hc;cases hc
 first
  |exact h _ key
  |exact h _ (key.tok _)
end
def PS0(X:Cx)(st:Stmt)(t:TS):Prop:=∀(s:Shared)(U:St)(H:Hp)(D:Ends),Inv X [] U H s->t D U H->wpAny (model X.prog X.w) X.A (exec st X.env) (SP X [] D) X.xe s
def QM(X:Cx)(st:List Stmt)(t:TS):Prop:=∀(s:Shared)(U:St)(H:Hp)(D:Ends),Inv X [] U H s->t D U H->wpAny (model X.prog X.w) X.A (execs st X.env) (SP X [] D) X.xe s
section
variable{X:Cx}{st:Stmt}{rest:List Stmt}{t u:TS}
theorem PS.zero(h:PS X st t):PS0 X st t:=λs U H D I q=>h [] s U H D I q
theorem PSs.zero(h:PSs X rest t):QM X rest t:=λs U H D I q=>h [] s U H D I q
theorem MU(h1:PS0 X st t)(h2:QM X rest u):QM X (st::rest) (JaE t u):=by intro s U H D I h;refine wpAny_execs_cons (thn (h1 s U H {D with nx:=u D} I h) λf s1 q=>?_);cases f with|next =>obtain⟨σ',H',I',q⟩:=q;exact h2 s1 σ' H' D I' q|ret v=>exact q|brk=>exact q|cont=>exact q
theorem QM.unw{E:Value->Shared->Prop}(h:QM (X.Fj E) rest t)(k:∀e s,E e s->X.xe e s):QM X rest t:=λs U H D I hw =>wpAny_mono (h s U H D (I.Fj _) hw) (λ_ _ q=>q.DO) λe s z=>k e s z
end
theorem W9{CX:CXT}{P:Program}{w:World}{K:Fg}{mg:Str->Option Value}{base:Heap}{k:Nat}{f:Addr}{name qual:Str}{params:Arguments}{body:List Stmt}{scope:Scope}{dV kV doc pm cdv ct oc:Value}{an od:Option Addr}
  {osl:Array (Option Value)} {N ps:List Str} {sp:Sp} (lk:K.lookup f=some ⟨oc,od,.func (fnOf name qual params body scope dV kV doc pm an cdv ct),osl⟩) (hcd:codeIn K cdv qual=true) (S:H0 N ps scope)
  (len:∀vs H Q E,sp vs H Q E->vs.length=ps.length)
  (hbody:∀(A:Around)(outer:List Env)(s:Shared)(H:Hp)(vs:List V)(Q:VK)(E:XK),DA k (A.deeper (envOfC qual scope s.heap.objs.size f cdv))->sp vs H Q E ->
   ∃t,QM (Mf CX P w K mg base N qual scope f cdv A outer s H E) body t/\t {nx:=λ_ H'=>Q .v H',rt:=Q} (start N vs) H) :
  DS P w K mg base CX (k+1) f (fnOf name qual params body scope dV kV doc pm an cdv ct) ps sp:=by
 refine⟨len,λA outer s H args us vs Q E hr e0 hb r hsp=>?_⟩;have hl:=len _ _ _ _ hsp;have KX:K.In s.heap:=e0.mod.zb.keeps λb o e=>(e0.bs b o e).1
 have lim:s.heap.NoLimit:=e0.mod.nolimit.keeps λb o e=>(e0.bs b o e).1
 have hkind:∀y∈ps.zip us,scope.names.lookup y.1=some .local\/(scope.names.lookup y.1=some .cell/\((cellsFrom (s.heap.objs.size+1) scope.names []).lookup y.1).isSome=true):=λ⟨n,v⟩ hy=>by
  rcases S.par n (cq hy).1 with q|q
  .exact .inl q
  .exact .inr ⟨q,PySem.W.cellsFrom_some _ _ _ (.inl q)⟩
 refine codeAny_call_function hr.depth (KX _ _ lk) rfl S.co S.gen rfl (PySem.W.codeRec_of KX hcd) (hb _ _ _ _ ?_);refine wpAny_newFunctionEnv_cells S.kind hkind λenv he s1 x=>?_
 subst he;refine⟨lim.keeps x.toInCall.keep,codeAny_func ?_⟩;obtain⟨t,ht,hq⟩:=hbody A outer s H vs Q E (hr.deeper _) hsp;have I:Inv (Mf CX P w K mg base N qual scope f cdv A outer s H E) [] (start N vs) H s1:=NC S hr.hd e0 hl r x;refine wpAny_mono (ht s1 (start N vs) H _ I hq) (λfl s' hs=>?_) λe s' hs=>hs
 have fin:∀{σ':St}{H':Hp}{v:V}{u:Value},Inv (Mf CX P w K mg base N qual scope f cdv A outer s H E) [] σ' H' s'->RelV v u->Q v H'->CE outer P w H s Q u s' :=
  λ{σ' H' v u} J rv q=>⟨v,H',J.os,J.bare,J.base,J.z9,rv,q⟩
 cases fl with|ret u =>obtain⟨v,σ',H',J,rv,q⟩:=hs;exact fin J rv q|next =>obtain⟨σ',H',J,q⟩:=hs;exact fin (v:=V.v) (u:=Value.none) J rfl q|brk =>obtain⟨_,_,_,q⟩:=hs;exact False.elim q|cont =>obtain⟨_,_,_,q⟩:=hs;exact False.elim q
theorem Fun.ok0{P:Program}{w:World}{K:Fg}{mg:Str->Option Value}{base:Heap}{N:List Str}{qual:Str}{f:Addr}{x:Str}{st:Stmt}{fd:FuncData}{ps:List Str}{k:Nat}{sp:Sp}(F:Fun K x qual st f fd)(S:H0 N ps (Bk st))(len:∀vs H Q E,sp vs H Q E->vs.length=ps.length)
  (hbody:∀(cdv:Value)(A:Around)(outer:List Env)(s:Shared)(H:Hp)(vs:List V)(Q:VK)(E:XK),DA k (A.deeper (envOfC qual (Bk st) s.heap.objs.size f cdv))->sp vs H Q E ->
   ∃t,QM ((Mf (CX1 P w) P w K mg base N qual (Bk st) f cdv A outer s H E).Fj (XW (Mf (CX1 P w) P w K mg base N qual (Bk st) f cdv A outer s H E) λc _ H'=>E c none H')) (DX st) t/\t {nx:=λ_ H'=>Q .v H',rt:=Q} (start N vs) H) :
  DS P w K mg base (CX1 P w) (k+1) f fd ps sp:=by
 obtain⟨oc,od,kV,doc,pm,an,cdv,ct,osl,rfl,lk,hcd⟩:=F.ex;refine W9 lk hcd S len λA outer s H vs Q E hr hsp=>?_
 obtain⟨t,h,q⟩:=hbody cdv A outer s H vs Q E hr hsp;exact⟨t,h.unw λ_ _=>Yl,q⟩
noncomputable def RL(i:Nat)(D:Ends):Ends:={nx:=λU H=>D.nx (U.set i none) H,rt:=D.rt,bk:=λU H=>D.bk (U.set i none) H,ct:=λU H=>D.ct (U.set i none) H}
def JbV(K:Fg)(C:Addr)(i:Nat)(th:TS)(D:Ends):XE:=λc U H=>exmOne K c (.ref C)=some true/\∀a,H a=none->th (RL i D) (U.set i (some (.ref a))) (upd H a (exO c a))
section
variable{X:Cx}{C:Addr}{x n:Str}{i:Nat}{np pos hpos:Pos}{body suite:List Stmt}{b₀:Stmt}{tb:Ends->TS}{th:TS}
theorem SP.GF{a:Addr}{f:Flow}{s':Shared}{D:Ends}(ok:X.Ok)(h:SP (X.hand a) [] D f s'):SP X [] D f s':=by cases f with|next=>obtain⟨σ',H',I,q⟩:=h;exact⟨σ',H',I.GF ok,q⟩|brk=>obtain⟨σ',H',I,q⟩:=h;exact⟨σ',H',I.GF ok,q⟩|cont=>obtain⟨σ',H',I,q⟩:=h;exact⟨σ',H',I.GF ok,q⟩|ret u=>obtain⟨v,σ',H',I,r,q⟩:=h;exact⟨v,σ',H',I.GF ok,r,q⟩
theorem Sv(D:OD X)(hC:X.mg x=some (.ref C))(hN:X.N.Nodup)(hb:∀D,PSs (X.Fj (XW X (JbV X.K C i th D))) body (tb D))(hs:∀a,PSs (X.hand a) (b₀::suite) th)(hi:X.N[i]?=some n:=by rfl)(hl:X.env.scope.names.lookup n=some .local:=by rfl)
  (hg:Gl X x:=by rfl) (hdb:(x==("__debug__":Str))=false:=by decide) :
  PS0 X (.Try body [.ExceptHandler (some (.Name x np)) (some n) (b₀::suite) hpos] [] [] pos) (λD=>tb D D):=by
 intro s U H D' I h;refine wpAny_Try_except (wpAny_mono (hb D' [] s U H D' (I.Fj _) h) (λf s1 q=>?_) λe s1 q=>?_)
 .have q:=q.DO;cases f with|next=>exact wpAny_execs_nil q|ret v=>exact q|brk=>exact q|cont=>exact q
 .obtain⟨a,c,T,fl,σ1,H1,rfl,I1,e1,f1,n1,z1,z2⟩:=q;refine JM D I1.ok.frames I1 e1 f1 n1 λh2 T2 e2 n2 I2=>?_
  refine Ei (f:=none) D.pn I2 e2 n2 λh3 e3 I3=>?_
  refine wpAny_handleBy_cons (codeAny_handlers_test (EB (X:=X.hand a) I3.hand hg hC ?_ hdb)) (by intro q;cases q);obtain⟨oe,vs,he,hcls,hdi,hd,ht⟩:=id e3;have LT:Looks (model X.prog X.w) h3 (typeOf (.ref a)) c:=hcls▸(PySem.W.Looks.ld he).andThen .now;refine PySem.W.Looks.here (s:={s1 with heap:=h3}) (PySem.W.exm_one I3.kIn LT z1) ?_;refine codeAny_handlers_suite_as ?_;refine Ei (f:=none) D.pn I3 e3 n2 λh4 e4 I4=>?_
  obtain⟨oe4,vs4,he4,hcls4,hdi4,hd4,ht4⟩:=id e4;have hna:=n2 a (.inl rfl);have I5:Inv X [] σ1 (upd H1 a (exO c a)) {s1 with heap:=h4}:=I4.Ze D.pn hna.1 hna.2 ⟨oe4,vs4,he4,hd4⟩ ⟨⟨oe4,vs4,he4,hcls4,hdi4,hd4⟩,⟨oe4,he4⟩,λg1 g2 ⟨o,v,q1,q2⟩ k=>⟨o,v,k o q1,q2⟩⟩;refine E4 I5 hN hi (.inl hl) (v:=V.ref a) (u:=Value.ref a) rfl (λs6 I6=>?_) (.inr hl);refine wpAny_mono (hs a [] s6 _ _ (RL i D') I6.hand (z2 a hna.2)) (λf s7 q=>?_) λ_ _ z=>False.elim z
  have q:=q.GF I.ok;cases f with
  |next =>obtain⟨σ',H',I',q⟩:=q;exact HI I' D.pn hN hi hl λs8 I8=>⟨_,_,I8,q⟩
  |ret u =>obtain⟨v,σ',H',I',r,q⟩:=q;exact HI I' D.pn hN hi hl λs8 I8=>⟨v,_,_,I8,r,q⟩
  |brk =>obtain⟨σ',H',I',q⟩:=q;exact HI I' D.pn hN hi hl λs8 I8=>⟨_,_,I8,q⟩
  |cont =>obtain⟨σ',H',I',q⟩:=q;exact HI I' D.pn hN hi hl λs8 I8=>⟨_,_,I8,q⟩
end
end L2
namespace PySem.W
open PySem PySem.Spec PySem.Calls PyProof.Rows
section
variable{prog:Program}{w:World}{A:Around}{E:Value->Shared->Prop}{K:Frag}{x D:Addr}{ox:Obj}
structure ExK(K:Frag)(D:Addr):Prop where
 ga:findIn K (.ref D) "__getattribute__"=some (some (.builtin "BaseException.__getattribute__"))
 gt:findIn K (.ref D) "__getattr__"=some none
 ca:findIn K (.ref D) "__class__"=some (some (.builtin "object.__class__"))
 gs:specialIn K (.builtin "object.__class__") "__get__"=some (some (.builtin "getset_descriptor.__get__"))
 tk:takesIn K (.builtin "object.__class__")=some true
 mo:mroIn K D (.type "object")=some true
 mb:mroIn K D (.type "BaseException")=some true
theorem ExK.find(k:ExK K D)(hc:(clsIn K D).isSome=true):findObj K D none "__class__"=some (.bind (.builtin "getset_descriptor.__get__") (.builtin "object.__class__")):=by obtain⟨cd,hc⟩:=bM.mp hc;unfold findObj;rw[hc,bE,k.ca,bE];simp[k.gs,k.tk]
theorem N4{tk:Tok}{Q:Fin->Shared->Prop}{s:Shared}(k:ExK K D)(hc:(clsIn K D).isSome=true)(X:K.In s.heap)(I:InstAt s.heap x ox D none)(h:Q (.done (.ret (.ref D))) s) :
  wpAny (model prog w) A (Builtin.«object.__getattribute__» ⟨[.ref x,.str "__class__" tk],[]⟩) Q E s:=by
 obtain⟨hh,g,d,t,os⟩:=s;have L0:=I.type (M:=model prog w);have L1:=looks_find (M:=model prog w) X I (k.find hc);unfold Builtin.«object.__getattribute__»
 repeat (any_goals (first|assumption|with_reducible refine L0.at ?_|with_reducible refine L1.at ?_|wp_step))
 exact class_get (s:=⟨hh,g,d,t,os⟩) X I k.mo (au h)
theorem N6{M:Model}{nameV:Value}{Q:Unit->Shared->Prop}{s:Shared}(k:ExK K D)(X:K.In s.heap)(I:InstAt s.heap x ox D none)(h:Q () s):wpAny M A (checkBuiltinCall "BaseException.__getattribute__" ⟨[.ref x,nameV],[]⟩) Q E s:=by
 obtain⟨hh,g,d,t,os⟩:=s;have hk:builtinKind "BaseException.__getattribute__"=some .slot:=by decide +kernel
 have hsplit:splitId "BaseException.__getattribute__"=some ("BaseException","__getattribute__"):=by decide +kernel
 have L0:=I.type (M:=M);have L1:=looks_mroIn (M:=M) X k.mb;have ha:=F.args_bexc_ga (.ref x) nameV;simp only[checkBuiltinCall,hk,hsplit];refine aa ?_;unfold isInstance
 repeat (first|with_reducible refine L0.at ?_|with_reducible refine L1.at ?_|wp_step)
 exact h
theorem Qo{tk:Tok}{R:Result->Shared->Prop}{s:Shared}(k:ExK K D)(hc:(clsIn K D).isSome=true)(X:K.In s.heap)(I:InstAt s.heap x ox D none)(h:R (.ok (.ret (.ref D))) s) :
  codeAny (model prog w) A (.call (.builtin "BaseException.__getattribute__") ⟨[.ref x,.str "__class__" tk],[]⟩) R s :=
 codeAny_call_builtin PySem.F.excAttr_ValueError.ga.plain F.entry_bexc_ga (N6 k X I (N4 k hc X I h))
theorem XF{tk:Tok}{Q:Value->Shared->Prop}{s:Shared}(k:ExK K D)(hc:(clsIn K D).isSome=true)(X:K.In s.heap)(I:InstAt s.heap x ox D none)(h:Q (.ref D) s) :
  wpAny (model prog w) A (getAttrBy (.ref x) (.str "__class__" tk) false) Q E s:=by
 obtain⟨hh,g,d,t,os⟩:=s;have L0:=I.type (M:=model prog w);have L1:=looks_findIn (M:=model prog w) X k.ga;have L2:=looks_findIn (M:=model prog w) X k.gt;have f3:=PySem.F.excAttr_ValueError.ga.bind (.ref x);have hx2:(Value.builtin "BaseException.__getattribute__"==Value.builtin "object.__getattribute__")=false:=by decide +kernel
 have hx1:(onTheHeap (Value.ref D)&&Value.builtin "BaseException.__getattribute__"==Value.builtin "object.__getattribute__")=false:=by rw[hx2];rfl
 have hx0:(false&&onTheHeap (Value.builtin "BaseException.__getattribute__"))=false:=rfl
 repeat (any_goals (first|assumption|with_reducible refine L0.at ?_|with_reducible refine L1.at ?_|with_reducible refine L2.at ?_|wp_step))
 refine Qo (s:=⟨hh,g,d,t,os⟩) k hc X I ?_
 repeat (any_goals (first|assumption|wp_step))
theorem N5{Q:Option Value->Shared->Prop}{s:Shared}(k:ExK K D)(hc:(clsIn K D).isSome=true)(X:K.In s.heap)(I:InstAt s.heap x ox D none)(h:Q (some (.ref D)) {s with toks:=s.toks+1}) :
  wpAny (model prog w) A (getAttr? (.ref x) "__class__") Q E s:=by
 obtain⟨hh,g,d,t,os⟩:=s;unfold getAttr? getAttrBy?;exact aa (wpAny_mkText (aa (wpAny_attempt (XF (s:=⟨hh,g,d,t+1,os⟩) k hc X I (au h)))))
theorem PC(k:ExK K D)(hc:(clsIn K D).isSome=true):KitX K (.ref x) (.ref D) (λh=>InstAt h x ox D none) where
 ty:=λ_ _ _ I=>I.type
 it:=λ_ _ X _=>by
  unfold clsIn at hc;split at hc
  next c' d' cd' sl' ho=>intro A' Q' E' s' k q;unfold isType loadHead;exact aa (wpAny_loadPart (k _ _ (X _ _ ho)) (au q))
  .cases hc
 ne:=λh tp dd its n sl X htp=>by
  refine Bool.eq_false_iff.mpr λq=>?_
  have e:D=tp:=Value.ref.inj (beq_iff_eq.mp q);subst e;unfold clsIn at hc;split at hc
  next c' d' cd' sl' ho=>have z:=(X _ _ ho).symm.trans htp;cases z
  .cases hc
 ca:=λX I q=>N5 k hc X I q
end
end PySem.W
namespace L2
open PySem PySem.Spec PyProof.Rows
section
variable{X:Cx}
theorem Hb:Co X (.builtin "isinstance") (λxs H Q=>∃a D y c b,xs=[.ref a,y]/\(∀u,RelV y u->u=c)/\H a=some (exO (.ref D) a)/\PySem.W.ExK X.K D/\(clsIn X.K D).isSome=true/\kitOne X.K (.ref D) c=some b/\Q (.o b) H):=by
 intro pins s U H xs us Q I r h;obtain⟨a,D,y,c,b,rfl,hy,ha,k,hc,e,q⟩:=h;cases r with
 |cons r1 rr =>
  cases rr with
  |cons r2 rr =>
   cases rr;cases(show _=Value.ref a from r1);cases hy _ r2;obtain⟨⟨o,vs,h1,h2,h3,h4⟩,_⟩:=(show A4 X.prog X.w H s.heap a (exO (.ref D) a)from I.z9 a _ ha)
   have J:InstAt s.heap a o D none:=⟨h1,h2,by unfold PySem.W.notCls;rw[h4],by rw[h3];trivial⟩
   exact kia_one (PySem.W.PC k hc) I.kIn J e (λz=>nomatch z) λtk=>⟨.o b,H,I.tok tk,rfl,q⟩
theorem QJ{bs:List Bool}{its:List Value}(rv:Vals (bs.map V.o) its):∀y,y∈its.toArray->∃b,y=Value.bool b:=by intro y hy;rw[Cy rv]at hy;simp only[List.mem_toArray,aI]at hy;obtain⟨b,_,rfl⟩:=hy;exact⟨b,rfl⟩
noncomputable def isT:Value->Bool
 |.bool b=>b==true
 |_=>false
theorem XH{A:Around}{s:Shared}{its:List Value}{bs:List Bool}(rv:Vals (bs.map V.o) its):∀y,y∈its.toArray->SeqAt.EqAt A s y (.bool true) (isT y):=λy hy=>by obtain⟨b,rfl⟩:=QJ rv y hy;exact SeqAt.EqAt.bool_bool b true
theorem Pr:MtR X "list.index" (λx vs H Q=>∃(l:Addr)(bs:List Bool)(j:Nat),x=.ref l/\vs=[.o true]/\SqL X.K H l (bs.map V.o)/\bs[j]?=some true/\(∀m,m<j->bs[m]?=some false)/\Q (.int ((j:Nat):Int)) H):=by
 intro pins s U H x vs v us Q I rx rv h;obtain⟨l,bs,j,rfl,rfl,hq,hj,hno,q⟩:=h;cases rx;obtain⟨u,rfl,ru⟩:=rv.one;cases(show u=Value.bool true from ru);obtain⟨its,rv,⟨⟨cls,dd,data,sl⟩,n,ho,hc,hdd,hd⟩,hz⟩:=I.list hq;simp only at hc hdd hd;subst hc hdd hd;have hb:=Cy rv;subst hb;have hjl:j<bs.length:=(ak.mp hj).1;rw[ar,sizeLine_eq]at hz;refine call_meets F.slot_list_index ⟨_,ho,rfl⟩ F.entry_list_index (F.args_list_index_2 _ _) (SeqAt.list_indexAt l (bs.map Value.bool).toArray n none sl (.bool true) isT j (by simpa using hjl) (by lia) ?_ ?_) ⟨ho,XH rv,?_⟩
 .have:=(ak.mp hj).2;simp[isT,this]
 .intro m hm hmj;have e:=hno m hmj;have:=(ak.mp e).2;simp[isT,this]
 .exact⟨.int _,H,I.tok _,⟨_,rfl⟩,q⟩
end
end L2
namespace L2
open PySem PySem.Spec PySem.W PyProof.Rows
theorem Lu{l:OpenLaw}{n k:Nat}{q:Program}{loose:List Str}{XP:(Str->Option Value)->Heap->Prop}{YP:World->Heap->Prop}{d:DefRec}{K:Params->Fg}{CX:World->CXT}{sp:Fg->Sp}{x:Str}
  (hn:l.most=some n) (hn2:n<=sizeLine) (hdf:d.params.defaults=[]) (hr:DA k callerA)
  (hY:∀(w:World)(h:Heap),YP w h->(K w.params).In h)
  (F:∀(w:World)(mg:Str->Option Value)(fa:Addr)(h:Heap),(K w.params).In h->h.Ns mainGlobals mg->mg d.name=some (.ref fa) ->
   ∃fd:FuncData,(∀(s:Shared)(u:Value),BindsTo s fd ⟨[u],[]⟩ [(x,u)]) /\
    ∀base:Heap,(K w.params).In base->base.Ns mainGlobals mg->DS l.prog w (K w.params) mg base (CX w) k fa fd [x] (sp (K w.params)))
  (hsp:∀(K:Fg)(H:Hp)(a:Addr)(ns:List Int),ns.length<=n->CU ns<=2^20->Ye H->SqL K H a (ns.map V.int)->sp K [.ref a] H (λv _=>v=.o true) λ_ _ _=>False)
  (hCX:∀(w:World)(H:Hp)(s:Shared)(e:Value)(s':Shared),CX w [] H s (λ_ _ _=>False) e s'->False) :
  WalkO q loose XP YP l.row.toRowW d [] (λf vs=>PySem.call f vs):=by
 intro w zZ s₁ mg mb G Y fa o pm cd doc dV kV ho hd hcd hD hmg hg args vals as hpre hlay hrd hwl hlo;obtain rfl:dV=.none:=Dflts.none hD hdf;obtain rfl:kV=.none:=Dflts.noKw hD;obtain⟨a,vs,ns,rfl,rfl,hobj,hints,hlen⟩:=Att.MI hn hpre hwl;have hw:CU ns<=2^20:=by
  have h1:(WData.list (ns.map WData.int)).layable=true:=by unfold WData.layableAll at hlay;simpa using hlay
  unfold WData.layable at h1;rw[aL]at h1;have h2:=aO h1.2;simp only[WData.weight]at h2;rw[<- Gb];exact h2
 have KX:=hY w _ Y;obtain⟨fd,hb,hF⟩:=F w mg fa _ KX G.T.g hmg;refine PySem.W.enter_call (codeAny_mono (PB KX G.T.g G.T.b G.T.builtins G.T.nolimit hg hobj hints (aR hlen hn2) hr hF hb (λH hO hS=>hsp (K w.params) H a ns hlen hw hO hS) λH e s'=>hCX w H s₁ e s') λr s' hq=>?_);obtain⟨rfl,h2,h3,h4⟩:=hq;exact⟨.inl ⟨.bool true,.bool true,[],rfl,λ_=>rfl,.bool true,Att.MW l _,λ_=>⟨List.Pairwise.nil,λ_ hm=>(nomatch hm)⟩⟩,h2,h3,h4⟩
theorem Jv{l:OpenLaw}{n k N tk:Nat}{q:Program}{loose:List Str}{XP:(Str->Option Value)->Heap->Prop}{d:DefRec}{K:Params->Fg}{as:List Addr}{CX:World->CXT}{sp:Fg->Sp}{x:Str}
  (hn:l.most=some n) (hn2:n<=sizeLine) (hdf:d.params.defaults=[]) (hr:DA k callerA)
  (hK:∀P:Params,as=(K P).map (·.1))
  (F:∀(w:World)(mg:Str->Option Value)(fa:Addr)(h:Heap),(K w.params).In h->h.Ns mainGlobals mg->mg d.name=some (.ref fa) ->
   ∃fd:FuncData,(∀(s:Shared)(u:Value),BindsTo s fd ⟨[u],[]⟩ [(x,u)]) /\
    ∀base:Heap,(K w.params).In base->base.Ns mainGlobals mg->DS l.prog w (K w.params) mg base (CX w) k fa fd [x] (sp (K w.params)))
  (hsp:∀(K:Fg)(H:Hp)(a:Addr)(ns:List Int),ns.length<=n->CU ns<=2^20->Ye H->SqL K H a (ns.map V.int)->sp K [.ref a] H (λv _=>v=.o true) λ_ _ _=>False)
  (hCX:∀(w:World)(H:Hp)(s:Shared)(e:Value)(s':Shared),CX w [] H s (λ_ _ _=>False) e s'->False) :
  WalkX q loose XP (PySem.W.X.obsZ as) (PySem.W.X.valZ K N tk) l.row.toRowW d [] (λf vs=>PySem.call f vs):=by
 intro w zZ s₁ mg mb G Y fa o pm cd doc dV kV ho hd hcd hD hmg hg args vals ads hL hpre hlay hrd hwl hlo;have W:=Lu (l:=l) (q:=q) (loose:=loose) (XP:=XP) (YP:=λw h=>(K w.params).In h) (d:=d) (K:=K) (CX:=CX) (sp:=sp) (x:=x) hn hn2 hdf hr (λ_ _ h=>h) F hsp hCX;refine W w zZ s₁ mg mb G ?_ fa o pm cd doc dV kV ho hd hcd hD hmg hg args vals ads hpre hlay hrd hwl hlo;have h1:as.map zZ.heap.get?=(K w.params).map (λp=>some p.2):=congrArg Prod.fst Y;rw[hK w.params]at h1;exact λa o e=>hL.keeps a o (Nq _ h1 a o e)
end L2
namespace L2
open PySem PySem.Spec PyProof.Rows
section
variable{X:Cx}{k:Nat}{C:Addr}{ps:List Str}{sp:Sp}{Z:XE}{x m:Str}{p pos apos:Pos}{e o:Expr}{es:List Expr}{ta:TE}{t:TA}
def Ve(C:Addr)(m:Str)(sp:Sp)(Z:XE)(ta:TE)(t:TA):TE:=λU H Q=>ta U H λx H1=>∃a dx fs,x=.ref a/\H1 a=some (.ins C dx fs)/\fs.lookup m=none /\
 t U H1 λvs H2=>sp (x::vs) H2 Q λc _ H'=>Z c U H'
theorem VW{pl:Sem Bool}(G:UN X.prog X.w X.K X.mg X.base (CX1 X.prog X.w) C m k ps sp)(hr:DA k X.A)(hx:Lk X Z)(he:PE X o ta)(ha:PA X (e::es) t)
  (hst:starEach (e::es) X.env=(false,eval e X.env)::starEach es X.env:=by rfl) (hpl:(backTo pos (starEach es X.env)).any (·.1)=false:=by rfl)
  (ht:eval (.Call (.Attribute o m apos) (e::es) [] pos) X.env=(do
   let ov <- eval o X.env
   standAt apos.atName
   let(f,first) <- holding [ov] (getMethod ov m pl)
   callWith pos f first (backTo pos (starEach (e::es) X.env)) (backToKw pos (keywordEach [] X.env))):=by rfl) :
  PE X (.Call (.Attribute o m apos) (e::es) [] pos) (Ve C m sp Z ta t):=by
 obtain⟨f,fd,F,hm,hb⟩:=G.ex;intro pins s U H Q I h;refine methodCall_KW (pl:=pl) (thn (he pins s U H _ I h) λu s1 hpt=>?_) ht;obtain⟨x,H1,I1,rx,a,dx,fs,ex,ea,l,q⟩:= hpt;subst ex;obtain rfl:u=Value.ref a:=rx;refine GV I1 ea G.cl hm l ?_;refine callWith_K (first:=[.ref a]) (h₀:=X.base) I.ok.mod.zb hm.kp (thn (ha pos pins s1 U H1 _ I1 q) λus s2 ⟨vs,H2,I2,r,q2⟩=>⟨I2.kIn,?_⟩) hst hpl;exact MK (us:=.ref a::us) (vs:=.ref a::vs) F hr hb hx I2 (.cons rfl r) q2
theorem V4{X:Cx}:Passes (CX1 X.prog X.w) X E0:=λ_ _ _ _ _ _ _ ⟨_,_,_,_,_,_,_,_,_,_,_,q⟩=>q.elim
end
noncomputable def C7(z:Str):Bool:=decide (z.length<=1000)&&z.cps.toList.all λc=>decide (c<16^8)
theorem FD{z:Str}(h:C7 z=true):(reprText z).length<=20000:=by
 unfold C7 at h;rw[aL]at h;have h1:=aO h.1;have h2:=PySem.StrLaws.reprText_len z λc m=>aO (bx.mp h.2 c m)
 lia
section
variable{X:Cx}{v:Expr}{ta:TE}{a:Str}{j:Nat}{cp fp jp:Pos}
def tFr(ta:TE):TE:=λU H Q=>ta U H λx H1=>∃z,x=.str z/\C7 z=true/\∀r,Q (.str r) H1
theorem ZL(hv:PE X v ta)(hl:a.length<=1000:=by decide):PE X (.JoinedStr [.Constant (.str a) j cp,.FormattedValue v 114 none fp] jp) (tFr ta):=by
 intro pins s U H Q I h;refine wpAny_JoinedStr ?_;show wpAny _ _ (eval (.Constant (.str a) j cp) X.env) _ _ s;refine thn (M0 pins s U H (λu H1=>u=.str a/\H1=H) I ⟨rfl,rfl⟩) λu s1 hpt=>?_
 obtain⟨x,H1,I1,r1,q1,q2⟩:= hpt;subst q1 q2;obtain⟨t1,rfl⟩:=r1;have e0:(Str.empty++a).length=a.length:=by rw[strLen_append];exact Nat.zero_add _
 refine⟨a,t1,rfl,by rw[e0,sizeLine_eq];lia,?_⟩;show wpAny _ _ (eval (.FormattedValue v 114 none fp) X.env) _ _ s1;refine wpAny_FormattedValue_repr (thn (hv pins s1 U H1 _ I1 h) λu s2 hpt=>?_);obtain⟨x,H2,I2,r2,z,ez,hz,q⟩:= hpt;subst ez;obtain⟨t2,rfl⟩:=r2;have hr:=FD hz;refine wpAny_pyReprObj_str ?_ (by rw[sizeLine_eq];lia);have e1:(Str.empty++a++reprText z).length<=21000:=by rw[strLen_append,e0];lia
 refine formatField_str (λt' tk=>⟨_,t',rfl,by rw[sizeLine_eq];lia,?_⟩) (by rw[sizeLine_eq];lia);refine⟨by rw[sizeLine_eq];lia,.str (Str.empty++a++reprText z),H2,?_,⟨_,rfl⟩,q _⟩;exact(I2.tok _).tok _
end
section
variable{X:Cx}
theorem QD(hc:X.calm=true):Co X (.builtin "any") (λxs H Q=>∃(l:Addr)(bs:List Bool),xs=[.ref l]/\SqL X.K H l (bs.map V.o)/\Q (.o (bs.any id)) H):=by
 intro pins s U H xs us Q I r h;obtain⟨l,bs,rfl,hq,q⟩:=h;obtain⟨u,rfl,rx⟩:=vals1 r;cases rx;obtain⟨its,rv,pl,hz⟩:=I.list hq;have hb:=Cy rv;have hl:=pl.isList;have hlt:l<s.heap.objs.size:=by obtain⟨_,e,_⟩:=hl;exact az e
 refine call_any_walk (wpAny_pyIter_list hl ?_);refine⟨s.heap.objs.size,[s.heap.objs.size,l],[s.heap.objs.size],its.toArray.size,_,_,λi=>(bs[i]?).getD false,rfl,Walks.list (A:=X.A.in1) (I.ok.hd hc) _ l (aS hlt) its.toArray,
  ⟨⟨_,aD _ rfl,rfl,rfl⟩,hl.push _⟩,λi v s' Q' E' hP hQ=>?_,λh' tk hk=>?_⟩
 .have e:its[i]?=some v:=by simpa using hP
  rw[hb,aP]at e;cases eb:bs[i]? with|none=>rw[eb]at e;cases e|some b =>rw[eb]at e;have e':Value.bool b=v:=Option.some.inj e;subst e';simp only[eb,Option.getD_some]at hQ;exact wpAny_truthy_bool hQ
 .have e:((List.range its.toArray.size).any λi=>(bs[i]?).getD false)=bs.any id:=by
   have hlen:its.toArray.size=bs.length:=by rw[hb];simp
   rw[hlen];rw[bO,cS,cS];constructor
   .rintro⟨i,hi,hh⟩
    have hi':=bT.mp hi;exact⟨bs[i],List.getElem_mem hi',by simpa[ag hi']using hh⟩
   .rintro⟨b,hm,hh⟩
    obtain⟨i,hi,rfl⟩:=cj hm;exact⟨i,bT.mpr hi,by simpa[ag hi]using hh⟩
  rw[e];have kp:∀b o,s.heap.get? b=some o->h'.get? b=some o:=λb o e=>hk b o (λhm=>by rw[aG.mp hm]at e;exact bA _ (az e)) (af _ e)
  exact⟨.o _,H,I.kept kp,rfl,q⟩
end
section
variable{X:Cx}{v:Expr}{ta:TE}{fp:Pos}
end
section
variable{X:Cx}{v w:Expr}{ta tb:TE}{a a2:Str}{j j2:Nat}{cp fp cp2 fp2 jp:Pos}
def Jbp(ta tb:TE):TE:=λU H Q=>ta U H λx H1=>∃z,x=.str z/\C7 z=true/\tb U H1 λy H2=>∃z2,y=.str z2/\C7 z2=true/\∀r,Q (.str r) H2
end
end L2
namespace PySem
namespace Zp
theorem OH:typeLookup (.type "zip") "__getattr__"=pure none:=by rw[typeLookup_type,builtinLookup_eq_fast];kernel_rfl
theorem OJ:typeLookup (.type "zip") "keys"=pure none:=by rw[typeLookup_type,builtinLookup_eq_fast];kernel_rfl
theorem Mv:entryFor table "zip.__getattribute__"=some Builtin.«object.__getattribute__» :=
 entryFor_alias (id':="object.__getattribute__") (by kernel_rfl) (by decide +kernel) (by decide +kernel) (by kernel_rfl)
theorem OI(a:Addr)(vs:Array Value)(u:Tok) :
  Meets (Builtin.«object.__getattribute__» ⟨[.ref a,.str "keys" u],[]⟩) (λA R s=>s.heap.get? a=some {cls:=.type "zip",dict:=none,data:=.fields vs,slots:=#[]}/\raisesAttr (.ref a) "keys" A R s) :=
 Meets.of_wp λprog w A R s hs=>by
  obtain⟨hp,g,d,tk,os⟩:=s;obtain⟨hx,hs⟩:=hs;have hT:(⟨hp,g,d,tk,os⟩:Shared).TypeIs (.ref a) "zip":=⟨_,hx,rfl⟩
  have hname:(["__module__","__name__","__qualname__","__doc__","__annotations__"]:List Str).contains "keys"=false:=by decide +kernel
  have hmiss:=OJ;unfold Builtin.«object.__getattribute__»
  repeat (any_goals (first|assumption|wp_step))
  try simp only[hname,bC,if_false]
  repeat (any_goals (first|assumption|wp_step))
  exact wpAny_raiseAttrError hs.1 hs.2 (attrMsg_fits (by decide +kernel) (by size_fits))
theorem OG{prog:Program}{w:World}{A:Around}{E:Value->Shared->Prop}{s:Shared}{a:Addr}{vs:Array Value}{Q:Option Value->Shared->Prop}
  (hx:s.heap.get? a=some {cls:=.type "zip",data:=.fields vs}) (hA:A.handled=none)
  (h:∀h' tk,(∀b o,s.heap.get? b=some o->h'.get? b=some o)->Q none {s with heap:=h',toks:=tk}):wpAny (model prog w) A (getAttr? (.ref a) "keys") Q E s:=by
 obtain⟨hp,g,d,tk,os⟩:=s;have hT:∀tk',(⟨hp,g,d,tk',os⟩:Shared).TypeIs (.ref a) "zip":=λ_=>⟨_,hx,rfl⟩
 have f1:=sub_AttributeError;have f3:=F.slot_zip_getattribute.lookup;have f4:=F.slot_zip_getattribute.bind (.ref a);have f5:=OH;unfold getAttr? getAttrBy? getAttrBy
 repeat (any_goals (first|assumption|exact hT _|((with_reducible show wpAny _ _ (call (Value.builtin "zip.__getattribute__") _ _) _ _ _);refine call_meets F.slot_zip_getattribute (hT _) Mv (F.args_zip_getattribute_2 _ _) (OI a vs _) ⟨hx,hA,λh' tk' e hx'=>?_⟩)|wp_step))
 obtain⟨t',u',he⟩:=hx'.there;show wpAny _ _ (getattributeRaised _ _ _ _ _ _ _) _ _ _;unfold getattributeRaised
 repeat (any_goals (first|assumption|wp_step))
 exact h h' tk' hx'.1
theorem IV:entryFor table "dict.update.loop"=some Builtin.«dict.update.loop»:=entryFor_of_fast (by kernel_rfl)
theorem D7:plainId "dict.update.loop"=true:=by decide +kernel
section
variable{prog:Program}{w:World}{A:Around}{E:Value->Shared->Prop}{s:Shared}{z TI TO i1 i2 l1 l2 lo S:Addr}{xs ys:Array Value}{b1 b2:Bool}{R:Result->Shared->Prop}{K:Type}[DecidableEq K]{knd:KeyKind prog w K}
theorem OK(hh:A.handled=none)(D:Apart z TI TO i1 i2 l1 l2)(hlo:∀b∈[z,TI,TO,i1,i2,l1,l2],b<lo)(hS1:∀b∈[z,TI,TO,i1,i2,l1,l2],b≠S)(hSl:S<lo){ks:List K}(hks:∀(i:Nat)(x:Value),xs[i]?=some x->∃k,ks[i]?=some k/\knd.is k x=true)(hn:xs.size<=sizeLine)(hl:ks.length=xs.size)(res:Value){h₁:Heap}
  (hR:∀h' tk,(∀b o,b≠S->b∉[z,TO,i1,i2]->h₁.get? b=some o->h'.get? b=some o)->h'.DictOf knd S (merged [] (ks.zip ys.toList))->R (.ok (.ret res)) {s with heap:=h',toks:=tk}) :
  ∀(k i:Nat)(h:Heap)(tk:Nat),min xs.size ys.size-i=k->i<=min xs.size ys.size->Frs b1 b2 h z TI TO i1 i2 l1 l2 lo i->D2 b1 h l1 xs->D2 b2 h l2 ys->(∀b o,b≠S->b∉[z,TO,i1,i2]->h₁.get? b=some o->h.get? b=some o) ->
   h.DictOf knd S (merged [] ((ks.zip ys.toList).take i))->lo<=h.objs.size ->
   codeAny (model prog w) A (.builtin "dict.update.loop" ⟨[.ref S,.ref z,rawInt i,res],[]⟩) R {s with heap:=h,toks:=tk}:=by
 have nlo:∀{b a:Addr},b<lo->lo<=a->a≠b:=λ{b a} h1 h2 q=>absurd (aE h1 h2) (by rw[q];exact bA _)
 have zl:(ks.zip ys.toList).length=min xs.size ys.size:=by rw[cF,hl,bP]
 intro k
 induction k with
 |zero =>
  intro i h tk hk hi hst c1 c2 hkeep hS hIs;have hend:xs[i]?=none\/ys[i]?=none:=by
   rcases Nat.le_total xs.size ys.size with q|q
   .left;rw[Array.getElem?_eq_none_iff];lia
   .right;rw[Array.getElem?_eq_none_iff];lia
  refine codeAny_builtin IV ?_;rw[Around.under_plainId D7 _];show wpAny _ A.in1 (pyNext (.ref z) >>= _) _ _ _;refine aa (Ul (s:={s with heap:=h,toks:=tk}) (A:=A.in1) hh D hst c1 c2 hend λh' he=>?_);show wpAny _ _ (Builtin.Dict.addKeywords S [] >>= _) _ _ _;refine aa (au (au (hR h' tk (λb o q1 q2 e=>?_) ?_)))
  .simp only[aH,aZ,or_false,not_or]at q2;exact he b o q2.1 q2.2.1 q2.2.2.1 q2.2.2.2 (hkeep b o q1 (by simp[q2]) e)
  .rw[bU (by lia)]at hS;obtain⟨o,es,ep,ho,r⟩:=hS;exact⟨o,es,ep,he S _ (Ne.symm (hS1 _ (by simp))) (Ne.symm (hS1 _ (by simp))) (Ne.symm (hS1 _ (by simp))) (Ne.symm (hS1 _ (by simp))) ho,r⟩
 |succ k ih =>
  intro i h tk hk hi hst c1 c2 hkeep hS hIs;have hlt1:i<xs.size:=by lia
  have hlt2:i<ys.size:=by lia
  obtain⟨κ,ek,hκ⟩:=hks i _ (b7 hlt1);have ez:(ks.zip ys.toList)[i]?=some (κ,ys[i]):=by rw[List.getElem?_zip_eq_some];exact⟨ek,by rw[Array.getElem?_toList];exact b7 hlt2⟩
  refine codeAny_builtin IV ?_;rw[Around.under_plainId D7 _];show wpAny _ A.in1 (pyNext (.ref z) >>= _) _ _ _;refine aa (ON (s:={s with heap:=h,toks:=tk}) D hst c1 c2 (b7 hlt1) (b7 hlt2) hIs hlo λh' hst' c1' c2' ht hz hkp=>?_);dsimp only at ht hz hkp ⊢;have hS':h'.DictOf knd S (merged [] ((ks.zip ys.toList).take i)):=by obtain⟨o,es,ep,ho,r⟩:=hS;exact⟨o,es,ep,hkp S _ (Ne.symm (hS1 _ (by simp))) (Ne.symm (hS1 _ (by simp))) (Ne.symm (hS1 _ (by simp))) (Ne.symm (hS1 _ (by simp))) ho,r⟩
  refine aa (wpAny_holding ?_);refine aa (wpAny_tryCatch ?_);unfold Builtin.Dict.pairItems;refine aa (wpAny_typeOf (T:="tuple") ⟨_,ht,rfl⟩ ?_);rw[if_pos (by decide)];refine aa (wpAny_seqItems ht rfl (au ?_));show wpAny _ _ (holding [xs[i],ys[i]] (dictSet S xs[i] ys[i])) _ _ _;refine wpAny_holding (wpAny_dictSet_pairs (s:={s with heap:=h',toks:=tk}) hκ hS' (λh2 hd2 sb=>?_) (aR (merged_length_le _ _) (by simp only[List.length_nil,bt];lia)));rw[<- merged_take_succ _ _ _ _ ez]at hd2;have up:∀b o,b≠S->h'.get? b=some o->h2.get? b=some o:=λb o hb e=>sb.extBut b o hb e
  have hTS:h.objs.size≠S:=nlo hSl hIs;refine au ⟨plainId_quiet D7 _,ih (i+1) h2 (tk+1) (by lia) (by lia) (hst'.keep up (λb hb=>hS1 b (aB [l1,l2] hb)) hSl) (c1'.at λo e=>up _ o (hS1 _ (by simp)) e) (c2'.at λo e=>up _ o (hS1 _ (by simp)) e) (λb o q1 q2 e=>?_) hd2 ?_⟩
  .have q3:=q2;simp only[aH,aZ,or_false,not_or]at q3;exact up b o q1 (hkp b o q3.1 q3.2.1 q3.2.2.1 q3.2.2.2 (hkeep b o q1 q2 e))
  .exact aR hIs (cH (az (up _ _ hTS ht)))
theorem HV{Q:Value->Shared->Prop}(hh:A.handled=none)(D:Apart z TI TO i1 i2 l1 l2)(hz:IsZip s.heap z TI TO .none)(hTI:IsPair s.heap TI (.ref i1) (.ref i2))(hTO:∃a b,IsPair s.heap TO a b)(t1:GC b1 s.heap i1 l1 0)(t2:GC b2 s.heap i2 l2 0)(c1:D2 b1 s.heap l1 xs)(c2:D2 b2 s.heap l2 ys)
  (hlo:∀b∈[z,TI,TO,i1,i2,l1,l2],b<s.heap.objs.size) {ks:List K} (hks:∀(i:Nat)(x:Value),xs[i]?=some x->∃k,ks[i]?=some k/\knd.is k x=true) (hn:xs.size<=sizeLine) (hl:ks.length=xs.size)
  (hQ:∀h' tk,(∀b o,b∉[z,TO,i1,i2]->s.heap.get? b=some o->h'.get? b=some o)->h'.DictOf knd s.heap.objs.size (merged [] (ks.zip ys.toList))->Q (.ref s.heap.objs.size) {s with heap:=h',toks:=tk}) :
  wpAny (model prog w) A (call (.type "dict") [.ref z]) Q E s:=by
 refine callType_codes (Q₁:=λobj s₁=>obj=.ref s.heap.objs.size/\s₁={s with heap:=s.heap.push {cls:=.type "dict",data:=.dict #[]} }) F.kt_called_dict (F.kt_typeCall_dict_1 _) F.entry_dict_init (kt_code_dict_new _ ⟨rfl,rfl⟩) ?_
 rintro obj s₁ ⟨rfl,rfl⟩
 have hnew:(s.heap.push {cls:=.type "dict",data:=.dict #[]}).DictOf knd s.heap.objs.size []:=Heap.DictOf.new s.heap;have nS:∀b∈[z,TI,TO,i1,i2,l1,l2],b≠s.heap.objs.size:=λb hb=>aS (hlo b hb)
 have z7:∀b o,s.heap.get? b=some o->(s.heap.push {cls:=.type "dict",data:=.dict #[]}).get? b=some o:=λb o e=>af _ e
 refine⟨hnew.typeIs,F.args_dict_init_2 _ _,?_⟩;unfold Builtin.«dict.__init__»;refine aa ?_;unfold Builtin.Dict.selfAndRest;refine aa (wpAny_notOrdered_dict hnew.typeIs ?_);show wpAny _ _ (pure (s.heap.objs.size,[Value.ref z])) _ _ _;refine au ?_;show wpAny _ _ (Builtin.Dict.updateFrom "dict.__init__" s.heap.objs.size (.ref z) [] .none) _ _ _;unfold Builtin.Dict.updateFrom;refine aa (wpAny_typeOf (T:="zip") ⟨_,z7 _ _ hz,rfl⟩ ?_);rw[if_pos (by decide)];refine aa (OG (z7 _ _ hz) hh λh2 tk2 k2=>?_);have up:∀b o,s.heap.get? b=some o->h2.get? b=some o:=λb o e=>k2 b o (z7 b o e)
 simp only[Option.isNone_none,if_true];refine aa (wpAny_rule ?_);refine aa (wpAny_pyIter_zip (up _ _ hz) ?_);obtain⟨ta,tb,hTO⟩:=hTO;have lz:s.heap.objs.size<=h2.objs.size:=by obtain⟨o,es,ep,ho,_⟩:=hnew;exact cH (az (k2 _ _ ho))
 have hnew2:h2.DictOf knd s.heap.objs.size []:=by obtain⟨o,es,ep,ho,r⟩:=hnew;exact⟨o,es,ep,k2 _ _ ho,r⟩
 have lS:s.heap.objs.size<h2.objs.size:=by obtain⟨o,es,ep,ho,_⟩:=hnew2;exact az ho
 refine au ⟨plainId_quiet D7 _,OK (A:=A.in1) (s:=s) (h₁:=h2) (lo:=h2.objs.size) (b1:=b1) (b2:=b2) (xs:=xs) (ys:=ys) (knd:=knd) hh D (λb hb=>aE (hlo b hb) lz) nS lS hks hn hl .none (λh' tk kp dd=>?_) (min xs.size ys.size) 0 h2 tk2 rfl (Nat.zero_le _)
  ⟨.inl ⟨rfl,up _ _ hz,ta,tb,up _ _ hTO⟩,up _ _ hTI,t1.at λo e=>up _ o e,t2.at λo e=>up _ o e⟩ (c1.at λo e=>up _ o e) (c2.at λo e=>up _ o e) (λb o _ _ e=>e) (by simpa[merged]using hnew2) (aJ _)⟩
 exact⟨rfl,hQ h' tk (λb o q e=>kp b o (aS (az e)) q (up b o e)) dd⟩
end
end Zp
end PySem
namespace L2
open PySem PySem.Spec PyProof.Rows
theorem Rh:∀{ks:List Key}{ys:List V}{us:List Value},Vals ys us->KV (ks.zip ys) (ks.zip us)
 | [],_,_,_=>.nil
 |_::_,[],_,.nil=>.nil
 |k::ks,_::_,_::_,.cons r rr=>.cons ⟨rfl,r⟩ (Rh rr)
def OQ(K:Fg)(ta:TA):TE:=λU H Q=>ta U H λvs H1=>∃(b1:Bool)(a1:Addr)(b2:Bool)(a2:Addr)(ks:List Key)(ys:List V),vs=[.ref a1,.ref a2]/\SqB b1 K H1 a1 (ks.map kV)/\SqB b2 K H1 a2 ys/\ks.Nodup/\ks.length=ys.length/\∀d,H1 d=none->Q (.ref d) (upd H1 d (.l (ks.zip ys)))
theorem LM{X:Cx}{a b:Expr}{ta:TA}{p1 p2 pos1 pos2:Pos}(hc:X.calm=true)(hm1:X.mg "dict"=none)(hm2:X.mg "zip"=none)(ha:PA X [a,b] ta)(hg1:Gl X "dict":=by rfl)(hg2:Gl X "zip":=by rfl)
  (he:starEach [(.Call (.Name "zip" p2) [a,b] [] pos2:Expr)] X.env=[(false,eval (.Call (.Name "zip" p2) [a,b] [] pos2) X.env)]:=by rfl) (hs:starEach [a,b] X.env=[(false,eval a X.env),(false,eval b X.env)]:=by rfl) (hs2:starEach [b] X.env=[(false,eval b X.env)]:=by rfl) :
  PE X (.Call (.Name "dict" p1) [.Call (.Name "zip" p2) [a,b] [] pos2] [] pos1) (OQ X.K ta):=by
 intro pins s U H Q I h;refine wpAny_Call_Name_kw (ER I hg1 hm1 boot_dict ?_);refine callWith_type1 ?_ he rfl;rw[he];refine Calls.spliced_cons ?_;refine wpAny_Call_Name_kw (ER I hg2 hm2 boot_zip ?_);refine callWith_type1 (thn (ha pos2 pins s U H _ I h) λus s1 hpt=>?_) (by rw[hs,hs2]) (by rw[hs2];rfl);obtain⟨vs,H1,I1,r1,q1⟩:= hpt;obtain⟨b1,a1,b2,a2,ks,ys,e,hx,hy,nd,ln,q⟩:=q1;subst e;cases r1 with
 |cons r rr =>
  cases rr with
  |cons r' rr =>
   cases rr;cases r;cases r';obtain⟨its1,rv1,c1,z1⟩:=I1.sqb hx;obtain⟨its2,rv2,c2,z2⟩:=I1.sqb hy;have e1:=rv1.length;have e2:=rv2.length;rw[ar]at e1;refine Zp.Lg (T1:=Zp.BR b1) (T2:=Zp.BR b2) (C1:=λh=>Zp.D2 b1 h a1 its1.toArray) (C2:=λh=>Zp.D2 b2 h a2 its2.toArray) (Zp.KW b1 a1 its1.toArray) (Zp.KW b2 a2 its2.toArray) (λh o c=>Zp.D2.at (b:=b2) c λo e=>af _ e) c1 c2 ?_;obtain⟨z,TI,TO,i1,i2,ez,g0,g1,g2,g3,g4,D,hz,hTI,hTO,t1,t2,hk⟩:=Zp.made c1 c2;rw[<- ez];refine Calls.spliced_nil ?_;have cc1:Zp.D2 b1 (Zp.z5 s1.heap (Zp.BR b1) (Zp.BR b2) a1 a2) a1 its1.toArray:=Zp.D2.at (b:=b1) c1 λo e=>hk _ o e
   have cc2:Zp.D2 b2 (Zp.z5 s1.heap (Zp.BR b1) (Zp.BR b2) a1 a2) a2 its2.toArray:=Zp.D2.at (b:=b2) c2 λo e=>hk _ o e
   have clt:∀{b:Bool}{h:Heap}{l:Addr}{xs:Array Value},Zp.D2 b h l xs->l<h.objs.size:=λ{b h l xs} c=>by
    cases b
    .obtain⟨o,e,_⟩:=c;exact az e
    .obtain⟨o,e,_⟩:=c;exact az e
   refine Zp.HV (s:={s1 with heap:=Zp.z5 s1.heap (Zp.BR b1) (Zp.BR b2) a1 a2}) (b1:=b1) (b2:=b2) (xs:=its1.toArray) (ys:=its2.toArray) (knd:=A0 X.prog X.w) (ks:=ks) (I.ok.hd hc) D hz hTI ⟨_,_,hTO⟩ t1 t2 cc1 cc2 (λb hb=>?_) (λi x ex=>?_) (by simp only[ax];lia) (by simp only[ax];lia) λh' tk kp dd=>?_
   .simp only[aH,aZ,or_false]at hb;rcases hb with rfl|rfl|rfl|rfl|rfl|rfl|rfl
    .exact az hz
    .exact az hTI
    .exact az hTO
    .obtain⟨o,e,_⟩:=t1.obj;exact az e
    .obtain⟨o,e,_⟩:=t2.obj;exact az e
    .exact clt cc1
    .exact clt cc2
   .have ex':its1[i]?=some x:=by simpa using ex
    have li:=(ak.mp ex').1;obtain⟨u',hu,ru⟩:=rv1.get (i:=i) (ag (by rw[ar];lia));rw[ex']at hu;cases hu;rw[bR]at ru;exact⟨_,ag (by lia),JY ru⟩
   .have gs:s1.heap.objs.size<=(Zp.z5 s1.heap (Zp.BR b1) (Zp.BR b2) a1 a2).objs.size:=aR g0 (cH (az hz));have I2:Inv X pins U H1 {s1 with heap:=Zp.z5 s1.heap (Zp.BR b1) (Zp.BR b2) a1 a2,toks:=s1.toks}:=I1.kept hk;have zk:((ks.zip its2).map (·.1))=ks:=by rw[b8 (by lia)]
    rw[merged_nil_of_nodup _ (by simp only[List.toList_toArray];rw[zk];exact nd)]at dd;have fr:=I1.z9.fresh (a:=(Zp.z5 s1.heap (Zp.BR b1) (Zp.BR b2) a1 a2).objs.size) gs;have nm:((Zp.z5 s1.heap (Zp.BR b1) (Zp.BR b2) a1 a2).objs.size==sysModules)=false:=beq_eq_false_iff_ne.mpr (Ne.symm (aS (aE I1.big gs)));refine⟨.ref (Zp.z5 s1.heap (Zp.BR b1) (Zp.BR b2) a1 a2).objs.size,upd H1 (Zp.z5 s1.heap (Zp.BR b1) (Zp.BR b2) a1 a2).objs.size (.l (ks.zip ys)),?_,rfl,q _ fr⟩;refine I2.To (fp:=[z,TO,i1,i2]) kp (λb hb=>?_) (λb u e=>?_) λb u e=>?_
    .have hge:s1.heap.objs.size<=b:=by simp only[aH,aZ,or_false]at hb;rcases hb with rfl|rfl|rfl|rfl<;>assumption
     exact I1.Rm hge (I1.z9.fresh hge)
    .rw[Ai (λz=>by rw[z,fr]at e;cases e)];exact e
    .by_cases hb:b=(Zp.z5 s1.heap (Zp.BR b1) (Zp.BR b2) a1 a2).objs.size
     .subst hb;rw[Ak]at e;cases e;refine .inr ⟨aJ _,(show A4 X.prog X.w _ h' _ (.l (ks.zip ys))from⟨by rw[cF];lia,nm,ks.zip its2,Rh rv2,dd⟩)⟩
     .rw[Ai hb]at e;exact .inl e
section
variable{X:Cx}
def Jbw:V->Option Int->Option Int->Hp->VK->Prop:=λx lo hi H Q=>∃z:Str,x=.str z/\(Txt.slice z lo hi).length<=sizeLine/\Q (.str (Txt.slice z lo hi)) H
theorem part_of{v:Value}{o:Option Int}(p:IsPart v o):∃l:Option (Int×Tok),v=partValue l/\l.map (·.1)=o:=by cases p with|none=>exact⟨none,rfl,rfl⟩|int i t=>exact⟨some (i,t),rfl,rfl⟩
theorem Vl:SlR X Jbw:=by
 intro pins s U H x v vl vu lo hi sl Q I rx hs pl pu h;obtain⟨z,rfl,hz,q⟩:=h;obtain⟨t,rfl⟩:=rx;obtain⟨l,rfl,el⟩:=part_of pl;obtain⟨u,rfl,eu⟩:=part_of pu;refine⟨"str",_,PyProof.Rows.slot_str_getitem.lookup,typeIs_str s z t,?_⟩;refine wpAny_getItem_str_slice (l:=l) (u:=u) (st:=none) hs rfl ?_;have e:Builtin.Str.strSliceIndices lo hi 1 z.length=slicePicked z l u none:=by rw[<- el,<- eu];rfl
 unfold sliceMade;unfold Txt.slice at q hz;rw[e]at q hz;split
 next c=>rw[if_pos (by simpa using c)]at q;exact⟨.str z,H,I,⟨t,rfl⟩,q⟩
 next c=>rw[if_neg (by simpa using c)]at q hz;exact⟨hz,.str _,H,I.tok _,⟨_,rfl⟩,q⟩
end
end L2
namespace L2
open PySem PySem.Spec
section
variable{X:Cx}{pins:List (Addr×Obj)}{U:List (Option V)}{H:Hp}{s:Shared}{a:Addr}{o:Obj}{kvs:List (Key×V)}{u₀:HO}{xs:List V}
theorem Inv.JaD(I:Inv X pins U H s)(e:H a=some (.frz o u₀))(n:∀o u,X.zu a≠some (.frz o u))(nf:∀o w,u₀≠.frz o w):Inv X pins U (upd H a u₀) s:=by
 have h1:=(show A4 X.prog X.w H s.heap a (.frz o u₀)from I.z9 a _ e)
 have ne:∀{b:Addr}{u:HO},H b=some u->(∀o w,u≠.frz o w)->upd H a u₀ b=some u:=λ{b u} z q=>by unfold upd;rw[if_neg (λx=>by subst x;rw[e]at z;cases z;exact q _ _ rfl)];exact z
 have no:∀{b:Addr},H b=none->upd H a u₀ b=none:=λ{b} z=>by unfold upd;rw[if_neg (λx=>by subst x;rw[e]at z;cases z)];exact z
 have st:∀{b:Addr}{u:HO},A4 X.prog X.w H s.heap b u->A4 X.prog X.w (upd H a u₀) s.heap b u:=λz=>z.MG (λ_ _ _ q=>q) (λ_ q=>ne q (λ_ _=>nofun)) λ_ _ q=>ne q (λ_ _=>nofun)
 exact⟨I.ok,I.os,I.bare,⟨I.base.keep,I.base.slot,λb ob q z x=>no (I.base.free b ob q z x),I.base.there,λb xs q=>ne (I.base.zL b xs q) (λ_ _=>nofun),λb ob u q=>by
  have q':=I.base.zX b ob u q;unfold upd;rw[if_neg (λx=>by subst x;exact n _ _ q)];exact q',λb ps q=>by
  obtain⟨m,z⟩:=I.base.zN b ps q;exact⟨m,ne z (λ_ _=>nofun)⟩⟩,I.loc,I.cell,no I.free,λx c q=>no (I.zY x c q),λp q=>⟨(I.pin p q).1,no (I.pin p q).2.1,(I.pin p q).2.2⟩,λb u q=>by
  by_cases z:b=a
  .subst z;rw[Ak]at q;cases q;exact st h1.2
  .unfold upd at q;rw[if_neg z]at q;exact st (I.z9 b u q),I.len⟩
def Zg(td:TE):TE:=λU H Q=>∃a kvs,H a=some (.l kvs)/\∀o,td U (upd H a (.frz o (.l kvs))) λv H1=>H1 a=some (.frz o (.l kvs))/\Q v (upd H1 a (.l kvs))
theorem SH{e:Expr}{td:TE}(h:PE X e td):PE X e (Zg td):=by
 intro pins s U H Q I q;obtain⟨a,kvs,ha,q⟩:=q;obtain⟨o,I2⟩:=I.freeze ha;refine thn (h pins s U _ _ I2 (q o)) λv s1 hpt => ?_
 obtain⟨x,H1,I1,r1,h1,q1⟩:= hpt;refine⟨x,_,I1.JaD h1 (λob u z=>by rw[I.base.zX a ob u z]at ha;cases ha) (λ_ _=>nofun),r1,q1⟩
theorem Inv.TX(I:Inv X pins U H s)(e:H a=some (.lst xs)):∃o,Inv X pins U (upd H a (.frz o (.lst xs))) s:=by
 have h2:=(show A4 X.prog X.w H s.heap a (.lst xs)from I.z9 a _ e)
 obtain⟨_,_,_,_,ho⟩:=id h2;exact⟨_,I.write (x:=a) (e:=a) (t':=s.toks) (h':=s.heap) (by rw[e];exact True.intro) (.inl rfl) (λ_ _ _ z=>z) ⟨_,ho⟩ ⟨ho,h2⟩⟩
def Vb(td:TE):TE:=λU H Q=>∃a xs,H a=some (.lst xs)/\∀o,td U (upd H a (.frz o (.lst xs))) λv H1=>H1 a=some (.frz o (.lst xs))/\Q v (upd H1 a (.lst xs))
theorem Pd{e:Expr}{td:TE}(h:PE X e td):PE X e (Vb td):=by
 intro pins s U H Q I q;obtain⟨a,xs,ha,q⟩:=q;obtain⟨o,I2⟩:=I.TX ha;refine thn (h pins s U _ _ I2 (q o)) λv s1 hpt => ?_
 obtain⟨x,H1,I1,r1,h1,q1⟩:= hpt;refine⟨x,_,I1.JaD h1 (λob u z=>by rw[I.base.zX a ob u z]at ha;cases ha) (λ_ _=>nofun),r1,q1⟩
end
end L2
namespace PySem
section
variable{prog:Program}{w:World}{A:Around}{E:Value->Shared->Prop}
theorem XI{it t:Addr}{items:Array Value}(hne:t≠it):∀(n i:Nat)(s:Shared)(Q:List Value->Shared->Prop),s.heap.IsListIter it t i->s.heap.IsList t items->i+n<=items.size ->
  (∀h',h'.IsListIter it t (i+n)->Heap.SameBut it s.heap h'->Q ((items.toList.drop i).take n) {s with heap:=h' })->wpAny (model prog w) A (draw (.ref it) n) Q E s
 |0,i,s,Q,hit,_,_,hQ=>by show wpAny _ _ (pure []) Q E s;exact au (by simpa using hQ s.heap hit (Heap.SameBut.refl ..))
 |n+1,i,s,Q,hit,ht,hle,hQ=>by
  have hlt:i<items.size:=by lia
  show wpAny _ _ (pyNext (.ref it) >>= _) Q E s;refine aa (wpAny_pyNext_list_item hit ht (x:=items[i]) (by simp[hlt]) λh₁ hit₁ hs₁=>?_);refine aa (wpAny_holding (XI hne n (i+1) _ _ hit₁ (ht.at λo e=>(hs₁.2 t hne).trans e) (by lia) λh₂ hit₂ hs₂=>au ?_));have hd:items.toList.drop i=items[i]::items.toList.drop (i+1):=by simp[cL,hlt]
  have:=hQ h₂ (by rw[show i+(n+1)=i+1+n by lia];exact hit₂) (hs₁.trans hs₂);rw[hd,List.take_succ_cons]at this;exact this
theorem EK{s:Shared}{env:Env}{elts:List Expr}{x1}{pos:Pos}{t:Addr}{items:Array Value}{Q:Unit->Shared->Prop}(hh:A.handled=none)(ht:s.heap.IsList t items)
  (hn:(assignEach elts env).length=items.size) (hstar:(assignEach elts env).findIdx? (·.1)=none)
  (h:∀h',Heap.ExtBut s.heap.objs.size s.heap h'->wpAny (model prog w) A (assignInOrder ((assignEach elts env).map (·.2)) items.toList) Q E {s with heap:=h' }) :
  wpAny (model prog w) A (assign (.Tuple elts x1 pos) env (.ref t)) Q E s:=by
 rw[arm_assign_Tuple];refine aa (wpAny_standAt ?_);unfold unpack;rw[hn,hstar];refine aa (wpAny_holding ?_);have hlt:t≠s.heap.objs.size:=by obtain⟨o,ho,_⟩:=ht;exact aS (az ho)
 unfold unpackItems;refine aa ?_;unfold notIterableAtAll;refine aa (wpAny_specialOf ht.typeIs slot_list_iter.lookup ?_);refine au ?_;simp only[bC,if_false];refine aa (wpAny_holding (wpAny_pyIter_list ht ?_));have htp:(s.heap.push {cls:=.type "list_iterator",data:=.fields #[.ref t,.int 0 0]}).IsList t items:=ht.at λo e=>af _ e
 refine aa (wpAny_holding (XI hlt items.size 0 _ _ ⟨_,aD _ rfl,rfl,rfl⟩ htp (by lia) λh₁ hit₁ hs₁=>?_));have hall:List.take items.size (List.drop 0 items.toList)=items.toList:=by rw[List.drop_zero];exact bU (by simp)
 rw[hall];rw[if_neg (by simp)];have ht₁:h₁.IsList t items:=htp.at λo e=>(hs₁.2 t hlt).trans e
 refine aa (wpAny_holding (wpAny_pyNext_list_end hh hit₁ ht₁ (by simp) λh₂ he₂=>?_));simp only[Option.isSome_none,bC,if_false];refine au (h h₂ λb o hb e=>he₂ b o hb (hs₁.extBut b o hb (af _ e)))
end
end PySem
namespace L2
open PySem PySem.Spec
section
variable{X:Cx}{pos:Pos}
def JbP(K:Fg)(n:Nat)(t:TGs):TG:=λv U H Q=>∃a xs,v=.ref a/\SqL K H a xs/\xs.length=n/\t xs U H Q
theorem VQ{es:List Expr}{k:Nat}{t:TGs}{n:Nat}(hc:X.calm=true)(h:PGs X es t)
  (hn:(assignEach es X.env).length=n:=by rfl) (hst:(assignEach es X.env).findIdx? (·.1)=none:=by rfl):PG X (.Tuple es k pos) (JbP X.K n t):=by
 intro pins s U H v u Q I r hw;obtain⟨a,xs,e1,hq,hl,hw⟩:=hw;subst e1;cases r;obtain⟨its,rv,⟨o,m,e,c,d,hs⟩,hz⟩:=I.list hq;refine EK (I.ok.hd hc) ⟨o,e,c,m,hs⟩ (by simp[hn,<- hl,rv.length]) hst λh' hx=>?_
 have I1:Inv X pins U H {s with heap:=h' }:=I.kept (t':=s.toks) λb o e=>hx b o (aS (az e)) e
 exact h pins _ U H xs _ Q I1 (by simpa using rv) hw
end
end L2
namespace L2
open PySem PySem.Spec PyProof.Rows
section
variable{X:Cx}{v w:Expr}{ta tb:TE}{a:Str}{j:Nat}{cp fp fp2 jp:Pos}
theorem V0(hv:PE X v ta)(hw:PE X w tb)(hl:a.length<=1000:=by decide):PE X (.JoinedStr [.FormattedValue v 114 none fp,.Constant (.str a) j cp,.FormattedValue w 114 none fp2] jp) (Jbp ta tb):=by
 intro pins s U H Q I h;refine wpAny_JoinedStr ?_;show wpAny _ _ (eval (.FormattedValue v 114 none fp) X.env) _ _ s;refine wpAny_FormattedValue_repr (thn (hv pins s U H _ I h) λu s2 hpt=>?_);obtain⟨x,H2,I2,r2,z,ez,hz,q⟩:= hpt;subst ez;obtain⟨t2,rfl⟩:=r2;have hr:=FD hz;refine wpAny_pyReprObj_str ?_ (by rw[sizeLine_eq];lia);have e0:(Str.empty++reprText z).length=(reprText z).length:=by rw[strLen_append];exact Nat.zero_add _
 refine formatField_str (λt' tk=>⟨_,t',rfl,by rw[sizeLine_eq];lia,?_⟩) (by rw[sizeLine_eq];lia);show wpAny _ _ (eval (.Constant (.str a) j cp) X.env) _ _ _;refine thn (M0 pins _ U H2 (λu H3=>u=.str a/\H3=H2) ((I2.tok _).tok _) ⟨rfl,rfl⟩) λu s3 hpt=>?_
 obtain⟨x,H3,I3,r3,q1,q2⟩:= hpt;subst q1 q2;obtain⟨t3,rfl⟩:=r3;have e2:(Str.empty++reprText z++a).length<=21000:=by rw[strLen_append,e0];lia
 refine⟨a,t3,rfl,by rw[sizeLine_eq];lia,?_⟩;show wpAny _ _ (eval (.FormattedValue w 114 none fp2) X.env) _ _ s3;refine wpAny_FormattedValue_repr (thn (hw pins s3 U H3 _ I3 q) λu s4 hpt=>?_);obtain⟨x,H4,I4,r4,z2,ez2,hz2,q'⟩:= hpt;subst ez2;obtain⟨t4,rfl⟩:=r4;have hr2:=FD hz2;refine wpAny_pyReprObj_str ?_ (by rw[sizeLine_eq];lia);have e3:(Str.empty++reprText z++a++reprText z2).length<=42000:=by rw[strLen_append];lia
 refine formatField_str (λt' tk=>⟨_,t',rfl,by rw[sizeLine_eq];lia,?_⟩) (by rw[sizeLine_eq];lia);refine⟨by rw[sizeLine_eq];lia,.str (Str.empty++reprText z++a++reprText z2),H4,?_,⟨_,rfl⟩,q' _⟩;exact(I4.tok _).tok _
end
end L2
namespace PySem
namespace Zp
section
variable{prog:Program}{w:World}{A:Around}{E:Value->Shared->Prop}{s:Shared}{e it l:Addr}{xs:Array Value}{S:Nat->Heap->Prop}
theorem Oa(W:Draws prog w it l xs S)(ei:e≠it)(le:l≠e){i:Nat}{x old:Value}{Q:Option Value->Shared->Prop}(he:IsEnum s.heap e it i old)(h1:S i s.heap)(hx:xs[i]?=some x)
  (hQ:∀h',IsEnumOut h' e it ((i:Int)+1) x s.heap.objs.size->S (i+1) h'->IsPair h' s.heap.objs.size (.int i s.toks) x->(∀c o,c≠e->c≠it->s.heap.get? c=some o->h'.get? c=some o)->Q (some (.ref s.heap.objs.size)) {s with heap:=h',toks:=s.toks+1}) :
  wpAny (model prog w) A (pyNext (.ref e)) Q E s:=by
 have hT:s.TypeIs (.ref e) "enumerate":=⟨_,he,rfl⟩
 unfold pyNext;refine aa (wpAny_attempt (wpAny_callSpecial?_slot (name:=Str.ofString "__next__") hT F.slot_enumerate_next (wpAny_call_entry F.slot_enumerate_next hT F.entry_enumerate_next ?_ (F.args_enumerate_next_1 _))));obtain⟨hp,g,d,tk,os⟩:=s;show wpAny _ _ (field (.ref e) 2 >>= _) _ _ _;refine aa (aY he rfl (x:=.ref it) rfl ?_);refine aa (W.item _ _ i x _ _ h1 hx λa s1 b1=>?_);replace b1:Heap.SameBut it hp a:=b1;have ea:IsEnum a e it i old:=(b1.2 e ei).trans he;show wpAny _ _ (field (.ref e) 3 >>= _) _ _ ⟨a,g,d,tk,os⟩;refine aa (aY ea rfl (x:=rawInt i) rfl ?_);show wpAny _ _ (field (.ref e) 4 >>= _) _ _ ⟨a,g,d,tk,os⟩;refine aa (aY ea rfl (x:=.none) rfl ?_);show wpAny _ _ (mkInt i >>= _) _ _ ⟨a,g,d,tk,os⟩;refine aa (wpAny_mkInt ?_);show wpAny _ _ (setField (.ref e) 3 (rawInt ((i:Int)+1)) >>= _) _ _ ⟨a,g,d,tk+1,os⟩;refine aa (wpAny_setField_rec ea (by simp) λb eb bb=>?_);replace bb:Heap.SameBut e a b:=bb;replace eb:IsEnum b e it ((i:Int)+1) old:=eb;show wpAny _ _ (setField (.ref e) 4 .none >>= _) _ _ ⟨b,g,d,tk+1,os⟩;refine aa (wpAny_setField_rec eb (by simp) λc ec bc=>?_);replace bc:Heap.SameBut e b c:=bc;replace ec:IsEnum c e it ((i:Int)+1) old:=ec;show wpAny _ _ (newTuple [.int i tk,x] >>= _) _ _ ⟨c,g,d,tk+1,os⟩;refine aa (wpAny_newTuple ?_);have sz:c.objs.size=hp.objs.size:=by rw[bc.1,bb.1,b1.1]
 have lt:e<hp.objs.size:=az he;have keep:∀q o,q≠e->q≠it->hp.get? q=some o->c.get? q=some o:=λq o q1 q2 z=>bc.extBut q o q1 (bb.extBut q o q1 (b1.extBut q o q2 z))
 have sc:S (i+1) c:=W.keep _ _ _ s1 (λo z=>bc.extBut _ _ ei.symm (bb.extBut _ _ ei.symm z)) λo z=>bc.extBut _ _ le (bb.extBut _ _ le z)
 have ef:IsEnum (c.push {cls:=.type "tuple",data:=.seq #[.int i tk,x]}) e it ((i:Int)+1) old:=af _ ec;show wpAny _ _ (Builtin.SmallTypes.ownedTupleIsFree (.ref e) >>= _) _ _ ⟨c.push {cls:=.type "tuple",data:=.seq #[.int i tk,x]},g,d,tk+1,os⟩;refine aa ?_;unfold Builtin.SmallTypes.ownedTupleIsFree;refine aa (aY ef rfl (x:=.none) rfl (au ?_));simp only[if_true];refine aa (wpAny_rule ?_);refine aa (aY ef rfl (x:=old) rfl ?_);refine aa (wpAny_setField_rec ef (by simp) λf eg bf=>?_);replace bf:Heap.SameBut e (c.push {cls:=.type "tuple",data:=.seq #[.int i tk,x]}) f:=bf;replace eg:IsEnum f e it ((i:Int)+1) x:=eg;show wpAny _ _ (Builtin.SmallTypes.ownedTupleHandOut (.ref e) (.ref c.objs.size) >>= _) _ _ ⟨f,g,d,tk+1,os⟩;refine aa ?_;unfold Builtin.SmallTypes.ownedTupleHandOut;refine aa (wpAny_setField_rec eg (by simp) λk ek bk=>?_);replace bk:Heap.SameBut e f k:=bk;replace ek:IsEnumOut k e it ((i:Int)+1) x c.objs.size:=ek;refine wpAny_setField_rec ek (by simp) λm em bm=>?_;replace bm:Heap.SameBut e k m:=bm;replace em:IsEnumOut m e it ((i:Int)+1) x c.objs.size:=em
 have up:∀q o,q≠e->(c.push {cls:=.type "tuple",data:=.seq #[.int i tk,x]}).get? q=some o->m.get? q=some o:=λq o q1 z=>bm.extBut q o q1 (bk.extBut q o q1 (bf.extBut q o q1 z))
 refine aa (wpAny_letGo (au ⟨_,rfl,au ?_⟩));have ne:hp.objs.size≠e:=cG lt;rw[sz]at em ⊢;exact hQ m em (W.keep _ _ _ sc (λo z=>up _ o ei.symm (af _ z)) λo z=>up _ o le (af _ z)) (up _ _ ne (by rw[<- sz];exact aD _ rfl)) λq o q1 q2 z=>up q o q1 (af _ (keep q o q1 q2 z))
theorem Qq(hh:A.handled=none)(W:Draws prog w it l xs S){i:Nat}{old:Value}{Q:Option Value->Shared->Prop}(he:IsEnum s.heap e it i old)(h1:S i s.heap)(hx:xs[i]?=none)
  (hQ:∀h',Heap.ExtBut it s.heap h'->Q none {s with heap:=h' }):wpAny (model prog w) A (pyNext (.ref e)) Q E s:=by
 have hT:s.TypeIs (.ref e) "enumerate":=⟨_,he,rfl⟩
 unfold pyNext;refine aa (wpAny_attempt (wpAny_callSpecial?_slot (name:=Str.ofString "__next__") hT F.slot_enumerate_next (wpAny_call_entry F.slot_enumerate_next hT F.entry_enumerate_next ?_ (F.args_enumerate_next_1 _))));show wpAny _ _ (field (.ref e) 2 >>= _) _ _ _;refine aa (aY he rfl (x:=.ref it) rfl ?_);refine aa (W.stop _ _ i _ _ hh h1 hx λh' x he' hx'=>?_);obtain⟨o,ho,hc⟩:=hx';refine aa (wpAny_isInstance (T:="StopIteration") (b:=true) ⟨o,ho,hc⟩ isSubtype_stop ?_);exact au (hQ _ he')
end
noncomputable def Um(i:Addr):Obj:={cls:=.type "enumerate",data:=.fields #[.none,.bool false,.ref i,rawInt 0,.none,.none]}
theorem JS(l:Addr)(xs:Array Value)(n:Nat)(dc:Option Addr)(sl:Array (Option Value)) :
  Meets (Builtin.«enumerate.__new__» ⟨[.type "enumerate",.ref l],[]⟩) (λ_ R s=>s.heap.get? l=some {cls:=.type "tuple",dict:=dc,data:=.seq xs n,slots:=sl} /\
   R (.ok (.ret (.ref (s.heap.push (GA "tuple_iterator" l)).objs.size))) {s with heap:=(s.heap.push (GA "tuple_iterator" l)).push (Um s.heap.objs.size)}) :=
 .of_wp λprog w A R s h=>by
  obtain⟨hp,g,d,tk,os⟩:=s;obtain⟨hl,h⟩:=h;have hsub:=sub_enumerate;have hL:Heap.IsTuple (Shared.heap ⟨hp,g,d,tk,os⟩) l xs:=⟨_,hl,rfl,n,rfl⟩
  wp_walk using wpAny_loadPart' hl
  refine wpAny_stack_any λst=>au ?_
  split
  next c _ _ _ _ _=>cases(c==Value.type "enumerate")<;>(wp_walk using wpAny_loadPart' hl,wpAny_pyIter_tuple hL;exact⟨_,rfl,h⟩)
  .wp_walk using wpAny_loadPart' hl,wpAny_pyIter_tuple hL;exact⟨_,rfl,h⟩
section
variable{prog:Program}{w:World}{A:Around}{E:Value->Shared->Prop}{s:Shared}
theorem Ou(b:Bool){l:Addr}{xs:Array Value}{Q:Value->Shared->Prop}(c:D2 b s.heap l xs)
  (h:∀h',IsEnum h' (s.heap.objs.size+1) s.heap.objs.size 0 .none->GC b h' s.heap.objs.size l 0->(∀c o,s.heap.get? c=some o->h'.get? c=some o)->Q (.ref (s.heap.objs.size+1)) {s with heap:=h' }) :
  wpAny (model prog w) A (call (.type "enumerate") [.ref l]) Q E s:=by
 cases b
 .exact call_enumerate_list c λh' a1 a2 _ a4=>h h' a1 a2 a4
 .obtain⟨⟨cc,dc,dt,sl⟩,hl,hc,n,hd⟩:=c;replace hc:cc=.type "tuple":=hc;replace hd:dt=.seq xs n:=hd;subst hc hd;refine callType_new F.called_enumerate (by decide) (F.typeCall_enumerate_1 _) (F.newCall_enumerate_1 _) (λobj=>F.args_object_init_2 obj _) F.entry_enumerate_new (JS l xs n dc sl) ⟨hl,?_⟩;have hz:(s.heap.push (GA "tuple_iterator" l)).objs.size=s.heap.objs.size+1:=bF ..;have he:IsEnum ((s.heap.push (GA "tuple_iterator" l)).push (Um s.heap.objs.size)) (s.heap.objs.size+1) s.heap.objs.size 0 .none:=by have:=aD (s.heap.push (GA "tuple_iterator" l)) (o:=Um s.heap.objs.size) rfl;rw[hz]at this;exact this
  show _/\_;rw[hz];exact⟨⟨_,he,rfl⟩,h _ he (GC.new (b:=true) (af _ (aD _ rfl))) λb o x=>af _ (af _ x)⟩
end
end Zp
end PySem
namespace L2
open PySem PySem.Spec PyProof.Rows
def Ite(K:Fg)(b:Bool)(a:Addr):It :=
  ⟨λi H=>∃xs x,SqB b K H a xs/\xs[i]?=some x,
   λi H x H'=>∃T vx,H T=none/\x=.ref T/\H'=upd H T (.tup [.int i,vx])/\∀xs,SqB b K H a xs->xs[i]?=some vx,
   λi H=>∃xs,SqB b K H a xs/\xs.length<=i⟩
theorem MC{P:Program}{w:World}{K:Fg}{elts:List Expr}{k0:Nat}{tpos:Pos}{b:Bool}{a e it:Addr}(ei:e≠it)(ae:a≠e)(ai:a≠it) :
  Turn P w K (.Tuple elts k0 tpos) (Ite K b a) [e,it] e (λi h=>(∃old,IsEnum h e it i old)/\Zp.GC b h it a i) where
 mem:=by simp
 obj:=λi h st c hc=>by
  obtain⟨⟨old,he⟩,h1⟩:=st;simp only[aH,aZ,or_false]at hc;rcases hc with rfl|rfl
  .exact⟨_,he,λv z=>nomatch z⟩
  .exact h1.obj
 keep:=λi h h' st k=>by obtain⟨⟨old,he⟩,h1⟩:=st;exact⟨⟨old,k e (by simp) _ he⟩,h1.at λo z=>k it (by simp) o z⟩
 item:=by
  intro X hP hw hK hc i pins s U H E I hf st hg;subst hP hw hK;obtain⟨⟨old,he⟩,h1⟩:=st;obtain⟨xs,x,q1,ex⟩:=hg;obtain⟨its,r1,c1,z1⟩:=I.sqb q1;obtain⟨u1,hu1,ru1⟩:=r1.get ex;refine Zp.Oa (Zp.Bf b ai) ei ae he ⟨h1,c1⟩ (x:=u1) (by simpa using hu1) λh' eo s' hT hk=>⟨_,rfl,?_⟩
  refine wpAny_letOwnedTupleGo_enum eo λh2 e2 sb=>?_
  have Tn:∀{c o},s.heap.get? c=some o->c≠s.heap.objs.size:=λq=>aS (az q)
  have Il:Inv X pins U (upd H s.heap.objs.size (.tup [.int i,x])) {s with heap:=s.heap.push {cls:=.type "tuple",data:=.seq #[.int i s.toks,u1]},toks:=s.toks+1} :=
   I.laid (λb o e=>af _ e) (aJ _) ⟨by show 2<=sizeLine;rw[sizeLine_eq];decide,[.int i s.toks,u1],.cons ⟨_,rfl⟩ (.cons ru1 .nil),⟨_,aD _ rfl,rfl,_,rfl⟩⟩
  have hlt:∀c∈[e,it],c≠s.heap.objs.size:=λc hc=>by
   simp only[aH,aZ,or_false]at hc;rcases hc with rfl|rfl
   .exact Tn he
   .obtain⟨o,q,_⟩:=h1.obj;exact Tn q
  have hf':∀c∈[e,it],Jt X pins (upd H s.heap.objs.size (.tup [.int i,x])) c:=λc hc=>by obtain⟨f0,f⟩:=hf c hc;exact⟨by rw[Ai (hlt c hc)];exact f0,f⟩
  have I2:Inv X pins U (upd H s.heap.objs.size (.tup [.int i,x])) {s with heap:=h2,toks:=s.toks+1}:=Il.Hl (t':=s.toks+1) (λc o hc z=>by
   have ne:c≠e:=λq=>hc (by simp[q])
   refine sb.extBut _ _ ne ?_;by_cases cT:c=s.heap.objs.size
   .subst cT;have z':(s.heap.push {cls:=.type "tuple",data:=.seq #[.int i s.toks,u1]}).get? s.heap.objs.size=some o:=z;rw[aD _ rfl]at z';cases z';exact hT
   .have z':(s.heap.push {cls:=.type "tuple",data:=.seq #[.int i s.toks,u1]}).get? c=some o:=z;rw[Heap.get?_push_ne _ _ _ cT]at z';exact hk c o ne (λq=>hc (by simp[q])) z') hf'
  refine⟨.ref s.heap.objs.size,_,I2,rfl,⟨s.heap.objs.size,x,I.z9.fresh (aJ _),rfl,rfl,λzs hz=>by rw[I.JC hz q1];exact ex⟩,?_,λc hc=>(hf' c hc).1⟩;exact⟨⟨_,by simpa using e2⟩,s'.1.at λo z=>sb.extBut _ _ ei.symm z⟩
 done:=by intro X hP hw hK hc i pins s U H E I hf st hg;subst hP hw hK;obtain⟨⟨old,he⟩,h1⟩:=st;obtain⟨xs,q1,hend⟩:=hg;obtain⟨its,r1,c1,z1⟩:=I.sqb q1;have e1:=r1.length;exact Zp.Qq (I.ok.hd hc) (Zp.Bf b ai) he ⟨h1,c1⟩ (by simp;lia) λh' hk=>⟨rfl,I.Hl (t':=s.toks) (λc o hc z=>hk c o (λq=>hc (by simp[q])) z) hf⟩
 self:=λ_ _ _ _ _ st h=>by obtain⟨⟨old,he⟩,_⟩:=st;exact wpAny_pyIter_enum he h
def Z0(K:Fg)(ta:TA):TI:=λU H R=>ta U H λvs H1=>∃b a,vs=[.ref a]/\(∃xs,SqB b K H1 a xs)/\R (Ite K b a) H1
theorem SD{X:Cx}{a:Expr}{ta:TA}{p pos tpos:Pos}{elts:List Expr}{k0:Nat}(hg:Gl X "enumerate")(hm:X.mg "enumerate"=none)(ha:PA X [a] ta)(hs:starEach [a] X.env=[(false,eval a X.env)]:=by rfl) :
  PI X (.Tuple elts k0 tpos) (.Call (.Name "enumerate" p) [a] [] pos) (Z0 X.K ta):=by
 intro pins s U H R I h;refine Call_ (ER I hg hm boot_enumerate (callWith_type1 (thn (ha pos pins s U H _ I h) λus s1 hpt=>?_) (by rw[hs];rfl) (by rfl)));obtain⟨vs,H1,I1,r1,q1⟩:= hpt;obtain⟨b,a1,e,⟨xs,hx⟩,q⟩:=q1;subst e;cases r1 with
 |cons r rr =>
  cases rr;cases r;obtain⟨its,rv,c,_⟩:=I1.sqb hx;have lt:@LT.lt Nat _ a1 s1.heap.objs.size:=by
   cases b
   .obtain⟨o,e,_⟩:=c;exact az e
   .obtain⟨o,e,_⟩:=c;exact az e
  refine Zp.Ou b c λh' he hi hk=>?_
  refine wpAny_pyIter_enum he ⟨s1.heap.objs.size+1,[s1.heap.objs.size+1,s1.heap.objs.size],_,Ite X.K b a1,H1,rfl,I1.kept (t':=s1.toks) hk,MC (by intro z;have z2:@Eq Nat _ _:=z;lia) (by intro z;have z2:@Eq Nat _ _:=z;lia) (by intro z;have z2:@Eq Nat _ _:=z;lia),⟨⟨_,he⟩,hi⟩,λc hc=>?_,q⟩;have hge:@LE.le Nat _ s1.heap.objs.size c:=by
   simp only[aH,aZ,or_false]at hc;rcases hc with rfl|rfl
   .exact Nat.le_succ _
   .exact aJ _
  exact I1.Rm hge (I1.z9.fresh hge)
end L2
namespace FL
open PySem PySem.Spec L2
inductive T where
 |v|o (b:Bool)|int (i:Int)|str (x:Str)
 |tup (ts:List T)|lst (ts:List T)
 |z0 (ts:List T)
 |l (ks:List Key) (ts:List T)|dT (ks:List (List Key)) (ts:List T)
 |ins (C:Addr) (fs:List Str) (ts:List T)
 |dF (ks:List Key) (ts:List T)
 |zK (c:Str)
inductive FO where
 |lst (ts:List T)|l (ks:List Key) (ts:List T)|dT (ks:List (List Key)) (ts:List T)
 |ins (C:Addr) (fs:List Str) (os:List FO)|val (t:T)
 |zm (os:List FO)|zj (os:List FO)
 |dO (ks:List Key) (os:List FO)|la (p:Addr) (ts:List T)
inductive Sl where
 |val (t:T)|own (o:FO)|bor (o:FO)
abbrev FS:=List (Option Sl)
inductive Rv where
 |t (t:T)|nw (o:FO)|n (i:Nat)
inductive Out(α:Type) where
 |ok (a:α) (fs:FS)|exc (c:Str) (fs:FS)|bad
inductive SO where
 |nx (fs:FS)|ret (r:Rv) (fs:FS)|brk (fs:FS)|cnt (fs:FS)|exc (c:Str) (fs:FS)|bad
structure Wd where
 f:Addr->Prop
 p:Addr->Prop
instance:CoeFun Wd λ_=>Addr->Prop:=⟨Wd.f⟩
structure Le(F:Wd)(H:Hp)(F':Wd)(H':Hp):Prop where
 f:∀a,F a->F' a/\H' a=H a
 p:∀a,F.p a->F'.p a/\H' a=H a
theorem Le.refl{F:Wd}{H:Hp}:Le F H F H:=⟨λ_ h=>⟨h,rfl⟩,λ_ h=>⟨h,rfl⟩⟩
theorem Le.trans{F F1 F2:Wd}{H H1 H2:Hp}(x:Le F H F1 H1)(y:Le F1 H1 F2 H2):Le F H F2 H2 :=
 ⟨λa h=>let⟨p,q⟩:=x.f a h;let⟨p2,q2⟩:=y.f a p;⟨p2,q2.trans q⟩,λa h=>let⟨p,q⟩:=x.p a h;let⟨p2,q2⟩:=y.p a p;⟨p2,q2.trans q⟩⟩
section
variable(K:Fg)
def KL(a:Addr)(vs:List V):Prop:=∃(o:Obj)(its:Array Value)(n:Nat),K.lookup a=some o/\o.cls=.type "list"/\o.dict=none/\o.data=.seq its n/\its.size<=sizeLine/\Vals vs its.toList
def StL(F:Wd)(H:Hp)(a:Addr)(vs:List V):Prop:=(F a/\Rd H a (.lst vs))\/KL K a vs
def StT(F:Wd)(H:Hp)(a:Addr)(vs:List V):Prop:=K=K/\F a/\H a=some (.tup vs)
end
section
variable{K:Fg}{F F':Wd}{H H':Hp}{a:Addr}{vs:List V}
theorem StL.sq(h:StL K F H a vs):SqL K H a vs:=by
 rcases h with⟨_,h⟩|h
 .exact .inl h
 .exact .inr h
theorem StT.sq(h:StT K F H a vs):SqT K H a vs:=SqT.of h.2.2
theorem Rd.same{u:HO}(h:Rd H a u)(e:H' a=H a):Rd H' a u:=by unfold Rd at *;rw[e];exact h
theorem StL.le(h:StL K F H a vs)(l:Le F H F' H'):StL K F' H' a vs:=by
 rcases h with⟨f,h⟩|h
 .exact .inl ⟨(l.f a f).1,FL.Rd.same h (l.f a f).2⟩
 .exact .inr h
theorem StT.le(h:StT K F H a vs)(l:Le F H F' H'):StT K F' H' a vs:=⟨rfl,(l.f a h.2.1).1,(l.f a h.2.1).2.trans h.2.2⟩
end
noncomputable def C0(K:Fg)(c:Str):Option Addr:=match nsIn K mainGlobals c with|some (some (.ref C))=>some C|_=>none
section
variable(K:Fg)(F:Wd)(H:Hp)
mutual
def Ar:T->V->Prop
 |.v,v=>v=.v
 |.o b,v=>v=.o b
 |.int i,v=>v=.int i
 |.str x,v=>v=.str x
 |.tup ts,v=>∃a vs,v=.ref a/\StT K F H a vs/\Ac ts vs
 |.lst ts,v=>∃a vs,v=.ref a/\F a/\H a=some (.lst vs)/\Ac ts vs
 |.z0 ts,v=>∃a vs,v=.ref a/\StL K F H a vs/\Ac ts vs
 |.l ks ts,v=>∃a kvs,v=.ref a/\F a/\Rd H a (.l kvs)/\kvs.map (·.1)=ks/\Ac ts (kvs.map (·.2))
 |.dT ks ts,v=>∃a kvs,v=.ref a/\F a/\H a=some (.dT kvs)/\kvs.map (·.1)=ks/\Ac ts (kvs.map (·.2))
 |.ins C fs ts,v=>∃a dx kvs,v=.ref a/\F a/\H a=some (.ins C dx kvs)/\kvs.map (·.1)=fs/\Ac ts (kvs.map (·.2))
 |.dF ks ts,v=>∃a kvs,v=.ref a/\F a/\(∃o,H a=some (.frz o (.l kvs)))/\kvs.map (·.1)=ks/\Ac ts (kvs.map (·.2))
 |.zK c,v=>∃a C,v=.ref a/\F a/\H a=some (exO (.ref C) a)/\C0 K c=some C
def Ac:List T->List V->Prop
 | [],vs=>vs=[]
 |t::ts,vs=>∃v r,vs=v::r/\Ar t v/\Ac ts r
end
mutual
def Ap:FO->V->List Addr->Prop
 |.val t,v,L=>L=[]/\Ar K F H t v
 |.lst ts,v,L=>∃a vs,v=.ref a/\H a=some (.lst vs)/\Ac K F H ts vs/\L=[a]
 |.l ks ts,v,L=>∃a kvs,v=.ref a/\H a=some (.l kvs)/\kvs.map (·.1)=ks/\Ac K F H ts (kvs.map (·.2))/\L=[a]
 |.dT ks ts,v,L=>∃a kvs,v=.ref a/\H a=some (.dT kvs)/\kvs.map (·.1)=ks/\Ac K F H ts (kvs.map (·.2))/\L=[a]
 |.ins C fs os,v,L=>∃a dx kvs L',v=.ref a/\H a=some (.ins C dx kvs)/\kvs.map (·.1)=fs/\Aq os (kvs.map (·.2)) L'/\L=a::L'
 |.zm os,v,L=>∃a vs L',v=.ref a/\H a=some (.lst vs)/\Aq os vs L'/\L=a::L'
 |.zj os,v,L=>∃a vs L',v=.ref a/\H a=some (.tup vs)/\Aq os vs L'/\L=a::L'
 |.dO ks os,v,L=>∃a kvs L',v=.ref a/\H a=some (.l kvs)/\kvs.map (·.1)=ks/\Aq os (kvs.map (·.2)) L'/\L=a::L'
 |.la p ts,v,L=>∃vs,v=.ref p/\H p=some (.lst vs)/\Ac K F H ts vs/\L=[p]
def Aq:List FO->List V->List Addr->Prop
 | [],vs,L=>vs=[]/\L=[]
 |o::os,vs,L=>∃v r L1 L2,vs=v::r/\Ap o v L1/\Aq os r L2/\L=L1++L2
end
mutual
noncomputable def toT:FO->T
 |.val t=>t
 |.lst ts=>.lst ts
 |.l ks ts=>.l ks ts
 |.dT ks ts=>.dT ks ts
 |.ins C fs os=>.ins C fs (Mm os)
 |.zm os=>.lst (Mm os)
 |.zj os=>.tup (Mm os)
 |.dO ks os=>.l ks (Mm os)
 |.la _ ts=>.lst ts
noncomputable def Mm:List FO->List T
 | []=>[]
 |o::os=>toT o::Mm os
end
def Ao:FS->St->List Addr->Prop
 | [],U,L=>U=[]/\L=[]
 |none::r,U,L=>∃v σ',U=v::σ'/\Ao r σ' L
 |some (.val t)::r,U,L=>∃v σ',U=some v::σ'/\Ar K F H t v/\Ao r σ' L
 |some (.own o)::r,U,L=>∃v σ' L1 L2,U=some v::σ'/\Ap K F H o v L1/\Ao r σ' L2/\L=L1++L2
 |some (.bor o)::r,U,L=>∃v σ' L1 L2,U=some v::σ'/\Ap K F H o v L1/\Ao r σ' L2/\L=L1++L2
end
section
variable{K:Fg}{F F':Wd}{H H':Hp}
mutual
theorem Ar.le(l:Le F H F' H'):∀{t:T}{v:V},Ar K F H t v->Ar K F' H' t v
 |.v,_,h=>h
 |.o _,_,h=>h
 |.int _,_,h=>h
 |.str _,_,h=>h
 |.tup ts,_,h=>by simp only[Ar]at h ⊢;obtain⟨a,vs,e,s,r⟩:=h;exact⟨a,vs,e,s.le l,Ac.le l r⟩
 |.lst ts,_,h=>by simp only[Ar]at h ⊢;obtain⟨a,vs,e,f,s,r⟩:=h;exact⟨a,vs,e,(l.f a f).1,(l.f a f).2.trans s,Ac.le l r⟩
 |.z0 ts,_,h=>by simp only[Ar]at h ⊢;obtain⟨a,vs,e,s,r⟩:=h;exact⟨a,vs,e,s.le l,Ac.le l r⟩
 |.l ks ts,_,h=>by simp only[Ar]at h ⊢;obtain⟨a,kvs,e,f,s,k,r⟩:=h;exact⟨a,kvs,e,(l.f a f).1,FL.Rd.same s (l.f a f).2,k,Ac.le l r⟩
 |.dT ks ts,_,h=>by simp only[Ar]at h ⊢;obtain⟨a,kvs,e,f,s,k,r⟩:=h;exact⟨a,kvs,e,(l.f a f).1,(l.f a f).2.trans s,k,Ac.le l r⟩
 |.ins C fs ts,_,h=>by simp only[Ar]at h ⊢;obtain⟨a,dx,kvs,e,f,s,k,r⟩:=h;exact⟨a,dx,kvs,e,(l.f a f).1,(l.f a f).2.trans s,k,Ac.le l r⟩
 |.dF ks ts,_,h=>by simp only[Ar]at h ⊢;obtain⟨a,kvs,e,f,⟨o,s⟩,k,r⟩:=h;exact⟨a,kvs,e,(l.f a f).1,⟨o,(l.f a f).2.trans s⟩,k,Ac.le l r⟩
 |.zK c,_,h=>by simp only[Ar]at h ⊢;obtain⟨a,C,e,f,s,k⟩:=h;exact⟨a,C,e,(l.f a f).1,(l.f a f).2.trans s,k⟩
theorem Ac.le(l:Le F H F' H'):∀{ts:List T}{vs:List V},Ac K F H ts vs->Ac K F' H' ts vs
 | [],_,h=>h
 |t::ts,_,h=>by simp only[Ac]at h ⊢;obtain⟨v,r,e,h1,h2⟩:=h;exact⟨v,r,e,Ar.le l h1,Ac.le l h2⟩
end
theorem Ac.len:∀{ts:List T}{vs:List V},Ac K F H ts vs->vs.length=ts.length
 | [],_,h=>by simp only[Ac]at h;subst h;rfl
 |t::ts,_,h=>by simp only[Ac]at h;obtain⟨v,r,rfl,_,h2⟩:=h;simp[Ac.len h2]
theorem Ac.at:∀{ts:List T}{vs:List V}{i:Nat}{t:T},Ac K F H ts vs->ts[i]?=some t->∃v,vs[i]?=some v/\Ar K F H t v
 | [],_,_,_,_,e=>by simp at e
 |t::ts,_,0,_,h,e=>by simp only[Ac]at h;obtain⟨v,r,rfl,h1,_⟩:=h;simp at e;subst e;exact⟨v,rfl,h1⟩
 |t::ts,_,i+1,_,h,e=>by simp only[Ac]at h;obtain⟨v,r,rfl,_,h2⟩:=h;obtain⟨u,e1,e2⟩:=Ac.at (i:=i) h2 (by simpa using e);exact⟨u,by simpa using e1,e2⟩
theorem Ac.app:∀{ts us:List T}{vs ws:List V},Ac K F H ts vs->Ac K F H us ws->Ac K F H (ts++us) (vs++ws)
 | [],_,_,_,h,h'=>by simp only[Ac]at h;subst h;exact h'
 |t::ts,us,_,ws,h,h'=>by simp only[Ac]at h;obtain⟨v,r,rfl,h1,h2⟩:=h;show Ac K F H (t::(ts++us)) (v::(r++ws));simp only[Ac];exact⟨v,r++ws,rfl,h1,Ac.app h2 h'⟩
theorem Ac.one{t:T}{v:V}(h:Ar K F H t v):Ac K F H [t] [v]:=by simp only[Ac];exact⟨v,[],rfl,h,rfl⟩
theorem Ac.take:∀{ts:List T}{vs:List V}(n:Nat),Ac K F H ts vs->Ac K F H (ts.take n) (vs.take n)
 | [],_,n,h=>by simp only[Ac]at h;subst h;simp[Ac]
 |t::ts,_,0,h=>by simp[Ac]
 |t::ts,_,n+1,h=>by simp only[Ac]at h;obtain⟨v,r,rfl,h1,h2⟩:=h;simp only[List.take_succ_cons,Ac];exact⟨v,_,rfl,h1,Ac.take n h2⟩
theorem Ac.drop:∀{ts:List T}{vs:List V}(n:Nat),Ac K F H ts vs->Ac K F H (ts.drop n) (vs.drop n)
 | [],_,n,h=>by simp only[Ac]at h;subst h;simp[Ac]
 |t::ts,_,0,h=>by simpa using h
 |t::ts,_,n+1,h=>by simp only[Ac]at h;obtain⟨v,r,rfl,h1,h2⟩:=h;simp only[List.drop_succ_cons];exact Ac.drop n h2
theorem Ac.set{t:T}{v:V}(q:Ar K F H t v):∀{ts:List T}{vs:List V}(n:Nat),Ac K F H ts vs->Ac K F H (ts.set n t) (vs.set n v)
 | [],_,n,h=>by simp only[Ac]at h;subst h;simp[Ac]
 |u::ts,_,0,h=>by simp only[Ac]at h;obtain⟨w,r,rfl,h1,h2⟩:=h;simp only[List.set_cons_zero,Ac];exact⟨v,r,rfl,q,h2⟩
 |u::ts,_,n+1,h=>by simp only[Ac]at h;obtain⟨w,r,rfl,h1,h2⟩:=h;simp only[List.set_cons_succ,Ac];exact⟨w,_,rfl,h1,Ac.set q n h2⟩
theorem Ac.rev:∀{ts:List T}{vs:List V},Ac K F H ts vs->Ac K F H ts.reverse vs.reverse
 | [],_,h=>by simp only[Ac]at h;subst h;simp[Ac]
 |t::ts,_,h=>by simp only[Ac]at h;obtain⟨v,r,rfl,h1,h2⟩:=h;rw[cM,cM];exact Ac.app (Ac.rev h2) (Ac.one h1)
mutual
theorem Ap.le(l:Le F H F' H'):∀{o:FO}{v:V}{L:List Addr},(∀a∈L,H' a=H a)->Ap K F H o v L->Ap K F' H' o v L
 |.val t,_,L,k,h=>by simp only[Ap]at h ⊢;exact⟨h.1,h.2.le l⟩
 |.lst ts,_,L,k,h=>by simp only[Ap]at h ⊢;obtain⟨a,vs,e,s,r,rfl⟩:=h;exact⟨a,vs,e,(k a (by simp)).trans s,r.le l,rfl⟩
 |.l ks ts,_,L,k,h=>by simp only[Ap]at h ⊢;obtain⟨a,vs,e,s,q,r,rfl⟩:=h;exact⟨a,vs,e,(k a (by simp)).trans s,q,r.le l,rfl⟩
 |.dT ks ts,_,L,k,h=>by simp only[Ap]at h ⊢;obtain⟨a,vs,e,s,q,r,rfl⟩:=h;exact⟨a,vs,e,(k a (by simp)).trans s,q,r.le l,rfl⟩
 |.ins C fs os,_,L,k,h=>by simp only[Ap]at h ⊢;obtain⟨a,dx,kvs,L',e,s,q,r,rfl⟩:=h;exact⟨a,dx,kvs,L',e,(k a (by simp)).trans s,q,Aq.le l (λb hb=>k b (ao _ hb)) r,rfl⟩
 |.zm os,_,L,k,h=>by simp only[Ap]at h ⊢;obtain⟨a,vs,L',e,s,r,rfl⟩:=h;exact⟨a,vs,L',e,(k a (by simp)).trans s,Aq.le l (λb hb=>k b (ao _ hb)) r,rfl⟩
 |.zj os,_,L,k,h=>by simp only[Ap]at h ⊢;obtain⟨a,vs,L',e,s,r,rfl⟩:=h;exact⟨a,vs,L',e,(k a (by simp)).trans s,Aq.le l (λb hb=>k b (ao _ hb)) r,rfl⟩
 |.dO ks os,_,L,k,h=>by simp only[Ap]at h ⊢;obtain⟨a,kvs,L',e,s,q,r,rfl⟩:=h;exact⟨a,kvs,L',e,(k a (by simp)).trans s,q,Aq.le l (λb hb=>k b (ao _ hb)) r,rfl⟩
 |.la p ts,_,L,k,h=>by simp only[Ap]at h ⊢;obtain⟨vs,e,s,r,rfl⟩:=h;exact⟨vs,e,(k p (by simp)).trans s,r.le l,rfl⟩
theorem Aq.le(l:Le F H F' H'):∀{os:List FO}{vs:List V}{L:List Addr},(∀a∈L,H' a=H a)->Aq K F H os vs L->Aq K F' H' os vs L
 | [],_,L,k,h=>h
 |o::os,_,L,k,h=>by simp only[Aq]at h ⊢;obtain⟨v,r,L1,L2,e,h1,h2,rfl⟩:=h;exact⟨v,r,L1,L2,e,Ap.le l (λa ha=>k a (aB _ ha)) h1,Aq.le l (λa ha=>k a (aC _ ha)) h2,rfl⟩
end
mutual
theorem Ap.def:∀{o:FO}{v:V}{L:List Addr},Ap K F H o v L->∀a∈L,H a≠none
 |.val t,_,L,h,a,m=>by simp only[Ap]at h;rw[h.1]at m;cases m
 |.lst ts,_,L,h,a,m=>by simp only[Ap]at h;obtain⟨b,vs,e,s,r,rfl⟩:=h;rw[aG.mp m,s];simp
 |.l ks ts,_,L,h,a,m=>by simp only[Ap]at h;obtain⟨b,vs,e,s,q,r,rfl⟩:=h;rw[aG.mp m,s];simp
 |.dT ks ts,_,L,h,a,m=>by simp only[Ap]at h;obtain⟨b,vs,e,s,q,r,rfl⟩:=h;rw[aG.mp m,s];simp
 |.ins C fs os,_,L,h,a,m=>by
  simp only[Ap]at h;obtain⟨b,dx,kvs,L',e,s,q,r,rfl⟩:=h;rcases aH.mp m with m|m
  .rw[m,s];simp
  .exact Aq.def r a m
 |.zm os,_,L,h,a,m=>by
  simp only[Ap]at h;obtain⟨b,vs,L',e,s,r,rfl⟩:=h;rcases aH.mp m with m|m
  .rw[m,s];simp
  .exact Aq.def r a m
 |.zj os,_,L,h,a,m=>by
  simp only[Ap]at h;obtain⟨b,vs,L',e,s,r,rfl⟩:=h;rcases aH.mp m with m|m
  .rw[m,s];simp
  .exact Aq.def r a m
 |.dO ks os,_,L,h,a,m=>by
  simp only[Ap]at h;obtain⟨b,vs,L',e,s,q,r,rfl⟩:=h;rcases aH.mp m with m|m
  .rw[m,s];simp
  .exact Aq.def r a m
 |.la p ts,_,L,h,a,m=>by simp only[Ap]at h;obtain⟨vs,e,s,r,rfl⟩:=h;rw[aG.mp m,s];simp
theorem Aq.def:∀{os:List FO}{vs:List V}{L:List Addr},Aq K F H os vs L->∀a∈L,H a≠none
 | [],_,L,h,a,m=>by simp only[Aq]at h;rw[h.2]at m;cases m
 |o::os,_,L,h,a,m=>by
  simp only[Aq]at h;obtain⟨v,r,L1,L2,e,h1,h2,rfl⟩:=h;rcases av.mp m with m|m
  .exact Ap.def h1 a m
  .exact Aq.def h2 a m
end
mutual
theorem Ap.frz(l:Le F H F' H):∀{o:FO}{v:V}{L:List Addr},(∀a∈L,F' a)->Ap K F H o v L->Ar K F' H (toT o) v
 |.val t,_,L,k,h=>by simp only[Ap]at h;exact Ar.le l h.2
 |.lst ts,_,L,k,h=>by simp only[Ap]at h;obtain⟨a,vs,e,s,r,rfl⟩:=h;simp only[toT,Ar];exact⟨a,vs,e,k a (by simp),s,Ac.le l r⟩
 |.l ks ts,_,L,k,h=>by simp only[Ap]at h;obtain⟨a,vs,e,s,q,r,rfl⟩:=h;simp only[toT,Ar];exact⟨a,vs,e,k a (by simp),.inl s,q,Ac.le l r⟩
 |.dT ks ts,_,L,k,h=>by simp only[Ap]at h;obtain⟨a,vs,e,s,q,r,rfl⟩:=h;simp only[toT,Ar];exact⟨a,vs,e,k a (by simp),s,q,Ac.le l r⟩
 |.ins C fs os,_,L,k,h=>by simp only[Ap]at h;obtain⟨a,dx,kvs,L',e,s,q,r,rfl⟩:=h;simp only[toT,Ar];exact⟨a,dx,kvs,e,k a (by simp),s,q,Aq.frz l (λb hb=>k b (ao _ hb)) r⟩
 |.zm os,_,L,k,h=>by simp only[Ap]at h;obtain⟨a,vs,L',e,s,r,rfl⟩:=h;simp only[toT,Ar];exact⟨a,vs,e,k a (by simp),s,Aq.frz l (λb hb=>k b (ao _ hb)) r⟩
 |.zj os,_,L,k,h=>by simp only[Ap]at h;obtain⟨a,vs,L',e,s,r,rfl⟩:=h;simp only[toT,Ar];exact⟨a,vs,e,⟨rfl,k a (by simp),s⟩,Aq.frz l (λb hb=>k b (ao _ hb)) r⟩
 |.dO ks os,_,L,k,h=>by simp only[Ap]at h;obtain⟨a,kvs,L',e,s,q,r,rfl⟩:=h;simp only[toT,Ar];exact⟨a,kvs,e,k a (by simp),.inl s,q,Aq.frz l (λb hb=>k b (ao _ hb)) r⟩
 |.la p ts,_,L,k,h=>by simp only[Ap]at h;obtain⟨vs,e,s,r,rfl⟩:=h;simp only[toT,Ar];exact⟨p,vs,e,k p (by simp),s,Ac.le l r⟩
theorem Aq.frz(l:Le F H F' H):∀{os:List FO}{vs:List V}{L:List Addr},(∀a∈L,F' a)->Aq K F H os vs L->Ac K F' H (Mm os) vs
 | [],_,L,k,h=>by simp only[Aq]at h;simp only[Mm,Ac];exact h.1
 |o::os,_,L,k,h=>by simp only[Aq]at h;obtain⟨v,r,L1,L2,e,h1,h2,rfl⟩:=h;simp only[Mm,Ac];exact⟨v,r,e,Ap.frz l (λa ha=>k a (aB _ ha)) h1,Aq.frz l (λa ha=>k a (aC _ ha)) h2⟩
end
theorem Ao.len:∀{fs:FS}{U:St}{L:List Addr},Ao K F H fs U L->U.length=fs.length
 | [],_,_,h=>by simp only[Ao]at h;rw[h.1];rfl
 |none::r,_,_,h=>by simp only[Ao]at h;obtain⟨v,σ',rfl,h⟩:=h;simp[Ao.len h]
 |some (.val t)::r,_,_,h=>by simp only[Ao]at h;obtain⟨v,σ',rfl,_,h⟩:=h;simp[Ao.len h]
 |some (.own t)::r,_,_,h=>by simp only[Ao]at h;obtain⟨v,σ',L1,L2,rfl,_,h,_⟩:=h;simp[Ao.len h]
 |some (.bor t)::r,_,_,h=>by simp only[Ao]at h;obtain⟨v,σ',L1,L2,rfl,_,h,_⟩:=h;simp[Ao.len h]
theorem Ao.le(l:Le F H F' H'):∀{fs:FS}{U:St}{L:List Addr},(∀a∈L,H' a=H a)->Ao K F H fs U L->Ao K F' H' fs U L
 | [],_,_,k,h=>h
 |none::r,_,_,k,h=>by simp only[Ao]at h ⊢;obtain⟨v,σ',e,h⟩:=h;exact⟨v,σ',e,Ao.le l k h⟩
 |some (.val t)::r,_,_,k,h=>by simp only[Ao]at h ⊢;obtain⟨v,σ',e,q,h⟩:=h;exact⟨v,σ',e,q.le l,Ao.le l k h⟩
 |some (.own t)::r,_,_,k,h=>by simp only[Ao]at h ⊢;obtain⟨v,σ',L1,L2,e,q,h,rfl⟩:=h;exact⟨v,σ',L1,L2,e,q.le l λa ha=>k a (aB _ ha),Ao.le l (λa ha=>k a (aC _ ha)) h,rfl⟩
 |some (.bor t)::r,_,_,k,h=>by simp only[Ao]at h ⊢;obtain⟨v,σ',L1,L2,e,q,h,rfl⟩:=h;exact⟨v,σ',L1,L2,e,q.le l λa ha=>k a (aB _ ha),Ao.le l (λa ha=>k a (aC _ ha)) h,rfl⟩
theorem Ao.def:∀{fs:FS}{U:St}{L:List Addr},Ao K F H fs U L->∀a∈L,H a≠none
 | [],_,_,h,a,m=>by simp only[Ao]at h;rw[h.2]at m;cases m
 |none::r,_,_,h,a,m=>by simp only[Ao]at h;obtain⟨v,σ',e,h⟩:=h;exact Ao.def h a m
 |some (.val t)::r,_,_,h,a,m=>by simp only[Ao]at h;obtain⟨v,σ',e,q,h⟩:=h;exact Ao.def h a m
 |some (.own t)::r,_,_,h,a,m=>by
  simp only[Ao]at h;obtain⟨v,σ',L1,L2,e,q,h,rfl⟩:=h;rcases av.mp m with m|m
  .exact q.def a m
  .exact Ao.def h a m
 |some (.bor t)::r,_,_,h,a,m=>by
  simp only[Ao]at h;obtain⟨v,σ',L1,L2,e,q,h,rfl⟩:=h;rcases av.mp m with m|m
  .exact q.def a m
  .exact Ao.def h a m
def Kn(K:Fg)(F:Wd)(H:Hp):Option Sl->Option V->List Addr->Prop
 |none,_,L=>L=[]
 |some (.val t),v,L=>∃u,v=some u/\Ar K F H t u/\L=[]
 |some (.own o),v,L=>∃u,v=some u/\Ap K F H o u L
 |some (.bor o),v,L=>∃u,v=some u/\Ap K F H o u L
theorem Ao.cons{s:Option Sl}{r:FS}{v:Option V}{U:St}{L1 L2:List Addr}(h1:Kn K F H s v L1)(h2:Ao K F H r U L2):Ao K F H (s::r) (v::U) (L1++L2):=by cases s with|none =>simp only[Kn]at h1;subst h1;simp only[Ao];exact⟨v,U,rfl,h2⟩|some s =>cases s with|val t =>simp only[Kn]at h1;obtain⟨u,rfl,q,rfl⟩:=h1;simp only[Ao];exact⟨u,U,rfl,q,h2⟩|own o =>simp only[Kn]at h1;obtain⟨u,rfl,q⟩:=h1;simp only[Ao];exact⟨u,U,L1,L2,rfl,q,h2,rfl⟩|bor o =>simp only[Kn]at h1;obtain⟨u,rfl,q⟩:=h1;simp only[Ao];exact⟨u,U,L1,L2,rfl,q,h2,rfl⟩
theorem Ao.GG{s:Option Sl}{r:FS}{U:St}{L:List Addr}(h:Ao K F H (s::r) U L):∃v σ' L1 L2,U=v::σ'/\Kn K F H s v L1/\Ao K F H r σ' L2/\L=L1++L2:=by cases s with|none =>simp only[Ao]at h;obtain⟨v,σ',rfl,h⟩:=h;exact⟨v,σ',[],L,rfl,rfl,h,rfl⟩|some s =>cases s with|val t =>simp only[Ao]at h;obtain⟨v,σ',rfl,q,h⟩:=h;exact⟨some v,σ',[],L,rfl,⟨v,rfl,q,rfl⟩,h,rfl⟩|own o =>simp only[Ao]at h;obtain⟨v,σ',L1,L2,rfl,q,h,rfl⟩:=h;exact⟨some v,σ',L1,L2,rfl,⟨v,rfl,q⟩,h,rfl⟩|bor o =>simp only[Ao]at h;obtain⟨v,σ',L1,L2,rfl,q,h,rfl⟩:=h;exact⟨some v,σ',L1,L2,rfl,⟨v,rfl,q⟩,h,rfl⟩
theorem Ao.pick:∀{fs:FS}{U:St}{L:List Addr}{i:Nat}{s:Option Sl},Ao K F H fs U L->fs[i]?=some s->∃v L1 L2 L3,U[i]?=some v/\L=L1++(L2++L3)/\Kn K F H s v L2 /\
  ∀(F':Wd)(H':Hp)(s':Option Sl)(v':Option V)(L2':List Addr),Le F H F' H'->(∀a∈L1++L3,H' a=H a)->Kn K F' H' s' v' L2'->Ao K F' H' (fs.set i s') (U.set i v') (L1++(L2'++L3))
 | [],_,_,_,_,_,e=>by simp at e
 |s::r,_,_,0,_,h,e=>by obtain⟨v,σ',L1,L2,rfl,h1,h2,rfl⟩:=h.GG;simp at e;subst e;refine⟨v,[],L1,L2,rfl,rfl,h1,λF' H' s' v' L2' l k q=>?_⟩;have h3:=Ao.cons q (h2.le l λa ha=>k a (by simpa using ha));exact h3
 |s::r,_,_,i+1,_,h,e=>by
  obtain⟨v,σ',L1,L2,rfl,h1,h2,rfl⟩:=h.GG;obtain⟨w,M1,M2,M3,e1,rfl,h3,h4⟩:=Ao.pick (i:=i) h2 (by simpa using e);refine⟨w,L1++M1,M2,M3,by simpa using e1,by simp,h3,λF' H' s' v' L2' l k q=>?_⟩;have h5:=h4 F' H' s' v' L2' l (λa ha=>k a (by simp at ha ⊢;rcases ha with ha|ha;exact .inr (.inl ha);exact .inr (.inr ha))) q;have h6:Kn K F' H' s v L1:=by cases s with|none=>exact h1|some s =>cases s with|val t =>obtain⟨u,e,q,z⟩:=h1;exact⟨u,e,q.le l,z⟩|own o =>obtain⟨u,e,q⟩:=h1;exact⟨u,e,q.le l λa ha=>k a (by simp[ha])⟩|bor o =>obtain⟨u,e,q⟩:=h1;exact⟨u,e,q.le l λa ha=>k a (by simp[ha])⟩
  have h7:=Ao.cons h6 h5;simpa using h7
mutual
theorem Ar.wp{p:Addr->Prop}:∀{t:T}{v:V},Ar K F H t v->Ar K ⟨F.f,p⟩ H t v
 |.v,_,h=>h
 |.o _,_,h=>h
 |.int _,_,h=>h
 |.str _,_,h=>h
 |.tup ts,_,h=>by simp only[Ar]at h ⊢;obtain⟨a,vs,e,s,r⟩:=h;exact⟨a,vs,e,s,Ac.wp r⟩
 |.lst ts,_,h=>by simp only[Ar]at h ⊢;obtain⟨a,vs,e,f,s,r⟩:=h;exact⟨a,vs,e,f,s,Ac.wp r⟩
 |.z0 ts,_,h=>by simp only[Ar]at h ⊢;obtain⟨a,vs,e,s,r⟩:=h;exact⟨a,vs,e,s,Ac.wp r⟩
 |.l ks ts,_,h=>by simp only[Ar]at h ⊢;obtain⟨a,kvs,e,f,s,k,r⟩:=h;exact⟨a,kvs,e,f,s,k,Ac.wp r⟩
 |.dT ks ts,_,h=>by simp only[Ar]at h ⊢;obtain⟨a,kvs,e,f,s,k,r⟩:=h;exact⟨a,kvs,e,f,s,k,Ac.wp r⟩
 |.ins C fs ts,_,h=>by simp only[Ar]at h ⊢;obtain⟨a,dx,kvs,e,f,s,k,r⟩:=h;exact⟨a,dx,kvs,e,f,s,k,Ac.wp r⟩
 |.dF ks ts,_,h=>by simp only[Ar]at h ⊢;obtain⟨a,kvs,e,f,s,k,r⟩:=h;exact⟨a,kvs,e,f,s,k,Ac.wp r⟩
 |.zK c,_,h=>by simp only[Ar]at h ⊢;obtain⟨a,C,e,f,s,k⟩:=h;exact⟨a,C,e,f,s,k⟩
theorem Ac.wp{p:Addr->Prop}:∀{ts:List T}{vs:List V},Ac K F H ts vs->Ac K ⟨F.f,p⟩ H ts vs
 | [],_,h=>h
 |t::ts,_,h=>by simp only[Ac]at h ⊢;obtain⟨v,r,e,h1,h2⟩:=h;exact⟨v,r,e,Ar.wp h1,Ac.wp h2⟩
end
mutual
theorem Ap.wp{p:Addr->Prop}:∀{o:FO}{v:V}{L:List Addr},Ap K F H o v L->Ap K ⟨F.f,p⟩ H o v L
 |.val t,_,L,h=>by simp only[Ap]at h ⊢;exact⟨h.1,h.2.wp⟩
 |.lst ts,_,L,h=>by simp only[Ap]at h ⊢;obtain⟨a,vs,e,s,r,q⟩:=h;exact⟨a,vs,e,s,r.wp,q⟩
 |.l ks ts,_,L,h=>by simp only[Ap]at h ⊢;obtain⟨a,vs,e,s,q,r,z⟩:=h;exact⟨a,vs,e,s,q,r.wp,z⟩
 |.dT ks ts,_,L,h=>by simp only[Ap]at h ⊢;obtain⟨a,vs,e,s,q,r,z⟩:=h;exact⟨a,vs,e,s,q,r.wp,z⟩
 |.ins C fs os,_,L,h=>by simp only[Ap]at h ⊢;obtain⟨a,dx,kvs,L',e,s,q,r,z⟩:=h;exact⟨a,dx,kvs,L',e,s,q,Aq.wp r,z⟩
 |.zm os,_,L,h=>by simp only[Ap]at h ⊢;obtain⟨a,vs,L',e,s,r,z⟩:=h;exact⟨a,vs,L',e,s,Aq.wp r,z⟩
 |.zj os,_,L,h=>by simp only[Ap]at h ⊢;obtain⟨a,vs,L',e,s,r,z⟩:=h;exact⟨a,vs,L',e,s,Aq.wp r,z⟩
 |.dO ks os,_,L,h=>by simp only[Ap]at h ⊢;obtain⟨a,vs,L',e,s,q,r,z⟩:=h;exact⟨a,vs,L',e,s,q,Aq.wp r,z⟩
 |.la p ts,_,L,h=>by simp only[Ap]at h ⊢;obtain⟨vs,e,s,r,z⟩:=h;exact⟨vs,e,s,r.wp,z⟩
theorem Aq.wp{p:Addr->Prop}:∀{os:List FO}{vs:List V}{L:List Addr},Aq K F H os vs L->Aq K ⟨F.f,p⟩ H os vs L
 | [],_,L,h=>h
 |o::os,_,L,h=>by simp only[Aq]at h ⊢;obtain⟨v,r,L1,L2,e,h1,h2,z⟩:=h;exact⟨v,r,L1,L2,e,Ap.wp h1,Aq.wp h2,z⟩
end
theorem Ao.wp{p:Addr->Prop}:∀{fs:FS}{U:St}{L:List Addr},Ao K F H fs U L->Ao K ⟨F.f,p⟩ H fs U L
 | [],_,_,h=>h
 |none::r,_,_,h=>by simp only[Ao]at h ⊢;obtain⟨v,σ',e,h⟩:=h;exact⟨v,σ',e,Ao.wp h⟩
 |some (.val t)::r,_,_,h=>by simp only[Ao]at h ⊢;obtain⟨v,σ',e,q,h⟩:=h;exact⟨v,σ',e,q.wp,Ao.wp h⟩
 |some (.own t)::r,_,_,h=>by simp only[Ao]at h ⊢;obtain⟨v,σ',L1,L2,e,q,h,z⟩:=h;exact⟨v,σ',L1,L2,e,q.wp,Ao.wp h,z⟩
 |some (.bor t)::r,_,_,h=>by simp only[Ao]at h ⊢;obtain⟨v,σ',L1,L2,e,q,h,z⟩:=h;exact⟨v,σ',L1,L2,e,q.wp,Ao.wp h,z⟩
theorem Kn.le(l:Le F H F' H'){s:Option Sl}{v:Option V}{L:List Addr}(k:∀a∈L,H' a=H a)(h:Kn K F H s v L):Kn K F' H' s v L:=by cases s with|none=>exact h|some s =>cases s with|val t =>obtain⟨u,e,q,z⟩:=h;exact⟨u,e,q.le l,z⟩|own o =>obtain⟨u,e,q⟩:=h;exact⟨u,e,q.le l k⟩|bor o =>obtain⟨u,e,q⟩:=h;exact⟨u,e,q.le l k⟩
end
def EM(B:Nat->Option V)(fs:FS)(U:St):Prop:=∀(i:Nat)(o:FO),fs[i]?=some (some (.bor o))->∃v,U[i]?=some (some v)/\B i=some v
structure Ok(K:Fg)(F:Wd)(B:Nat->Option V)(H:Hp)(fs:FS)(U:St)(L:List Addr):Prop where
 sl:Ao K F H fs U L
 nd:L.Nodup
 nf:∀a∈L,¬F a
 fd:∀a,F a->H a≠none
 bo:EM B fs U
 pd:∀a,F.p a->H a≠none
 pf:∀a,F a->¬F.p a
 pl:∀a∈L,¬F.p a
def Okk(K:Fg)(F:Wd)(B:Nat->Option V)(H:Hp)(fs:FS)(U:St):Prop:=∃L,Ok K F B H fs U L
structure Xp where
 p:Wd->(Nat->Option V)->Hp->Str->FS->Prop
 mono:∀{F:Wd}{B:Nat->Option V}{H:Hp}{c:Str}{fs:FS}{F':Wd}{H':Hp},p F B H c fs->Le F H F' H'->p F' B H' c fs
noncomputable def Xp.no:Xp:=⟨λ_ _ _ _ _=>False,λh _=>h⟩
def sat(Z:Xp)(B:Nat->Option V){α β:Type}(R:Wd->Hp->FS->α->β->Prop)(F:Wd)(H:Hp)(o:Out α)(Q:β->Hp->Prop):Prop :=
 match o with|.ok a fs=>∀F' H' b,Le F H F' H'->R F' H' fs a b->Q b H'|.exc c fs=>Z.p F B H c fs|.bad=>False
theorem sat.le{Z:Xp}{B:Nat->Option V}{α β:Type}{R:Wd->Hp->FS->α->β->Prop}{F F':Wd}{H H':Hp}{o:Out α}{Q:β->Hp->Prop}(h:sat Z B R F H o Q)(l:Le F H F' H'):sat Z B R F' H' o Q:=by
 cases o with
 |ok a fs=>exact λF2 H2 b l2 r=>h F2 H2 b (l.trans l2) r
 |exc c fs=>exact Z.mono h l
 |bad=>exact h
noncomputable def Out.bind{α β:Type}(o:Out α)(k:α->FS->Out β):Out β:=match o with|.ok a fs=>k a fs|.exc c fs=>.exc c fs|.bad=>.bad
theorem Ay{Z:Xp}{B:Nat->Option V}{α β γ δ:Type}{R1:Wd->Hp->FS->α->β->Prop}{R2:Wd->Hp->FS->γ->δ->Prop}{F:Wd}{H:Hp}{o:Out α}{k:α->FS->Out γ}{Q:δ->Hp->Prop}{Q':β->Hp->Prop}
  (h:sat Z B R2 F H (o.bind k) Q) (hk:∀a fs F' H' b,Le F H F' H'->R1 F' H' fs a b->sat Z B R2 F' H' (k a fs) Q->Q' b H'):sat Z B R1 F H o Q':=by
 cases o with
 |ok a fs=>exact λF2 H2 b l r=>hk a fs F2 H2 b l r (sat.le h l)
 |exc c fs=>exact h
 |bad=>exact h
def OC(K:Fg)(F:Wd)(H:Hp)(U:St):Rv->V->List Addr->Prop
 |.t t,v,L=>L=[]/\Ar K F H t v
 |.nw o,v,L=>Ap K F H o v L
 |.n i,v,L=>L=[]/\U[i]?=some (some v)
def RR(K:Fg)(B:Nat->Option V)(U:St):Wd->Hp->FS->Rv->V->Prop:=λF H fs r u=>∃L L',Ok K F B H fs U L/\OC K F H U r u L'/\(L++L').Nodup/\∀a∈L',¬F a/\¬F.p a
def BQ(K:Fg)(F:Wd)(H:Hp)(U:St):Rv->V->Prop
 |.t t,v=>Ar K F H t v
 |.nw _,_=>False
 |.n i,v=>U[i]?=some (some v)
noncomputable def Out.bnd{α:Type}(o:Out Rv)(k:Rv->FS->Out α):Out α:=o.bind λr fs=>match r with|.nw _=>.bad|.t t=>k (.t t) fs|.n i=>k (.n i) fs
section
variable{K:Fg}{Z:Xp}{B:Nat->Option V}{F F':Wd}{H H':Hp}{U:St}{fs:FS}{r:Rv}{u:V}
theorem BQ.le(h:BQ K F H U r u)(l:Le F H F' H'):BQ K F' H' U r u:=by cases r with|t t=>exact Ar.le l h|nw o=>exact h|n i=>exact h
theorem RR.of(h:Okk K F B H fs U)(q:BQ K F H U r u):RR K B U F H fs r u:=by obtain⟨L,h⟩:=h;refine⟨L,[],h,?_,by simpa using h.nd,(λ_ m=>nomatch m)⟩;cases r with|t t=>exact⟨rfl,q⟩|nw o=>exact q.elim|n i=>exact⟨rfl,q⟩
theorem RR.ok(h:RR K B U F H fs r u):Okk K F B H fs U:=let⟨L,_,h,_⟩:=h;⟨L,h⟩
theorem Az{γ δ:Type}{R2:Wd->Hp->FS->γ->δ->Prop}{o:Out Rv}{k:Rv->FS->Out γ}{Q:δ->Hp->Prop}{Q':V->Hp->Prop}
  (h:sat Z B R2 F H (o.bnd k) Q) (hk:∀r fs F' H' u,Le F H F' H'->Okk K F' B H' fs U->BQ K F' H' U r u->sat Z B R2 F' H' (k r fs) Q->Q' u H'):sat Z B (RR K B U) F H o Q':=by
 refine Ay h λr fs F' H' u l q s=>?_
 cases r with|t t =>obtain⟨L,L',q1,q2,_⟩:=q;exact hk (.t t) fs F' H' u l ⟨L,q1⟩ q2.2 s|nw o=>exact s.elim|n i =>obtain⟨L,L',q1,q2,_⟩:=q;exact hk (.n i) fs F' H' u l ⟨L,q1⟩ q2.2 s
end
def tF(K:Fg)(Z:Xp)(f:FS->Out Rv):TE:=λU H Q=>∃F B fs,Okk K F B H fs U/\sat Z B (RR K B U) F H (f fs) Q
def RB(K:Fg)(B:Nat->Option V)(U:St):Wd->Hp->FS->Bool->Bool->Prop:=λF H fs b b'=>Okk K F B H fs U/\b'=b
def tT(K:Fg)(Z:Xp)(f:FS->Out Bool):TT:=λU H Q=>∃F B fs,Okk K F B H fs U/\sat Z B (RB K B U) F H (f fs) Q
def HY(K:Fg)(F:Wd)(H:Hp)(U:St):List Rv->List V->Prop
 | [],vs=>vs=[]
 |r::rs,vs=>∃v w,vs=v::w/\BQ K F H U r v/\HY K F H U rs w
def RA(K:Fg)(B:Nat->Option V)(U:St):Wd->Hp->FS->List Rv->List V->Prop:=λF H fs rs vs=>Okk K F B H fs U/\HY K F H U rs vs
def tA(K:Fg)(Z:Xp)(f:FS->Out (List Rv)):TA:=λU H Q=>∃F B fs,Okk K F B H fs U/\sat Z B (RA K B U) F H (f fs) Q
def FE(X:Cx)(Z:Xp)(e:Expr)(f:FS->Out Rv):Prop:=PE X e (tF X.K Z f)
def FT(X:Cx)(Z:Xp)(e:Expr)(f:FS->Out Bool):Prop:=PT X e (tT X.K Z f)
def FA(X:Cx)(Z:Xp)(es:List Expr)(f:FS->Out (List Rv)):Prop:=PA X es (tA X.K Z f)
theorem AI{X:Cx}{e:Expr}{t t':TE}(h:PE X e t)(i:∀U H Q,t' U H Q->t U H Q):PE X e t':=λpins s U H Q I q=>h pins s U H Q I (i _ _ _ q)
theorem KA{X:Cx}{e:Expr}{t t':TT}(h:PT X e t)(i:∀U H Q,t' U H Q->t U H Q):PT X e t':=λpins s U H Q I q=>h pins s U H Q I (i _ _ _ q)
theorem KJ{X:Cx}{e:List Expr}{t t':TA}(h:PA X e t)(i:∀U H Q,t' U H Q->t U H Q):PA X e t':=λpos pins s U H Q I q=>h pos pins s U H Q I (i _ _ _ q)
theorem Cb{X:Cx}{e:Stmt}{t t':TS}(h:PS X e t)(i:∀D U H,t' D U H->t D U H):PS X e t':=λpins s U H D I q=>h pins s U H D I (i _ _ _ q)
theorem MT{X:Cx}{e:List Stmt}{t t':TS}(h:PSs X e t)(i:∀D U H,t' D U H->t D U H):PSs X e t':=λpins s U H D I q=>h pins s U H D I (i _ _ _ q)
section
variable{K:Fg}{B:Nat->Option V}{F:Wd}{H:Hp}{U:St}{fs:FS}{p:Addr}{o:HO}
noncomputable def OB(F:Wd)(p:Addr):Wd:=⟨λa=>F a\/a=p,F.p⟩
theorem AS(h:Okk K F B H fs U)(hp:H p=none):Le F H (OB F p) (upd H p o) :=
 let⟨_,h⟩:=h
 ⟨λa f=>⟨.inl f,Ai λe=>h.fd a f (e▸hp)⟩,λa f=>⟨f,Ai λe=>h.pd a f (e▸hp)⟩⟩
theorem AJ(h:Okk K F B H fs U)(hp:H p=none):Le F H F (upd H p o) :=
 let⟨_,h⟩:=h
 ⟨λa f=>⟨f,Ai λe=>h.fd a f (e▸hp)⟩,λa f=>⟨f,Ai λe=>h.pd a f (e▸hp)⟩⟩
theorem Dp{a:Addr}(h:H a≠none):upd H p o a≠none:=by
 by_cases e:a=p
 .subst e;rw[Ak];simp
 .rw[Ai e];exact h
theorem Ok.Tp{L:List Addr}(h:Ok K F B H fs U L)(hp:H p=none):∀a∈L,(upd H p o) a=H a:=λa m=>Ai λe=>h.sl.def a m (e▸hp)
theorem Okk.fd(h:Okk K F B H fs U):∀a,F a->H a≠none:=let⟨_,h⟩:=h;h.fd
theorem Okk.alloc(h:Okk K F B H fs U)(hp:H p=none):Okk K (OB F p) B (upd H p o) fs U:=by
 obtain⟨L,h⟩:=h;refine⟨L,h.sl.le (AS ⟨L,h⟩ hp) (h.Tp hp),h.nd,λa m q=>?_,λa q=>?_,h.bo,λa q=>Dp (h.pd a q),λa q z=>?_,h.pl⟩
 rotate_left 2
 .rcases q with q|q
  .exact h.pf a q z
  .exact h.pd a z (q▸hp)
 .rcases q with q|q
  .exact h.nf a m q
  .exact h.sl.def a m (q▸hp)
 .rcases q with q|q
  .exact Dp (h.fd a q)
  .rw[q,Ak];simp
theorem RR.alloc{ob:FO}(h:Okk K F B H fs U)(hp:H p=none)(q:Ap K F (upd H p o) ob (.ref p) [p]):RR K B U F (upd H p o) fs (.nw ob) (.ref p):=by
 obtain⟨L,h⟩:=h;refine⟨L,[p],⟨h.sl.le (AJ ⟨L,h⟩ hp) (h.Tp hp),h.nd,h.nf,λa q=>Dp (h.fd a q),h.bo,λa q=>Dp (h.pd a q),h.pf,h.pl⟩,q,?_,λa m=>?_⟩
 .rw[ah];exact⟨h.nd,by simp,λa ma b mb e=>h.sl.def a ma (by rw[e,aG.mp mb];exact hp)⟩
 .rw[aG.mp m];exact⟨λf=>h.fd p f hp,λf=>h.pd p f hp⟩
end
noncomputable def Sl.put:Sl->FO->Sl
 |.own _,o=>.own o
 |.bor _,o=>.bor o
 |.val t,_=>.val t
noncomputable def AE(fs:FS)(i:Nat):Option FO:=match fs[i]? with|some (some (.own o))=>some o|some (some (.bor o))=>some o|_=>none
noncomputable def putAt(fs:FS)(i:Nat)(o:FO):FS:=match fs[i]? with|some (some s)=>fs.set i (some (s.put o))|_=>fs
section
variable{K:Fg}{B:Nat->Option V}{F F':Wd}{H H':Hp}{U:St}{fs:FS}{i:Nat}{ob:FO}
theorem EM.put{s:Option Sl}{v:Option V}(h:EM B fs U)(hs:∀o,s=some (.bor o)->∃u,v=some u/\B i=some u)(hl:U.length=fs.length):EM B (fs.set i s) (U.set i v):=by
 intro j o e;by_cases hj:i=j
 .subst hj;have hi:i<fs.length:=by have:=(ak.mp e).1;simpa using this
  rw[bp hi]at e;obtain⟨u,e1,e2⟩:=hs o (by simpa using e);exact⟨u,by rw[bp (by lia),e1],e2⟩
 .rw[bw hj]at e;obtain⟨v,e1,e2⟩:=h j o e;exact⟨v,by rw[bw hj];exact e1,e2⟩
theorem A6{α:Type}{l:List α}{i:Nat}{x:α}(h:l[i]?=some x):l.set i x=l:=by
 apply List.ext_getElem?;intro j;by_cases hj:i=j
 .subst hj;rw[bp (ak.mp h).1,h]
 .rw[bw hj]
theorem BO{L1 L2 L3 M:List Addr}(h:(L1++(L2++L3)).Nodup)(hm:M.Nodup)(d:∀a∈M,a∉L1++L3):(L1++(M++L3)).Nodup:=by
 rw[ah]at h ⊢;obtain⟨h1,h2,h3⟩:=h;rw[ah]at h2;obtain⟨h4,h5,h6⟩:=h2;refine⟨h1,?_,λa ha b hb e=>?_⟩
 .rw[ah];exact⟨hm,h5,λa ha b hb e=>d a ha (by rw[e];exact aC _ hb)⟩
 .rcases av.mp hb with hb|hb
  .exact d b hb (by rw[<- e];exact aB _ ha)
  .exact h3 a ha b (aC _ hb) e
theorem Okk.own(h:Okk K F B H fs U)(e:AE fs i=some ob):∃v L2,U[i]?=some (some v)/\Ap K F H ob v L2/\(∀a∈L2,¬F a/\¬F.p a)/\L2.Nodup /\
  ∀ob' H',(∀a,a∉L2->H a≠none->H' a=H a)->Ap K F H' ob' v L2->Okk K F B H' (putAt fs i ob') U/\Le F H F H':=by
 obtain⟨L,h⟩:=h;have key:∀s:Sl,fs[i]?=some (some s)->(s=.own ob\/s=.bor ob)->∃v L2,U[i]?=some (some v)/\Ap K F H ob v L2/\(∀a∈L2,¬F a/\¬F.p a)/\L2.Nodup /\
  ∀ob' H',(∀a,a∉L2->H a≠none->H' a=H a)->Ap K F H' ob' v L2->Okk K F B H' (fs.set i (some (s.put ob'))) U/\Le F H F H':=by
  intro s es ho;obtain⟨v,L1,L2,L3,e1,rfl,h1,h2⟩:=h.sl.pick es;obtain⟨u,rfl,q⟩:∃u,v=some u/\Ap K F H ob u L2:=by
   rcases ho with rfl|rfl
   .exact h1
   .exact h1
  have nd:=h.nd;have dis:∀a∈L1++L3,a∉L2:=λa ha hb=>by
   rw[ah]at nd;rcases av.mp ha with ha|ha
   .exact nd.2.2 a ha a (aB _ hb) rfl
   .have:=(ah.mp nd.2.1).2.2;exact this a hb a ha rfl
  refine⟨u,L2,e1,q,λa m=>⟨h.nf a (by simp[m]),h.pl a (by simp[m])⟩,?_,λob' H' k q'=>?_⟩
  .rw[ah]at nd;exact(ah.mp nd.2.1).1
  .have l:Le F H F H':=⟨λa f=>⟨f,k a (λm=>h.nf a (by simp[m]) f) (h.fd a f)⟩,λa f=>⟨f,k a (λm=>h.pl a (by simp[m]) f) (h.pd a f)⟩⟩
   refine⟨⟨L1++(L2++L3),?_,nd,h.nf,λa f=>by rw[(l.f a f).2];exact h.fd a f,?_,λa f=>by rw[(l.p a f).2];exact h.pd a f,h.pf,h.pl⟩,l⟩
   .have hL:∀a∈L1++L3,H' a=H a:=λa m=>k a (dis a m) (h.sl.def a (by
      rcases av.mp m with m|m
      .simp[m]
      .simp[m]))
    have h3:=h2 F H' (some (s.put ob')) (some u) L2 l hL (by
     rcases ho with rfl|rfl
     .exact⟨u,rfl,q'⟩
     .exact⟨u,rfl,q'⟩)
    rwa[A6 e1]at h3
   .have:=EM.put (i:=i) (s:=some (s.put ob')) (v:=some u) h.bo (λo eo=>by
     rcases ho with rfl|rfl
     .cases eo
     .obtain⟨w,e3,e4⟩:=h.bo i ob es;rw[e1]at e3;have e5:u=w:=by simpa using e3
      exact⟨u,rfl,by rw[e5];exact e4⟩) h.sl.len
    rwa[A6 e1]at this
 unfold AE at e;split at e
 next o es=>cases e;obtain⟨v,L2,a1,a2,a3,a4,a5⟩:=key _ es (.inl rfl);refine⟨v,L2,a1,a2,a3,a4,λob' H' k q=>?_⟩;have:=a5 ob' H' k q;unfold putAt;rw[es];exact this
 next o es=>cases e;obtain⟨v,L2,a1,a2,a3,a4,a5⟩:=key _ es (.inr rfl);refine⟨v,L2,a1,a2,a3,a4,λob' H' k q=>?_⟩;have:=a5 ob' H' k q;unfold putAt;rw[es];exact this
 .cases e
end
noncomputable def Aa(i:Nat):FS->Out Rv:=λfs=>match fs[i]? with|some (some (.val t))=>.ok (.t t) fs|some (some (.own _))=>.ok (.n i) fs|some (some (.bor _))=>.ok (.n i) fs|_=>.bad
noncomputable def gc(t:T):FS->Out Rv:=λfs=>.ok (.t t) fs
section
variable{X:Cx}{Z:Xp}{e:Expr}
theorem Qh(i:Nat){x:Str}{pos:Pos}(hN:X.N[i]?=some x:=by rfl)(hv:Vis X.env.scope x:=by first|exact Or.inl rfl|exact Or.inr (Or.inl rfl)|exact Or.inr (Or.inr rfl))(hd:(x==("__debug__":Str))=false:=by decide)
  (hcd:(x==("__classdict__":Str))=false:=by decide):FE X Z (.Name x pos) (Aa i):=by
 refine AI (pv i hN hv hd hcd) λU H Q h=>?_
 obtain⟨F,B,fs,ok,s⟩:=h;obtain⟨L,o⟩:=id ok;unfold Aa at s;split at s
 next t es=>obtain⟨v,L1,L2,L3,e1,_,h1,_⟩:=o.sl.pick es;obtain⟨u,rfl,q,_⟩:=h1;exact⟨u,e1,s F H u Le.refl (RR.of ok q)⟩
 next t es=>obtain⟨v,L1,L2,L3,e1,_,h1,_⟩:=o.sl.pick es;obtain⟨u,rfl,q⟩:=h1;exact⟨u,e1,s F H u Le.refl (RR.of ok e1)⟩
 next t es=>obtain⟨v,L1,L2,L3,e1,_,h1,_⟩:=o.sl.pick es;obtain⟨u,rfl,q⟩:=h1;exact⟨u,e1,s F H u Le.refl (RR.of ok e1)⟩
 .exact s.elim
theorem UL{v:V}(t:T)(h:PE X e (tC v))(r:∀K F H,Ar K F H t v):FE X Z e (gc t) :=
 AI h λU H Q ⟨F,B,fs,ok,s⟩=>s F H v Le.refl (RR.of ok (r _ _ _))
theorem Ru{i j pos}:FE X Z (.Constant (.int i) j pos) (gc (.int i)):=UL _ VY λ_ _ _=>rfl
theorem Jar{b j pos}:FE X Z (.Constant (.bool b) j pos) (gc (.o b)):=UL _ ZN λ_ _ _=>rfl
theorem Rq{j pos}:FE X Z (.Constant .none j pos) (gc .v):=UL _ VU λ_ _ _=>rfl
theorem Xg{x j pos}:FE X Z (.Constant (.str x) j pos) (gc (.str x)):=UL _ M0 λ_ _ _=>rfl
theorem Xs{x:Str}{pos:Pos}{i:Int}(h:∃t,X.mg x=some (.int i t))(hg:Gl X x:=by rfl)(hd:(x==("__debug__":Str))=false:=by decide):FE X Z (.Name x pos) (gc (.int i)):=UL _ (ZK h hg hd) λ_ _ _=>rfl
theorem Jap{x:Str}{pos:Pos}{z:Str}(h:∃t,X.mg x=some (.str z t))(hg:Gl X x:=by rfl)(hd:(x==("__debug__":Str))=false:=by decide):FE X Z (.Name x pos) (gc (.str z)):=UL _ (ZJ h hg hd) λ_ _ _=>rfl
end
noncomputable def fz(f:FS->Out Rv):FS->Out Rv:=λfs=>(f fs).bind λr fs=>match r with|.t t=>.ok (.t t) fs|.nw o=>.ok (.t (toT o)) fs|.n i=>match fs[i]? with|some (some (.own o))=>.ok (.t (toT o)) (fs.set i (some (.val (toT o))))|_=>.bad
section
variable{X:Cx}{Z:Xp}{e:Expr}{f:FS->Out Rv}
noncomputable def Hh(F:Wd)(L:List Addr):Wd:=⟨λa=>F a\/a∈L,F.p⟩
theorem orF{F:Wd}{L:List Addr}{H:Hp}:Le F H (Hh F L) H:=⟨λ_ f=>⟨.inl f,rfl⟩,λ_ f=>⟨f,rfl⟩⟩
theorem IU(h:FE X Z e f):FE X Z e (fz f):=by
 refine AI h λU H Q hpt => ?_
 obtain⟨F,B,fs,ok,s⟩:= hpt;refine⟨F,B,fs,ok,?_⟩;refine Ay s λr fs F' H' u l q s=>?_
 cases r with
 |t t=>exact s F' H' u Le.refl q
 |nw o =>
  obtain⟨L,L',o1,q,nd,nf⟩:=q;refine s (Hh F' L') H' u orF (RR.of ⟨L,?_⟩ (Ap.frz orF (λa m=>.inr m) q));refine⟨o1.sl.le orF λ_ _=>rfl,o1.nd,λa m z=>?_,λa z=>?_,o1.bo,o1.pd,λa z=>?_,o1.pl⟩
  .rcases z with z|z
   .exact o1.nf a m z
   .exact(ah.mp nd).2.2 a m a z rfl
  .rcases z with z|z
   .exact o1.fd a z
   .exact Ap.def q a z
  .rcases z with z|z
   .exact o1.pf a z
   .exact(nf a z).2
 |n i =>
  dsimp only at s;split at s
  .rename_i o es;obtain⟨L,L',o1,⟨_,q⟩,nd,nf⟩:=q;obtain⟨v,L1,L2,L3,e1,rfl,h1,h2⟩:=o1.sl.pick es;obtain⟨w,rfl,q2⟩:=h1;rw[e1]at q;have eu:w=u:=by simpa using q
   subst eu;have l2:Le F' H' (Hh F' L2) H':=orF;have r2:Ar X.K (Hh F' L2) H' (toT o) w:=Ap.frz orF (λa m=>.inr m) q2;refine s (Hh F' L2) H' w l2 (RR.of ⟨L1++([]++L3),?_⟩ r2);have h3:=h2 (Hh F' L2) H' (some (.val (toT o))) (some w) [] l2 (λ_ _=>rfl) ⟨w,rfl,r2,rfl⟩;rw[A6 e1]at h3;have nd1:=o1.nd;refine⟨h3,BO nd1 aW (λ_ m=>nomatch m),λa m z=>?_,λa z=>?_,?_,o1.pd,λa z=>?_,λa m=>o1.pl a ?_⟩
   .have m':a∈L1\/a∈L3:=by simpa using m
    rcases z with z|z
    .exact o1.nf a (by rcases m' with m|m<;>simp[m]) z
    .rw[ah]at nd1;rcases m' with m|m
     .exact nd1.2.2 a m a (aB _ z) rfl
     .exact(ah.mp nd1.2.1).2.2 a z a m rfl
   .rcases z with z|z
    .exact o1.fd a z
    .exact Ap.def q2 a z
   .have:=EM.put (i:=i) (s:=some (.val (toT o))) (v:=some w) o1.bo (λo eo=>by cases eo) o1.sl.len;rwa[A6 e1]at this
   .rcases z with z|z
    .exact o1.pf a z
    .exact o1.pl a (by simp[z])
   .have m':a∈L1\/a∈L3:=by simpa using m
    rcases m' with m|m<;>simp[m]
  .exact s.elim
end
noncomputable def big:Nat:=1000000
theorem Es:big<=sizeLine:=by rw[sizeLine_eq];decide
theorem Gd:big<sizeLine:=by rw[sizeLine_eq];decide
noncomputable def Dm(fs:FS):Rv->Option (List T)
 |.t (.lst ts)=>some ts
 |.t (.z0 ts)=>some ts
 |.n i=>match AE fs i with|some (.lst ts)=>some ts|_=>none
 |_=>none
noncomputable def LD:Rv->Option (List T)
 |.t (.tup ts)=>some ts
 |_=>none
section
variable{K:Fg}{B:Nat->Option V}{F F':Wd}{H H':Hp}{U:St}{fs:FS}{x:Rv}{u:V}{ts:List T}
theorem Bg(h:Okk K F B H fs U)(r:BQ K F H U x u)(e:Dm fs x=some ts):∃a vs,u=.ref a/\SqL K H a vs/\Ac K F H ts vs:=by
 unfold Dm at e;split at e
 .cases e;simp only[BQ,Ar]at r;obtain⟨a,vs,e,f,s,q⟩:=r;exact⟨a,vs,e,SqL.of s,q⟩
 .cases e;simp only[BQ,Ar]at r;obtain⟨a,vs,e,s,q⟩:=r;exact⟨a,vs,e,s.sq,q⟩
 .rename_i i;split at e
  .rename_i ts' eo;cases e;obtain⟨v,L2,e1,q,_⟩:=h.own eo;have e2:U[i]?=some (some u):=r;rw[e1]at e2;have e3:v=u:=by simpa using e2
   subst e3;simp only[Ap]at q;obtain⟨a,vs,e,s,q,_⟩:=q;exact⟨a,vs,e,SqL.of s,q⟩
  .cases e
 .cases e
theorem BL(r:BQ K F H U x u)(e:LD x=some ts):∃a vs,u=.ref a/\SqT K H a vs/\Ac K F H ts vs:=by
 unfold LD at e;split at e
 .cases e;simp only[BQ,Ar]at r;obtain⟨a,vs,e,s,q⟩:=r;exact⟨a,vs,e,s.sq,q⟩
 .cases e
theorem OA{vs:List V}{i:Int}{t:T}(r:Ac K F H ts vs)(e:atI ts i=some t):∃v,atI vs i=some v/\Ar K F H t v:=by unfold atI at e ⊢;rw[r.len];cases q:ixN ts.length i with|none=>rw[q]at e;cases e|some j =>rw[q]at e;exact r.at e
theorem Ac.ints:∀{ns:List Int}{vs:List V},Ac K F H (ns.map T.int) vs->vs=ns.map V.int
 | [],_,h=>by simpa[Ac]using h
 |n::ns,_,h=>by simp only[aj,Ac,Ar]at h;obtain⟨v,r,rfl,rfl,h⟩:=h;rw[aj,Ac.ints h]
theorem Ac.bls:∀{ns:List Bool}{vs:List V},Ac K F H (ns.map T.o) vs->vs=ns.map V.o
 | [],_,h=>by simpa[Ac]using h
 |n::ns,_,h=>by simp only[aj,Ac,Ar]at h;obtain⟨v,r,rfl,rfl,h⟩:=h;rw[aj,Ac.bls h]
end
noncomputable def CQ:List T->Option (List Int)
 | []=>some []
 |.int i::r=>(CQ r).map (i::·)
 |_=>none
noncomputable def Dn:List T->Option (List Bool)
 | []=>some []
 |.o i::r=>(Dn r).map (i::·)
 |_=>none
theorem Jp:∀{ts:List T}{ns:List Int},CQ ts=some ns->ts=ns.map T.int
 | [],_,e=>by cases e;rfl
 |.int i::r,_,e=>by simp only[CQ,aA]at e;obtain⟨ns,e,rfl⟩:=e;rw[aj,<- Jp e]
 |.v::r,_,e=>by simp[CQ]at e
 |.o _::r,_,e=>by simp[CQ]at e
 |.str _::r,_,e=>by simp[CQ]at e
 |.tup _::r,_,e=>by simp[CQ]at e
 |.lst _::r,_,e=>by simp[CQ]at e
 |.z0 _::r,_,e=>by simp[CQ]at e
 |.l _ _::r,_,e=>by simp[CQ]at e
 |.dT _ _::r,_,e=>by simp[CQ]at e
 |.ins _ _ _::r,_,e=>by simp[CQ]at e
 |.dF _ _::r,_,e=>by simp[CQ]at e
theorem Fh:∀{ts:List T}{ns:List Bool},Dn ts=some ns->ts=ns.map T.o
 | [],_,e=>by cases e;rfl
 |.o i::r,_,e=>by simp only[Dn,aA]at e;obtain⟨ns,e,rfl⟩:=e;rw[aj,<- Fh e]
 |.v::r,_,e=>by simp[Dn]at e
 |.int _::r,_,e=>by simp[Dn]at e
 |.str _::r,_,e=>by simp[Dn]at e
 |.tup _::r,_,e=>by simp[Dn]at e
 |.lst _::r,_,e=>by simp[Dn]at e
 |.z0 _::r,_,e=>by simp[Dn]at e
 |.l _ _::r,_,e=>by simp[Dn]at e
 |.dT _ _::r,_,e=>by simp[Dn]at e
 |.ins _ _ _::r,_,e=>by simp[Dn]at e
 |.dF _ _::r,_,e=>by simp[Dn]at e
noncomputable def Ag(g:Rv->Rv->FS->Out Rv)(fa fb:FS->Out Rv):FS->Out Rv:=λfs=>(fa fs).bnd λx fs=>(fb fs).bnd λy fs=>g x y fs
def OpF(K:Fg)(Z:Xp)(r:R2)(g:Rv->Rv->FS->Out Rv):Prop:=∀(F:Wd)(B:Nat->Option V)(H:Hp)(U:St)(fs:FS)(x y:Rv)(u w:V)(Q:VK),Okk K F B H fs U->BQ K F H U x u->BQ K F H U y w ->
 sat Z B (RR K B U) F H (g x y fs) Q->r u w H Q
noncomputable def asB(f:FS->Out Rv):FS->Out Bool:=λfs=>(f fs).bind λr fs=>match r with|.t (.o b)=>.ok b fs|_=>.bad
section
variable{X:Cx}{K:Fg}{Z:Xp}{a b c:Expr}{fa fb fc f:FS->Out Rv}{r r':R2}{g g':Rv->Rv->FS->Out Rv}{pos:Pos}{U:St}{H:Hp}
theorem Ff{Q:VK}(hg:OpF K Z r g)(h:tF K Z (Ag g fa fb) U H Q):tOp r (tF K Z fa) (tF K Z fb) U H Q:=by obtain⟨F,B,fs,ok,s⟩:=h;exact⟨F,B,fs,ok,Az s λx fs1 F1 H1 u l ok1 rx s1=>⟨F1,B,fs1,ok1,Az s1 λy fs2 F2 H2 w l2 ok2 ry s2=>hg F2 B H2 U fs2 x y u w Q ok2 (rx.le l2) ry s2⟩⟩
theorem RM{Q:Bool->Hp->Prop}(h:tT K Z (asB f) U H Q):tF K Z f U H λx H'=>∃k,x=.o k/\Q k H':=by
 obtain⟨F,B,fs,ok,s⟩:=h;refine⟨F,B,fs,ok,Ay s λr fs1 F1 H1 u l q s1=>?_⟩;split at s1
 next b=>obtain⟨L,L',o1,⟨_,q⟩,_⟩:=q;exact⟨b,q,s1 F1 H1 b Le.refl ⟨⟨L,o1⟩,rfl⟩⟩
 .exact s1.elim
theorem J9{op:Operator}(hg:OpF X.K Z r g)(ho:OpR X (binaryOp op) r)(ha:FE X Z a fa)(hb:FE X Z b fb):FE X Z (.BinOp a op b pos) (Ag g fa fb) :=
 AI (ZG ho ha hb) λ_ _ _ h=>Ff hg h
theorem K2{op:CmpOp}(hg:OpF X.K Z r g)(ho:OpR X (compareOp op) r)(ha:FE X Z a fa)(hb:FE X Z b fb)(hm:behindInMarks op b=false):FE X Z (.Compare a [op] [b] pos) (Ag g fa fb) :=
 AI (SN ho ha hb hm) λ_ _ _ h=>Ff hg h
theorem Eh{op:CmpOp}(hg:OpF X.K Z r g)(ho:OpR X (compareOp op) r)(ha:FE X Z a fa)(hb:FE X Z b fb)(hm:behindInMarks op b=false):FT X Z (.Compare a [op] [b] pos) (asB (Ag g fa fb)) :=
 KA (Sq ho ha hb hm) λ_ _ _ h=>Ff hg (RM h)
theorem Jam(hg:OpF X.K Z r g)(hr:IxR X r)(ha:FE X Z a fa)(hb:FE X Z b fb)(hs:Ko b):FE X Z (.Subscript a b pos) (Ag g fa fb) :=
 AI (ZI hr ha hb hs) λ_ _ _ h=>Ff hg h
noncomputable def chain(g g':Rv->Rv->FS->Out Rv)(fa fb fc:FS->Out Rv):FS->Out Rv:=λfs=>(fa fs).bnd λx fs=>(fb fs).bnd λy fs=>(g x y fs).bnd λz fs=>match z with
 |.t (.o true)=>(fc fs).bnd λw fs=>g' y w fs
 |.t (.o false)=>.ok (.t (.o false)) fs
 |_=>.bad
theorem Us{Q:VK}(hg:OpF K Z r g)(hg':OpF K Z r' g')(h:tF K Z (chain g g' fa fb fc) U H Q):MF r r' (tF K Z fa) (tF K Z fb) (tF K Z fc) U H Q:=by
 obtain⟨F,B,fs,ok,s⟩:=h;refine⟨F,B,fs,ok,Az s λx fs1 F1 H1 u l ok1 rx s1=>⟨F1,B,fs1,ok1,Az s1 λy fs2 F2 H2 w l2 ok2 ry s2=>hg F2 B H2 U fs2 x y u w _ ok2 (rx.le l2) ry ?_⟩⟩;refine Az s2 λz fs3 F3 H3 v l3 ok3 rz s3=>?_
 split at s3
 .refine⟨true,rz,?_⟩;rw[if_pos rfl];exact⟨F3,B,fs3,ok3,Az s3 λw' fs4 F4 H4 v' l4 ok4 rw' s4=>hg' F4 B H4 U fs4 y w' w v' Q ok4 ((ry.le l3).le l4) rw' s4⟩
 .refine⟨false,rz,?_⟩;rw[if_neg (by decide)];exact s3 F3 H3 (.o false) Le.refl (RR.of ok3 rfl)
 .exact s3.elim
end
theorem Pq{a b:Int}(ha:Builtin.Int.intBits a<=2^26)(hb:Builtin.Int.intBits b<=2^26):IntMulOk a b:=by intro h;rw[aL]at h;have h2:=aO (show decide _=true from h.2);have e:bitsLine=134217728:=rfl;rw[e]at h2;lia
noncomputable def gI(g:Int->Int->FS->Out Rv):Rv->Rv->FS->Out Rv
 |.t (.int i),.t (.int j),fs=>g i j fs
 |_,_,_=>.bad
noncomputable def okT(t:T)(fs:FS):Out Rv:=.ok (.t t) fs
noncomputable def Jab:=gI λi j=>okT (.int (i+j))
noncomputable def J1:=gI λi j=>okT (.int (i-j))
noncomputable def WU:=gI λi j fs=>if(decide (-(2^64)<i/\i<2^64)||decide (-(2^64)<j/\j<2^64)||(decide (Builtin.Int.intBits i<=2^26)&&decide (Builtin.Int.intBits j<=2^26)))=true then okT (.int (i*j)) fs else .bad
noncomputable def Dw:=gI λi j fs=>if 0<j then okT (.int (i%j)) fs else .bad
noncomputable def Fb:=gI λi j fs=>if 0<j/\j<1073741824 then okT (.int (i/j)) fs else .bad
noncomputable def gLt:=gI λi j=>okT (.o (decide (i<j)))
noncomputable def gLe:=gI λi j=>okT (.o (decide (i<=j)))
noncomputable def gGt:=gI λi j=>okT (.o (decide (j<i)))
section
variable{K:Fg}{Z:Xp}
theorem M7{g:Int->Int->FS->Out Rv}{C:Int->Int->Prop}{v:Int->Int->V}{t:Int->Int->T}(hv:∀K F H i j,Ar K F H (t i j) (v i j))(hg:∀i j fs,g i j fs=.bad\/(C i j/\g i j fs=okT (t i j) fs)):OpF K Z (rI C v) (gI g):=by
 intro F B H U fs x y u w Q ok rx ry s;unfold gI at s;split at s
 .rename_i i j;simp only[BQ,Ar]at rx ry;rcases hg i j fs with e|⟨c,e⟩
  .rw[e]at s;exact s.elim
  .rw[e]at s;exact⟨i,j,rx,ry,c,s F H _ Le.refl (RR.of ok (hv _ _ _ _ _))⟩
 .exact s.elim
theorem Iw{v:Int->Int->V}{t:Int->Int->T}(hv:∀K F H i j,Ar K F H (t i j) (v i j)):OpF K Z (rI0 v) (gI λi j=>okT (t i j)):=by
 intro F B H U fs x y u w Q ok rx ry s;unfold gI at s;split at s
 next i j=>simp only[BQ,Ar]at rx ry;exact⟨i,j,rx,ry,s F H _ Le.refl (RR.of ok (hv _ _ _ _ _))⟩
 .exact s.elim
theorem Wn:OpF K Z (rI0 λi j=>.int (i+j)) Jab:=Iw λ_ _ _ _ _=>rfl
theorem Wh:OpF K Z (rI0 λi j=>.int (i-j)) J1:=Iw λ_ _ _ _ _=>rfl
theorem of_lt:OpF K Z (rI0 λi j=>.o (decide (i<j))) gLt:=Iw λ_ _ _ _ _=>rfl
theorem of_le:OpF K Z (rI0 λi j=>.o (decide (i<=j))) gLe:=Iw λ_ _ _ _ _=>rfl
theorem Wl:OpF K Z (rI0 λi j=>.o (decide (j<i))) gGt:=Iw λ_ _ _ _ _=>rfl
theorem Wk:OpF K Z (rI (λ_ j=>0<j) λi j=>.int (i%j)) Dw:=M7 (t:=λi j=>.int (i%j)) (λ_ _ _ _ _=>rfl) λi j fs=>by
 by_cases h:0<j
 .exact .inr ⟨h,if_pos h⟩
 .exact .inl (if_neg h)
theorem Wm:OpF K Z (rI JaT λi j=>.int (i/j)) Fb:=M7 (t:=λi j=>.int (i/j)) (λ_ _ _ _ _=>rfl) λi j fs=>by
 by_cases h:0<j/\j<1073741824
 .exact .inr ⟨h,if_pos h⟩
 .exact .inl (if_neg h)
theorem Wj:OpF K Z (rI IntMulOk λi j=>.int (i*j)) WU:=M7 (t:=λi j=>.int (i*j)) (λ_ _ _ _ _=>rfl) λi j fs=>by
 by_cases h:(decide (-(2^64)<i/\i<2^64)||decide (-(2^64)<j/\j<2^64)||(decide (Builtin.Int.intBits i<=2^26)&&decide (Builtin.Int.intBits j<=2^26)))=true
 .refine .inr ⟨?_,if_pos h⟩;rw[bY,bY,aL]at h;rcases h with(h|h)|⟨h1,h2⟩
  .exact Yj.ok (.inl (aO h))
  .exact Yj.ok (.inr (aO h))
  .exact Pq (aO h1) (aO h2)
 .exact .inl (if_neg h)
end
noncomputable def plV:T->Option V
 |.v=>some .v
 |.o b=>some (.o b)
 |.int i=>some (.int i)
 |.str x=>some (.str x)
 |_=>none
theorem BM{K:Fg}{F:Wd}{H:Hp}{t:T}{u v:V}(e:plV t=some v)(r:Ar K F H t u):u=v:=by cases t with|v=>cases e;exact r|o b=>cases e;exact r|int i=>cases e;exact r|str x=>cases e;exact r|tup ts=>cases e|lst ts=>cases e|z0 ts=>cases e|l ks ts=>cases e|dT ks ts=>cases e|ins C fs ts=>cases e|dF ks ts=>cases e|zK c=>cases e
noncomputable def gEq(neg:Bool):Rv->Rv->FS->Out Rv
 |.t x,.t y,fs=>match plV x,plV y with|some u,some w=>if Sk u w=true then okT (.o (if neg then !decide (u=w)else decide (u=w))) fs else .bad|_,_=>.bad
 |_,_,_=>.bad
noncomputable def SA:List T->Option (List V)
 | []=>some []
 |t::r=>(plV t).bind λv=>(SA r).map (v::·)
theorem Hu{K:Fg}{F:Wd}{H:Hp}:∀{ts:List T}{us vs:List V},SA ts=some vs->Ac K F H ts us->us=vs/\vs.all EH=true
 | [],_,_,e,r=>by cases e;simp only[Ac]at r;exact⟨r,rfl⟩
 |t::ts,_,_,e,r=>by simp only[Ac]at r;obtain⟨v,w,rfl,r1,r2⟩:=r;simp only[SA,ba,aA]at e;obtain⟨v',e1,ws,e2,rfl⟩:=e;obtain⟨rfl,h⟩:=Hu e2 r2;have:=BM e1 r1;subst this;refine⟨rfl,?_⟩;rw[cR,h,Bool.and_true];cases t<;>first|(cases e1;rfl)|cases e1
theorem CF{t:T}{v:V}(e:plV t=some v):EH v=true:=by cases t<;>first|(cases e;rfl)|cases e
noncomputable def gIn(neg:Bool):Rv->Rv->FS->Out Rv
 |.t x,y,fs=>match plV x with
  |some v=>match(match Dm fs y with|some ts=>SA ts|none=>(LD y).bind SA)with|some vs=>okT (.o (if neg then !inV v vs else inV v vs)) fs|none=>.bad
  |none=>.bad
 |_,_,_=>.bad
noncomputable def IQ(neg:Bool):Rv->Rv->FS->Out Rv
 |.t (.str i),.t (.str j),fs=>okT (.o (if neg then !(!(Builtin.Str.occurrences j i 0 j.length 1).isEmpty)else !(Builtin.Str.occurrences j i 0 j.length 1).isEmpty)) fs
 |_,_,_=>.bad
section
variable{K:Fg}{Z:Xp}
theorem of_eq:OpF K Z rEq (gEq false):=by
 intro F B H U fs x y u w Q ok rx ry s;unfold gEq at s;split at s
 .split at s
  .rename_i e1 e2;split at s
   next hs=>have h1:=BM e1 rx;have h2:=BM e2 ry;subst h1 h2;exact⟨hs,s F H _ Le.refl (RR.of ok rfl)⟩
   .exact s.elim
  .exact s.elim
 .exact s.elim
theorem ZS:OpF K Z rNe (gEq true):=by
 intro F B H U fs x y u w Q ok rx ry s;unfold gEq at s;split at s
 .split at s
  .rename_i e1 e2;split at s
   next hs=>have h1:=BM e1 rx;have h2:=BM e2 ry;subst h1 h2;exact⟨hs,s F H _ Le.refl (RR.of ok rfl)⟩
   .exact s.elim
  .exact s.elim
 .exact s.elim
theorem S5(neg:Bool):OpF K Z (rIn K neg) (gIn neg):=by
 intro F B H U fs x y u w Q ok rx ry s;unfold gIn at s;split at s
 .split at s
  .rename_i v e1;split at s
   .rename_i vs e2;have h1:=BM e1 rx;subst h1;split at e2
    next ts e3=>obtain⟨a,us,rfl,hs,q⟩:=Bg ok ry e3;obtain⟨rfl,hf⟩:=Hu e2 q;exact⟨a,us,rfl,.inl hs,CF e1,hf,s F H _ Le.refl (RR.of ok rfl)⟩
    .rw[ba]at e2;obtain⟨ts,e3,e2⟩:=e2;obtain⟨a,us,rfl,hs,q⟩:=BL ry e3;obtain⟨rfl,hf⟩:=Hu e2 q;exact⟨a,us,rfl,.inr hs,CF e1,hf,s F H _ Le.refl (RR.of ok rfl)⟩
   .exact s.elim
  .exact s.elim
 .exact s.elim
theorem KO:OpF K Z (λx y H Q=>∃i j,x=.str i/\y=.str j/\Q (.o (!(Builtin.Str.occurrences j i 0 j.length 1).isEmpty)) H) (IQ false):=by
 intro F B H U fs x y u w Q ok rx ry s;unfold IQ at s;split at s
 next i j=>exact⟨i,j,rx,ry,s F H _ Le.refl (RR.of ok rfl)⟩
 .exact s.elim
theorem JL:OpF K Z (λx y H Q=>∃i j,x=.str i/\y=.str j/\Q (.o (!(!(Builtin.Str.occurrences j i 0 j.length 1).isEmpty))) H) (IQ true):=by
 intro F B H U fs x y u w Q ok rx ry s;unfold IQ at s;split at s
 next i j=>exact⟨i,j,rx,ry,s F H _ Le.refl (RR.of ok rfl)⟩
 .exact s.elim
end
noncomputable def gIx:Rv->Rv->FS->Out Rv
 |x,.t (.int i),fs=>match Dm fs x with
  |some ts=>match atI ts i with|some t=>okT t fs|none=>.bad
  |none=>match x with
   |.t (.tup ts)=>match atI ts i with|some t=>okT t fs|none=>.bad
   |.t (.str z)=>if z.length<=big then match atI z.cps.toList i with|some c=>okT (.str ⟨#[c]⟩) fs|none=>.bad
    else .bad
   |_=>.bad
 |_,_,_=>.bad
section
variable{K:Fg}{Z:Xp}
theorem ZT:OpF K Z (rIx K) gIx:=by
 intro F B H U fs x y u w Q ok rx ry s;unfold gIx at s;split at s
 .rename_i i;split at s
  .rename_i ts e;split at s
   next t et=>obtain⟨a,vs,rfl,hs,q⟩:=Bg ok rx e;obtain⟨v,ev,rv⟩:=OA q et;exact .inl ⟨a,vs,i,v,rfl,ry,hs,ev,s F H v Le.refl (RR.of ok rv)⟩
   .exact s.elim
  .split at s
   .rename_i ts _;split at s
    next t et=>obtain⟨a,vs,rfl,hs,q⟩:=BL (ts:=ts) rx rfl;obtain⟨v,ev,rv⟩:=OA q et;exact .inr (.inl ⟨a,vs,i,v,rfl,ry,hs,ev,s F H v Le.refl (RR.of ok rv)⟩)
    .exact s.elim
   .rename_i z _;split at s
    .rename_i hz;split at s
     next c ec=>exact .inr (.inr ⟨z,i,c,rx,ry,aR hz Es,ec,s F H _ Le.refl (RR.of ok rfl)⟩)
     .exact s.elim
    .exact s.elim
   .exact s.elim
 .exact s.elim
end
noncomputable def Qc:Rv->Rv->FS->Out Rv
 |.t (.str i),.t (.str j),fs=>if i.length+j.length<=big then okT (.str (i++j)) fs else .bad
 |_,_,_=>.bad
noncomputable def TL:Rv->Rv->FS->Out Rv
 |.t (.str z),.t (.int n),fs=>if z.length=1/\1<=n/\n<=1000 then okT (.str (Txt.mul z n)) fs else .bad
 |_,_,_=>.bad
theorem Td{z:Str}{n:Int}(hz:z.length=1)(h0:1<=n)(h1:n<=1000):MulOk z n:=by
 refine⟨?_,λ_ _=>?_,λ_ _=>?_⟩
 .rw[Bool.or_eq_false_iff];exact⟨aT (by lia),aT (by lia)⟩
 .have h:(n:Int)<=2^63-1:=by lia
  have h2:1<=((2:Int)^63-1)/n:=(Int.le_ediv_iff_mul_le (by lia)).mpr (by lia);rw[hz];show ¬((1:Nat):Int)>_;lia
 .unfold Builtin.Str.tooLong;have:n.toNat<=1000:=by lia
  refine aT ?_;rw[hz];have h3:(1000:Nat)<=sizeLine:=by rw[sizeLine_eq];decide
  lia
section
variable{K:Fg}{Z:Xp}
theorem Tb:OpF K Z (λx y H Q=>∃i j,x=.str i/\y=.str j/\i.length+j.length<=sizeLine/\Q (.str (i++j)) H) Qc:=by
 intro F B H U fs x y u w Q ok rx ry s;unfold Qc at s;split at s
 .rename_i i j;split at s
  next h=>exact⟨i,j,rx,ry,aR h Es,s F H _ Le.refl (RR.of ok rfl)⟩
  .exact s.elim
 .exact s.elim
theorem S4:OpF K Z (λx y H Q=>∃z n,x=.str z/\y=.int n/\MulOk z n/\Q (.str (Txt.mul z n)) H) TL:=by
 intro F B H U fs x y u w Q ok rx ry s;unfold TL at s;split at s
 .rename_i i j;split at s
  next h=>exact⟨i,j,rx,ry,Td h.1 h.2.1 h.2.2,s F H _ Le.refl (RR.of ok rfl)⟩
  .exact s.elim
 .exact s.elim
end
noncomputable def Zc(fs:FS):Rv->Option Bool
 |.t .v=>some false
 |.t (.o b)=>some b
 |.t (.int i)=>some (i !=0)
 |.t (.str x)=>if x.length<=big then some ((x.length:Int)!=0)else none
 |.t (.lst ts)=>some !ts.isEmpty
 |.t (.tup ts)=>some !ts.isEmpty
 |.n i=>match AE fs i with|some (.lst ts)=>some !ts.isEmpty|some (.l ks _)=>some !ks.isEmpty|_=>none
 |_=>none
noncomputable def Kr(f:FS->Out Rv):FS->Out Bool:=λfs=>(f fs).bnd λr fs=>match Zc fs r with|some b=>.ok b fs|none=>.bad
noncomputable def E8(f:FS->Out Bool):FS->Out Bool:=λfs=>(f fs).bind λb fs=>.ok (!b) fs
noncomputable def Lq(f g:FS->Out Bool):FS->Out Bool:=λfs=>(f fs).bind λb fs=>if b=true then g fs else .ok false fs
noncomputable def orT(f g:FS->Out Bool):FS->Out Bool:=λfs=>(f fs).bind λb fs=>if b=true then .ok true fs else g fs
noncomputable def Yc(f g:FS->Out Rv):FS->Out Rv:=λfs=>(f fs).bnd λr fs=>match r with|.t (.o true)=>g fs|.t (.o false)=>okT (.o false) fs|_=>.bad
noncomputable def orV(f g:FS->Out Rv):FS->Out Rv:=λfs=>(f fs).bnd λr fs=>match r with|.t (.o false)=>g fs|.t (.o true)=>okT (.o true) fs|_=>.bad
theorem C9{α β:Type}{xs:List α}{ys:List β}(h:ys.length=xs.length):(!ys.isEmpty)=!xs.isEmpty:=by cases xs<;>cases ys<;>simp_all
section
variable{K:Fg}{B:Nat->Option V}{F:Wd}{H:Hp}{U:St}{fs:FS}{x:Rv}{u:V}
theorem R8{b:Bool}(h:Okk K F B H fs U)(r:BQ K F H U x u)(e:Zc fs x=some b):Jaz K u H b:=by
 unfold Zc at e;split at e
 .cases e;cases r;rfl
 .cases e;cases r;rfl
 .cases e;cases r;rfl
 .split at e
  next hz=>cases e;cases r;exact⟨aR hz Es,rfl⟩
  .cases e
 .cases e;obtain⟨a,vs,rfl,hs,q⟩:=Bg h r rfl;exact .inl ⟨vs,hs,(C9 q.len).symm⟩
 .cases e;obtain⟨a,vs,rfl,hs,q⟩:=BL r rfl;exact .inr (.inl ⟨vs,hs,(C9 q.len).symm⟩)
 .rename_i i;split at e
  next ts eo=>cases e;obtain⟨a,vs,rfl,hs,q⟩:=Bg (ts:=ts) h r (by simp[Dm,eo]);exact .inl ⟨vs,hs,(C9 q.len).symm⟩
  .rename_i ks ts eo;cases e;obtain⟨v,L2,e1,q,_⟩:=h.own eo;have e2:U[i]?=some (some u):=r;rw[e1]at e2;have e3:v=u:=by simpa using e2
   subst e3;simp only[Ap]at q;obtain⟨a,kvs,rfl,hd,rfl,_⟩:=q;exact .inr (.inr ⟨kvs,hd,(C9 (by simp))⟩)
  .cases e
 .cases e
end
section
variable{X:Cx}{Z:Xp}{a b c:Expr}{fa fb:FS->Out Rv}{ga gb:FS->Out Bool}{pos:Pos}{rest:List Expr}
theorem Qd(ha:FE X Z a fa)(he:∀whole,isTrue a X.env whole=(do let v <- whole;standAt a.pos;holding [v] (truthy v))):FT X Z a (Kr fa):=by
 refine KA (O3 ha he) λU H Q hpt => ?_
 obtain⟨F,B,fs,ok,s⟩:= hpt;refine⟨F,B,fs,ok,Az s λr fs1 F1 H1 u l ok1 rx s1=>?_⟩;split at s1
 next b e=>exact⟨b,R8 ok1 rx e,s1 F1 H1 b Le.refl ⟨ok1,rfl⟩⟩
 .exact s1.elim
theorem W4(ha:FT X Z a ga):FT X Z (.UnaryOp .Not a pos) (E8 ga):=by
 refine KA (VG ha) λU H Q hpt => ?_
 obtain⟨F,B,fs,ok,s⟩:= hpt;refine⟨F,B,fs,ok,Ay s λb fs1 F1 H1 b' l q s1=>?_⟩;obtain⟨ok1,rfl⟩:=q;exact s1 F1 H1 _ Le.refl ⟨ok1,rfl⟩
def FW(X:Cx)(Z:Xp)(e:Expr)(f:FS->Out Bool):Prop:=PW X e (tT X.K Z f)
theorem FW.ft(h:FW X Z a ga):FT X Z a ga:=PW.pt h
theorem Q3{e:Expr}{t t':TT}(h:PW X e t)(i:∀U H Q,t' U H Q->t U H Q):PW X e t':=λwhole pins s U H Q I q=>h whole pins s U H Q I (i _ _ _ q)
theorem TU(ha:FT X Z a ga):FW X Z (.BoolOp .And [a] pos) ga:=So ha
theorem W0(ha:FT X Z a ga):FW X Z (.BoolOp .Or [a] pos) ga:=VD ha
theorem W3(ha:FT X Z a ga)(hb:FW X Z (.BoolOp .And (b::rest) pos) gb):FW X Z (.BoolOp .And (a::b::rest) pos) (Lq ga gb):=by
 refine Q3 (VE ha hb) λU H Q hpt => ?_
 obtain⟨F,B,fs,ok,s⟩:= hpt;refine⟨F,B,fs,ok,Ay s λb fs1 F1 H1 b' l q s1=>?_⟩;obtain⟨ok1,rfl⟩:=q;cases b' with|true =>rw[if_pos rfl]at s1 ⊢;exact⟨F1,B,fs1,ok1,s1⟩|false =>rw[if_neg (by decide)]at s1 ⊢;exact s1 F1 H1 _ Le.refl ⟨ok1,rfl⟩
theorem Jac(ha:FT X Z a ga)(hb:FW X Z (.BoolOp .Or (b::rest) pos) gb):FW X Z (.BoolOp .Or (a::b::rest) pos) (orT ga gb):=by
 refine Q3 (ZD ha hb) λU H Q hpt => ?_
 obtain⟨F,B,fs,ok,s⟩:= hpt;refine⟨F,B,fs,ok,Ay s λb fs1 F1 H1 b' l q s1=>?_⟩;obtain⟨ok1,rfl⟩:=q;cases b' with|true =>rw[if_pos rfl]at s1 ⊢;exact s1 F1 H1 _ Le.refl ⟨ok1,rfl⟩|false =>rw[if_neg (by decide)]at s1 ⊢;exact⟨F1,B,fs1,ok1,s1⟩
theorem Xj{op}(h:FE X Z a fa):FE X Z (.BoolOp op [a] pos) fa:=VT h
theorem Xz(ha:FE X Z a fa)(hb:FE X Z (.BoolOp .And (b::rest) pos) fb):FE X Z (.BoolOp .And (a::b::rest) pos) (Yc fa fb):=by
 refine AI (V3 ha hb) λU H Q hpt => ?_
 obtain⟨F,B,fs,ok,s⟩:= hpt;refine⟨F,B,fs,ok,Az s λr fs1 F1 H1 u l ok1 rx s1=>?_⟩;split at s1
 .exact⟨true,rx,by rw[if_pos rfl];exact⟨F1,B,fs1,ok1,s1⟩⟩
 .exact⟨false,rx,by rw[if_neg (by decide)];exact s1 F1 H1 _ Le.refl (RR.of ok1 rfl)⟩
 .exact s1.elim
theorem Jal(ha:FE X Z a fa)(hb:FE X Z (.BoolOp .Or (b::rest) pos) fb):FE X Z (.BoolOp .Or (a::b::rest) pos) (orV fa fb):=by
 refine AI (ZF ha hb) λU H Q hpt => ?_
 obtain⟨F,B,fs,ok,s⟩:= hpt;refine⟨F,B,fs,ok,Az s λr fs1 F1 H1 u l ok1 rx s1=>?_⟩;split at s1
 .exact⟨false,rx,by rw[if_neg (by decide)];exact⟨F1,B,fs1,ok1,s1⟩⟩
 .exact⟨true,rx,by rw[if_pos rfl];exact s1 F1 H1 _ Le.refl (RR.of ok1 rfl)⟩
 .exact s1.elim
end
section
variable{X:Cx}{Z:Xp}{a b c:Expr}{fa fb fc:FS->Out Rv}{r r':R2}{g g':Rv->Rv->FS->Out Rv}{pos:Pos}
theorem Qf{op op':CmpOp}(hg:OpF X.K Z r g)(hg':OpF X.K Z r' g')(ha:FE X Z a fa)(hb:FE X Z b fb)(hc:FE X Z c fc)
  (h:∀{ta tb tc:TE},PE X a ta->PE X b tb->PE X c tc->PT X (.Compare a [op,op'] [b,c] pos) (R9 (MF r r' ta tb tc))):FT X Z (.Compare a [op,op'] [b,c] pos) (asB (chain g g' fa fb fc)) :=
 KA (h ha hb hc) λ_ _ _ q=>Us hg hg' (RM q)
end
noncomputable def Aj:FS->Out (List Rv):=λfs=>.ok [] fs
noncomputable def Ab(f:FS->Out Rv)(g:FS->Out (List Rv)):FS->Out (List Rv):=λfs=>(f fs).bnd λr fs=>(g fs).bind λrs fs=>.ok (r::rs) fs
noncomputable def Mj:List Rv->Option (List T)
 | []=>some []
 |.t t::r=>(Mj r).map (t::·)
 |_=>none
theorem Fi{K:Fg}{F:Wd}{H:Hp}{U:St}:∀{rs:List Rv}{vs:List V}{ts:List T},HY K F H U rs vs->Mj rs=some ts->Ac K F H ts vs
 | [],_,_,h,e=>by cases e;exact h
 |.t t::r,_,_,h,e=>by simp only[Mj,aA]at e;obtain⟨ts,e,rfl⟩:=e;obtain⟨v,w,rfl,h1,h2⟩:=h;simp only[Ac];exact⟨v,w,rfl,h1,Fi h2 e⟩
 |.nw _::r,_,_,h,e=>by simp[Mj]at e
 |.n _::r,_,_,h,e=>by simp[Mj]at e
noncomputable def Aw(g:List T->FS->Out Rv)(f:FS->Out (List Rv)):FS->Out Rv:=λfs=>(f fs).bind λrs fs=>match Mj rs with|some ts=>if ts.length<=big then g ts fs else .bad|none=>.bad
noncomputable def Bp(ts:List T)(fs:FS):Out Rv:=.ok (.t (.tup ts)) fs
noncomputable def Dc(ts:List T)(fs:FS):Out Rv:=.ok (.t (.lst ts)) fs
noncomputable def Eg(ts:List T)(fs:FS):Out Rv:=.ok (.nw (.lst ts)) fs
section
variable{X:Cx}{Z:Xp}{e:Expr}{es:List Expr}{f:FS->Out Rv}{g:FS->Out (List Rv)}{pos:Pos}
theorem XC:FA X Z [] Aj:=KJ D8 λU H Q ⟨F,B,fs,ok,s⟩=>s F H [] Le.refl ⟨ok,rfl⟩
theorem Ue(ha:FE X Z e f)(hr:FA X Z es g)(hs:starEach (e::es) X.env=(false,eval e X.env)::starEach es X.env:=by rfl):FA X Z (e::es) (Ab f g):=by
 refine KJ (BN ha hr hs) λU H Q hpt => ?_
 obtain⟨F,B,fs,ok,s⟩:= hpt;refine⟨F,B,fs,ok,Az s λr fs1 F1 H1 u l ok1 rx s1=>⟨F1,B,fs1,ok1,Ay s1 λrs fs2 F2 H2 us l2 q s2=>?_⟩⟩;exact s2 F2 H2 (u::us) Le.refl ⟨q.1,u,us,rfl,rx.le l2,q.2⟩
theorem Xd{x1}(h:FA X Z es g):FE X Z (.Tuple es x1 pos) (Aw Bp g):=by
 refine AI (VS h) λU H Q hpt => ?_
 obtain⟨F,B,fs,ok,s⟩:= hpt;refine⟨F,B,fs,ok,Ay s λrs fs1 F1 H1 us l q s1=>?_⟩;obtain⟨ok1,q⟩:=q;split at s1
 .rename_i ts e;have r:=Fi q e;split at s1
  next hl=>refine⟨by rw[r.len];exact aR hl Es,λp hp=>s1 (OB F1 p) (upd H1 p (.tup us)) (.ref p) (AS ok1 hp) (RR.of (ok1.alloc hp) ?_)⟩;simp only[BQ,Ar];exact⟨p,us,rfl,⟨rfl,.inr rfl,Ak⟩,r.le (AS ok1 hp)⟩
  .exact s1.elim
 .exact s1.elim
theorem Xn(h:FA X Z es g):FE X Z (.List es pos) (Aw Dc g):=by
 refine AI (Q7 h) λU H Q hpt => ?_
 obtain⟨F,B,fs,ok,s⟩:= hpt;refine⟨F,B,fs,ok,Ay s λrs fs1 F1 H1 us l q s1=>?_⟩;obtain⟨ok1,q⟩:=q;split at s1
 .rename_i ts e;have r:=Fi q e;split at s1
  next hl=>refine⟨by rw[r.len];exact aR hl Es,λp hp=>s1 (OB F1 p) (upd H1 p (.lst us)) (.ref p) (AS ok1 hp) (RR.of (ok1.alloc hp) ?_)⟩;simp only[BQ,Ar];exact⟨p,us,rfl,.inr rfl,Ak,r.le (AS ok1 hp)⟩
  .exact s1.elim
 .exact s1.elim
theorem C6{K:Fg}{F:Wd}{H:Hp}{p:Addr}{ts:List T}{us:List V}(h:H p=some (.lst us))(r:Ac K F H ts us):Ap K F H (.lst ts) (.ref p) [p]:=by simp only[Ap];exact⟨p,us,rfl,h,r,rfl⟩
theorem Ua(h:FA X Z es g):FE X Z (.List es pos) (Aw Eg g):=by
 refine AI (Q7 h) λU H Q hpt => ?_
 obtain⟨F,B,fs,ok,s⟩:= hpt;refine⟨F,B,fs,ok,Ay s λrs fs1 F1 H1 us l q s1=>?_⟩;obtain⟨ok1,q⟩:=q;split at s1
 .rename_i ts e;have r:=Fi q e;split at s1
  next hl=>exact⟨by rw[r.len];exact aR hl Es,λp hp=>s1 F1 (upd H1 p (.lst us)) (.ref p) (AJ ok1 hp) (RR.alloc ok1 hp (C6 Ak (r.le (AJ ok1 hp))))⟩
  .exact s1.elim
 .exact s1.elim
noncomputable def GB:FS->Out Rv:=λfs=>.ok (.nw (.l [] [])) fs
theorem Ql:FE X Z (.Dict [] [] pos) GB:=by
 refine AI KI λU H Q ⟨F,B,fs,ok,s⟩ p hp=>s F (upd H p (.l [])) (.ref p) (AJ ok hp) (RR.alloc ok hp ?_)
 simp only[Ap,Ac];exact⟨p,[],rfl,Ak,rfl,rfl,rfl⟩
end
def C4(K:Fg)(Z:Xp)(r:List V->Hp->VK->Prop)(g:List Rv->FS->Out Rv):Prop:=∀(F:Wd)(B:Nat->Option V)(H:Hp)(U:St)(fs:FS)(rs:List Rv)(vs:List V)(Q:VK),Okk K F B H fs U->HY K F H U rs vs ->
 sat Z B (RR K B U) F H (g rs fs) Q->r vs H Q
noncomputable def Af(g:List Rv->FS->Out Rv)(f:FS->Out (List Rv)):FS->Out Rv:=λfs=>(f fs).bind λrs fs=>g rs fs
section
variable{X:Cx}{Z:Xp}{e:Expr}{es:List Expr}{fa:FS->Out (List Rv)}{g:List Rv->FS->Out Rv}{r:List V->Hp->VK->Prop}{pos p:Pos}{x:Str}{id Ty:String}
theorem Fc(hg':C4 X.K Z r g)(hc:Co X (.builtin id) r)(hm:X.mg x=none)(hv:bootBuiltins x=some (.builtin id))(ha:FA X Z (e::es) fa)(hg:Gl X x:=by rfl)(hn:x≠"__name__":=by decide)(hdb:(x==("__debug__":Str))=false:=by decide)
  (he:starEach (e::es) X.env=(false,eval e X.env)::starEach es X.env:=by rfl) (hpl:(backTo pos (starEach es X.env)).any (·.1)=false:=by rfl):FE X Z (.Call (.Name x p) (e::es) [] pos) (Af g fa) :=
 AI (E7 hc hg hm hv ha hn hdb he hpl) λU H Q ⟨F,B,fs,ok,s⟩=>⟨F,B,fs,ok,Ay s λrs fs1 F1 H1 us l q s1=>hg' F1 B H1 U fs1 rs us Q q.1 q.2 s1⟩
theorem Ej(hg':C4 X.K Z r g)(hc:Co X (.type Ty) r)(hm:X.mg x=none)(hv:bootBuiltins x=some (.type Ty))(ha:FA X Z (e::es) fa)(hg:Gl X x:=by rfl)(hn:x≠"__name__":=by decide)(hdb:(x==("__debug__":Str))=false:=by decide)
  (he:starEach (e::es) X.env=(false,eval e X.env)::starEach es X.env:=by rfl) (hpl:(backTo pos (starEach es X.env)).any (·.1)=false:=by rfl):FE X Z (.Call (.Name x p) (e::es) [] pos) (Af g fa) :=
 AI (M5 hc hg hm hv ha hn hdb he hpl) λU H Q ⟨F,B,fs,ok,s⟩=>⟨F,B,fs,ok,Ay s λrs fs1 F1 H1 us l q s1=>hg' F1 B H1 U fs1 rs us Q q.1 q.2 s1⟩
end
noncomputable def Z8:List Rv->FS->Out Rv
 | [x],fs=>match Dm fs x with|some ts=>okT (.int ts.length) fs|none=>match LD x with|some ts=>okT (.int ts.length) fs|none=>.bad
 |_,_=>.bad
noncomputable def NS:List Rv->FS->Out Rv
 | [.t (.str z)],fs=>if z.length<=big then okT (.int z.length) fs else .bad
 |_,_=>.bad
noncomputable def HK:List Rv->FS->Out Rv
 | [.t (.int i)],fs=>okT (.int i) fs
 | [.t (.o k)],fs=>okT (.int (if k then 1 else 0)) fs
 |_,_=>.bad
noncomputable def Ya:List Rv->FS->Out Rv
 | [x],fs=>match(Dm fs x).bind CQ with|some ns=>okT (.int ns.sum) fs|none=>.bad
 |_,_=>.bad
noncomputable def WY:List Rv->FS->Out Rv
 | [x],fs=>match(Dm fs x).bind Dn with|some ns=>okT (.o (ns.all id)) fs|none=>.bad
 |_,_=>.bad
noncomputable def TM:List Rv->FS->Out Rv
 | [x],fs=>match Dm fs x with|some ts=>.ok (.nw (.lst ts)) fs|none=>match LD x with|some ts=>.ok (.nw (.lst ts)) fs|none=>.bad
 |_,_=>.bad
noncomputable def A9:List Rv->FS->Out Rv
 | [x],fs=>match Dm fs x with|some ts=>okT (.tup ts) fs|none=>match LD x with|some ts=>okT (.tup ts) fs|none=>.bad
 |_,_=>.bad
noncomputable def Mn:Key->T
 |.inl i=>.int i
 |.inr x=>.str x
noncomputable def NR:List Rv->FS->Out Rv
 | [.t (.l ks _)],fs=>.ok (.nw (.lst (ks.map Mn))) fs
 |_,_=>.bad
section
variable{K:Fg}{Z:Xp}
theorem Bm{F:Wd}{H:Hp}{U:St}{x:Rv}{vs:List V}(h:HY K F H U [x] vs):∃v,vs=[v]/\BQ K F H U x v:=by obtain⟨v,w,rfl,h1,h2⟩:=h;have:w=[]:=h2;subst this;exact⟨v,rfl,h1⟩
theorem XT:C4 K Z (λxs H Q=>∃p ys,xs=[.ref p]/\(SqL K H p ys\/SqT K H p ys)/\Q (.int ys.length) H) Z8:=by
 intro F B H U fs rs vs Q ok q s;unfold Z8 at s;split at s
 .obtain⟨v,rfl,qq⟩:=Bm q;have q:=qq;split at s
  next ts e=>obtain⟨a,us,rfl,hs,r⟩:=Bg ok q e;exact⟨a,us,rfl,.inl hs,by rw[r.len];exact s F H _ Le.refl (RR.of ok rfl)⟩
  .split at s
   next ts e=>obtain⟨a,us,rfl,hs,r⟩:=BL q e;exact⟨a,us,rfl,.inr hs,by rw[r.len];exact s F H _ Le.refl (RR.of ok rfl)⟩
   .exact s.elim
 .exact s.elim
theorem Uu:C4 K Z (λxs H Q=>∃z,xs=[.str z]/\z.length<=sizeLine/\Q (.int z.length) H) NS:=by
 intro F B H U fs rs vs Q ok q s;unfold NS at s;split at s
 .rename_i z;obtain⟨v,rfl,qq⟩:=Bm q;have q:=qq;cases q;split at s
  next hz=>exact⟨z,rfl,aR hz Es,s F H _ Le.refl (RR.of ok rfl)⟩
  .exact s.elim
 .exact s.elim
theorem Uw:C4 K Z (λxs H Q=>(∃i,xs=[.int i]/\Q (.int i) H)\/∃k,xs=[.o k]/\Q (.int (if k then 1 else 0)) H) HK:=by
 intro F B H U fs rs vs Q ok q s;unfold HK at s;split at s
 .obtain⟨v,rfl,qq⟩:=Bm q;have q:=qq;cases q;exact .inl ⟨_,rfl,s F H _ Le.refl (RR.of ok rfl)⟩
 .obtain⟨v,rfl,qq⟩:=Bm q;have q:=qq;cases q;exact .inr ⟨_,rfl,s F H _ Le.refl (RR.of ok rfl)⟩
 .exact s.elim
theorem XS:C4 K Z (λxs H Q=>∃(l:Addr)(ns:List Int),xs=[.ref l]/\SqL K H l (ns.map V.int)/\Q (.int ns.sum) H) Ya:=by
 intro F B H U fs rs vs Q ok q s;unfold Ya at s;split at s
 .obtain⟨v,rfl,qq⟩:=Bm q;have q:=qq;split at s
  next ns e=>rw[ba]at e;obtain⟨ts,e1,e2⟩:=e;obtain⟨a,us,rfl,hs,r⟩:=Bg ok q e1;rw[Jp e2]at r;rw[Ac.ints r]at hs;exact⟨a,ns,rfl,hs,s F H _ Le.refl (RR.of ok rfl)⟩
  .exact s.elim
 .exact s.elim
theorem XX:C4 K Z (λxs H Q=>∃(l:Addr)(bs:List Bool),xs=[.ref l]/\SqL K H l (bs.map V.o)/\Q (.o (bs.all id)) H) WY:=by
 intro F B H U fs rs vs Q ok q s;unfold WY at s;split at s
 .obtain⟨v,rfl,qq⟩:=Bm q;have q:=qq;split at s
  next ns e=>rw[ba]at e;obtain⟨ts,e1,e2⟩:=e;obtain⟨a,us,rfl,hs,r⟩:=Bg ok q e1;rw[Fh e2]at r;rw[Ac.bls r]at hs;exact⟨a,ns,rfl,hs,s F H _ Le.refl (RR.of ok rfl)⟩
  .exact s.elim
 .exact s.elim
theorem Ut:C4 K Z (λxs H Q=>∃p ys,xs=[.ref p]/\(SqL K H p ys\/SqT K H p ys)/\∀l,H l=none->Q (.ref l) (upd H l (.lst ys))) TM:=by
 intro F B H U fs rs vs Q ok q s;unfold TM at s;split at s
 .obtain⟨v,rfl,qq⟩:=Bm q;have q:=qq;split at s
  next ts e=>obtain⟨a,us,rfl,hs,r⟩:=Bg ok q e;exact⟨a,us,rfl,.inl hs,λp hp=>s F (upd H p (.lst us)) (.ref p) (AJ ok hp) (RR.alloc ok hp (C6 Ak (r.le (AJ ok hp))))⟩
  .split at s
   next ts e=>obtain⟨a,us,rfl,hs,r⟩:=BL q e;exact⟨a,us,rfl,.inr hs,λp hp=>s F (upd H p (.lst us)) (.ref p) (AJ ok hp) (RR.alloc ok hp (C6 Ak (r.le (AJ ok hp))))⟩
   .exact s.elim
 .exact s.elim
theorem Eu{F:Wd}{H:Hp}{ts:List T}{us:List V}{p:Addr}{U:St}{B:Nat->Option V}{fs:FS}(ok:Okk K F B H fs U)(hp:H p=none)(r:Ac K F H ts us):RR K B U (OB F p) (upd H p (.tup us)) fs (.t (.tup ts)) (.ref p):=by refine RR.of (ok.alloc hp) ?_;simp only[BQ,Ar];exact⟨p,us,rfl,⟨rfl,.inr rfl,Ak⟩,r.le (AS ok hp)⟩
theorem LG{F:Wd}{H:Hp}{ts:List T}{us:List V}{p:Addr}{U:St}{B:Nat->Option V}{fs:FS}(ok:Okk K F B H fs U)(hp:H p=none)(r:Ac K F H ts us):RR K B U (OB F p) (upd H p (.lst us)) fs (.t (.lst ts)) (.ref p):=by refine RR.of (ok.alloc hp) ?_;simp only[BQ,Ar];exact⟨p,us,rfl,.inr rfl,Ak,r.le (AS ok hp)⟩
theorem Qz:C4 K Z (λxs H Q=>∃p ys,xs=[.ref p]/\((SqL K H p ys/\∀l,H l=none->Q (.ref l) (upd H l (.tup ys)))\/(SqT K H p ys/\Q (.ref p) H))) A9:=by
 intro F B H U fs rs vs Q ok q s;unfold A9 at s;split at s
 .rename_i x;obtain⟨v,rfl,qq⟩:=Bm q;have q:=qq;split at s
  next ts e=>obtain⟨a,us,rfl,hs,r⟩:=Bg ok q e;exact⟨a,us,rfl,.inl ⟨hs,λp hp=>s _ _ (.ref p) (AS ok hp) (Eu ok hp r)⟩⟩
  .split at s
   .rename_i ts e;obtain⟨a,us,rfl,hs,r⟩:=BL q e;have ex:x=.t (.tup ts):=by
     unfold LD at e;split at e
     .cases e;rfl
     .cases e
    rw[ex]at q;exact⟨a,us,rfl,.inr ⟨hs,s F H _ Le.refl (RR.of ok q)⟩⟩
   .exact s.elim
 .exact s.elim
theorem HF{F:Wd}{H:Hp}:∀ks:List Key,Ac K F H (ks.map Mn) (ks.map kV)
 | []=>by simp[Ac]
 |.inl i::r=>by simp only[aj,Ac];exact⟨_,_,rfl,rfl,HF r⟩
 |.inr i::r=>by simp only[aj,Ac];exact⟨_,_,rfl,rfl,HF r⟩
theorem QA:C4 K Z (λxs H Q=>∃p kvs,xs=[.ref p]/\Rd H p (.l kvs)/\∀l,H l=none->Q (.ref l) (upd H l (.lst (kvs.map λkv=>kV kv.1)))) NR:=by
 intro F B H U fs rs vs Q ok q s;unfold NR at s;split at s
 .rename_i ks ts;obtain⟨v,rfl,qq⟩:=Bm q;have q:=qq;simp only[BQ,Ar]at q;obtain⟨a,kvs,rfl,f,hd,rfl,r⟩:=q;refine⟨a,kvs,rfl,hd,λp hp=>s F _ (.ref p) (AJ ok hp) (RR.alloc ok hp (C6 Ak ?_))⟩;have e:(kvs.map λkv=>kV kv.1)=(kvs.map (·.1)).map kV:=by rw[aU];rfl
  rw[e];exact HF _
 .exact s.elim
end
def MtF(K:Fg)(Z:Xp)(r:V->List V->Hp->VK->Prop)(g:Rv->List Rv->FS->Out Rv):Prop:=∀(F:Wd)(B:Nat->Option V)(H:Hp)(U:St)(fs:FS)(x:Rv)(rs:List Rv)(u:V)(vs:List V)(Q:VK),Okk K F B H fs U->BQ K F H U x u->HY K F H U rs vs ->
 sat Z B (RR K B U) F H (g x rs fs) Q->r u vs H Q
noncomputable def Bv(g:Rv->List Rv->FS->Out Rv)(fo:FS->Out Rv)(fa:FS->Out (List Rv)):FS->Out Rv:=λfs=>(fo fs).bnd λx fs=>if(Dm fs x).isSome=true then(fa fs).bind λrs fs=>g x rs fs else .bad
section
variable{X:Cx}{Z:Xp}{o e:Expr}{es:List Expr}{fo:FS->Out Rv}{fa:FS->Out (List Rv)}{g:Rv->List Rv->FS->Out Rv}{r:V->List V->Hp->VK->Prop}{apos cpos:Pos}{name:Str}{id:String}
theorem Xx(hg:MtF X.K Z r g)(slot:Slot "list" name id)(hty:typeOf (.builtin id)=pure (.type "method_descriptor"))(hm:MtR X id r)(ho:FE X Z o fo)(ha:FA X Z (e::es) fa)
  (hbase:attributeBase o name X.env (eval o X.env)=eval o X.env:=by rfl)
  (hfew:((backTo cpos (starEach (e::es) X.env)).all (λx=>!x.1)&&(backToKw cpos (keywordEach [] X.env)).all (λx=>x.1.isSome)
  &&decide ((e::es).length+([]:List Keyword).length+(if([]:List Keyword).isEmpty then 0 else 1)<30))=true:=by rfl)
  (hline:(apos.endLine==cpos.line)=true:=by rfl) (hs:starEach (e::es) X.env=(false,eval e X.env)::starEach es X.env:=by rfl) (hplain:(backTo cpos (starEach es X.env)).any (·.1)=false:=by rfl) :
  FE X Z (.Call (.Attribute o name apos) (e::es) [] cpos) (Bv g fo fa):=by
 refine AI (ZM PySem.F.plainAttrs_list slot hty hm ho ha hbase hfew hline hs hplain) λU H Q hpt => ?_
 obtain⟨F,B,fs,ok,s⟩:= hpt;refine⟨F,B,fs,ok,Az s λx fs1 F1 H1 u l ok1 rx s1=>?_⟩;split at s1
 next he=>obtain⟨ts,ets⟩:=bM.mp he;obtain⟨a,vs,rfl,hs,q⟩:=Bg ok1 rx ets;exact⟨.inl ⟨rfl,vs,hs⟩,F1,B,fs1,ok1,Ay s1 λrs fs2 F2 H2 us l2 q2 s2=>hg F2 B H2 U fs2 x rs _ us Q q2.1 (rx.le l2) q2.2 s2⟩
 .exact s1.elim
theorem Rx(hg:MtF X.K Z r g)(slot:Slot "list" name id)(hty:typeOf (.builtin id)=pure (.type "method_descriptor"))(hm:MtR X id r)(ho:FE X Z o fo)
  (hbase:attributeBase o name X.env (eval o X.env)=eval o X.env:=by rfl) (hline:(apos.endLine==cpos.line)=true:=by rfl):FE X Z (.Call (.Attribute o name apos) [] [] cpos) (Bv g fo Aj):=by
 refine AI (V2 PySem.F.plainAttrs_list slot hty hm ho hbase hline) λU H Q hpt => ?_
 obtain⟨F,B,fs,ok,s⟩:= hpt;refine⟨F,B,fs,ok,Az s λx fs1 F1 H1 u l ok1 rx s1=>?_⟩;split at s1
 next he=>obtain⟨ts,ets⟩:=bM.mp he;obtain⟨a,vs,rfl,hs,q⟩:=Bg ok1 rx ets;exact⟨.inl ⟨rfl,vs,hs⟩,hg F1 B H1 U fs1 x [] _ [] Q ok1 rx rfl s1⟩
 .exact s1.elim
end
noncomputable def E1:Rv->List Rv->FS->Out Rv
 |.n i,[.t t],fs=>match AE fs i with|some (.lst ts)=>if ts.length<big then .ok (.t .v) (putAt fs i (.lst (ts++[t])))else .bad|_=>.bad
 |_,_,_=>.bad
noncomputable def IT:Rv->List Rv->FS->Out Rv
 |.n i,[],fs=>match AE fs i with|some (.lst _)=>.ok (.t .v) (putAt fs i (.lst []))|_=>.bad
 |_,_,_=>.bad
section
variable{K:Fg}{Z:Xp}{B:Nat->Option V}{F:Wd}{H:Hp}{U:St}{fs:FS}{i:Nat}{u:V}{ts:List T}
theorem Okk.list(h:Okk K F B H fs U)(r:U[i]?=some (some u))(e:AE fs i=some (.lst ts)):∃a vs,u=.ref a/\H a=some (.lst vs)/\Ac K F H ts vs /\
  ∀ts' vs',Ac K F H ts' vs'->Okk K F B (upd H a (.lst vs')) (putAt fs i (.lst ts')) U/\Le F H F (upd H a (.lst vs')):=by
 obtain⟨v,L2,e1,q,nf,_,k⟩:=h.own e;rw[e1]at r;have e3:v=u:=by simpa using r
 subst e3;simp only[Ap]at q;obtain⟨a,vs,rfl,hs,q,rfl⟩:=q;refine⟨a,vs,rfl,hs,q,λts' vs' q'=>?_⟩;have l:Le F H F (upd H a (.lst vs')):=⟨λb f=>⟨f,Ai λz=>(nf a (by simp)).1 (z▸f)⟩,λb f=>⟨f,Ai λz=>(nf a (by simp)).2 (z▸f)⟩⟩
 exact k _ _ (λb hb _=>Ai (by simpa using hb)) (C6 Ak (q'.le l))
theorem Ws:MtF K Z MN E1:=by
 intro F B H U fs x rs u vs Q ok rx q s;unfold E1 at s;split at s
 .rename_i i t;obtain⟨v,rfl,qq⟩:=Bm q;have q:=qq;split at s
  .rename_i ts e;split at s
   next hl=>obtain⟨a,us,rfl,hs,r,k⟩:=ok.list rx e;obtain⟨ok',l⟩:=k (ts++[t]) (us++[v]) (r.app (Ac.one q));exact⟨a,us,v,rfl,rfl,hs,by rw[r.len];exact bW hl Gd,s F _ _ l (RR.of ok' rfl)⟩
   .exact s.elim
  .exact s.elim
 .exact s.elim
theorem Pw:MtF K Z Q1 IT:=by
 intro F B H U fs x rs u vs Q ok rx q s;unfold IT at s;split at s
 .have:vs=[]:=q;subst this;split at s
  next ts e=>obtain⟨a,us,rfl,hs,r,k⟩:=ok.list rx e;obtain⟨ok',l⟩:=k [] [] rfl;exact⟨a,us,rfl,rfl,hs,s F _ _ l (RR.of ok' rfl)⟩
  .exact s.elim
 .exact s.elim
end
noncomputable def Gm:T->Option Key
 |.int i=>some (.inl i)
 |.str x=>some (.inr x)
 |_=>none
noncomputable def Gp:List T->Option (List Key)
 | []=>some []
 |t::r=>(Gm t).bind λk=>(Gp r).map (k::·)
theorem C5{K:Fg}{F:Wd}{H:Hp}{t:T}{u:V}{k:Key}(e:Gm t=some k)(r:Ar K F H t u):u=kV k:=by
 unfold Gm at e;split at e
 .cases e;exact r
 .cases e;exact r
 .cases e
theorem D6{K:Fg}{F:Wd}{H:Hp}:∀{ts:List T}{us:List V}{ks:List Key},Gp ts=some ks->Ac K F H ts us->us=ks.map kV
 | [],_,_,e,r=>by cases e;exact r
 |t::ts,_,_,e,r=>by simp only[Gp,ba,aA]at e;obtain⟨k,e1,ks,e2,rfl⟩:=e;simp only[Ac]at r;obtain⟨v,w,rfl,r1,r2⟩:=r;rw[aj,D6 e2 r2,C5 e1 r1]
noncomputable def CD{κ:Type}[DecidableEq κ]:List κ->List T->κ->Option T
 |k::ks,t::ts,j=>if k=j then some t else CD ks ts j
 |_,_,_=>none
noncomputable def Ew{κ:Type}[DecidableEq κ](ks:List κ)(ts:List T)(j:κ)(v:T):List κ×List T :=
 if(ks.any λk=>decide (k=j))=true then(ks,List.zipWith (λk t=>if k=j then v else t) ks ts)else(ks++[j],ts++[v])
section
variable{K:Fg}{F:Wd}{H:Hp}{κ:Type}[DecidableEq κ]
theorem Hj:∀{kvs:List (κ×V)}{ts:List T}{j:κ},Ac K F H ts (kvs.map (·.2))->(CD (kvs.map (·.1)) ts j=none/\Jw kvs j=none)\/∃t v,CD (kvs.map (·.1)) ts j=some t/\Jw kvs j=some v/\Ar K F H t v
 | [],ts,j,r=>by have h:=r.len;cases ts with|nil=>exact .inl ⟨rfl,rfl⟩|cons t ts=>simp at h
 |(k,v)::kvs,ts,j,r=>by
  cases ts with
  |nil =>have h:=r.len;simp at h
  |cons t ts =>
   simp only[aj,Ac]at r;obtain⟨v',w,e,r1,r2⟩:=r;cases e;by_cases hk:k=j
   .refine .inr ⟨t,v,?_,D3 hk,r1⟩;simp only[aj,CD];rw[if_pos hk]
   .have e1:CD (((k,v)::kvs).map (·.1)) (t::ts) j=CD (kvs.map (·.1)) ts j:=by simp only[aj,CD];rw[if_neg hk]
    rw[e1,D4 (p:=(k,v)) hk];exact Hj r2
theorem Ms{j:κ}{t:T}{w:V}(q:Ar K F H t w):∀{kvs:List (κ×V)}{ts:List T},Ac K F H ts (kvs.map (·.2)) ->
  Ac K F H (List.zipWith (λk t'=>if k=j then t else t') (kvs.map (·.1)) ts) ((kvs.map λkv=>if kv.1=j then(kv.1,w)else kv).map (·.2))
 | [],ts,r=>by have h:=r.len;cases ts with|cons t ts=>simp at h|nil=>exact rfl
 |(k,v)::kvs,ts,r=>by
  cases ts with
  |nil =>have h:=r.len;simp at h
  |cons t' ts =>
   simp only[aj,Ac]at r;obtain⟨v',w',e,r1,r2⟩:=r;cases e;have ih:=Ms q (j:=j) r2;simp only[aj,List.zipWith_cons_cons,Ac];by_cases hk:k=j
   .rw[if_pos hk,if_pos hk];exact⟨w,_,rfl,q,ih⟩
   .rw[if_neg hk,if_neg hk];exact⟨v,_,rfl,r1,ih⟩
theorem E6{j:κ}{t:T}{w:V}(q:Ar K F H t w){kvs:List (κ×V)}{ts:List T}(r:Ac K F H ts (kvs.map (·.2))) :
  (putK kvs j w).map (·.1)=(Ew (kvs.map (·.1)) ts j t).1/\Ac K F H (Ew (kvs.map (·.1)) ts j t).2 ((putK kvs j w).map (·.2)):=by
 have e:((kvs.map (·.1)).any λk=>decide (k=j))=(kvs.any λkv=>decide (kv.1=j)):=by rw[List.any_map];rfl
 unfold putK Ew;rw[e];by_cases h:(kvs.any λkv=>decide (kv.1=j))=true
 .rw[if_pos h,if_pos h];refine⟨?_,Ms q r⟩;rw[aU];refine List.map_congr_left λp hp=>?_
  show(if p.1=j then(p.1,w)else p).1=p.1;split<;>rfl
 .rw[if_neg h,if_neg h];refine⟨by rw[aq];rfl,?_⟩;rw[aq];exact r.app (Ac.one q)
end
noncomputable def RE(fs:FS):Rv->T->Option (Option T)
 |.t (.l ks ts),y=>(Gm y).map λk=>CD ks ts k
 |.t (.dF ks ts),y=>(Gm y).map λk=>CD ks ts k
 |.t (.dT ks ts),.tup y=>(Gp y).map λk=>CD ks ts k
 |.n i,y=>match AE fs i with
  |some (.l ks ts)=>(Gm y).map λk=>CD ks ts k
  |some (.dT ks ts)=>match y with
   |.tup y=>(Gp y).map λk=>CD ks ts k
   |_=>none
  |_=>none
 |_,_=>none
section
variable{K:Fg}{B:Nat->Option V}{F:Wd}{H:Hp}{U:St}{fs:FS}{x:Rv}{y:T}{u w:V}
theorem Og{o:Option T}(h:Okk K F B H fs U)(rx:BQ K F H U x u)(ry:Ar K F H y w)(e:RE fs x y=some o) :
  ∃a o',u=.ref a/\Ju H a w o'/\((o=none/\o'=none)\/∃t v,o=some t/\o'=some v/\Ar K F H t v):=by
 have key:∀{a:Addr}{kvs:List (Key×V)}{ts:List T},Rd H a (.l kvs)->Ac K F H ts (kvs.map (·.2))->(Gm y).map (λk=>CD (kvs.map (·.1)) ts k)=some o ->
   ∃o',Ju H a w o'/\((o=none/\o'=none)\/∃t v,o=some t/\o'=some v/\Ar K F H t v):=by
  intro a kvs ts hd r e;rw[aA]at e;obtain⟨k,ek,eo⟩:=e;have:=C5 ek ry;subst this;refine⟨_,.inl ⟨kvs,k,hd,rfl,rfl⟩,?_⟩;rcases Hj (j:=k) r with⟨h1,h2⟩|⟨t,v,h1,h2,h3⟩
  .exact .inl ⟨eo.symm.trans h1,h2⟩
  .exact .inr ⟨t,v,eo.symm.trans h1,h2,h3⟩
 have Mn:∀{a:Addr}{kvs:List (List Key×V)}{ts ys:List T},H a=some (.dT kvs)->Ac K F H ts (kvs.map (·.2))->y=.tup ys->(Gp ys).map (λk=>CD (kvs.map (·.1)) ts k)=some o ->
   ∃o',Ju H a w o'/\((o=none/\o'=none)\/∃t v,o=some t/\o'=some v/\Ar K F H t v):=by
  intro a kvs ts ys hd r ey e;rw[aA]at e;obtain⟨k,ek,eo⟩:=e;subst ey;simp only[Ar]at ry;obtain⟨b,vs,rfl,hb,rb⟩:=ry;have:=D6 ek rb;subst this;refine⟨_,Ju.t hd hb.2.2,?_⟩;rcases Hj (j:=k) r with⟨h1,h2⟩|⟨t,v,h1,h2,h3⟩
  .exact .inl ⟨eo.symm.trans h1,h2⟩
  .exact .inr ⟨t,v,eo.symm.trans h1,h2,h3⟩
 unfold RE at e;split at e
 .simp only[BQ,Ar]at rx;obtain⟨a,kvs,rfl,f,hd,rfl,r⟩:=rx;obtain⟨o',h1,h2⟩:=key hd r e;exact⟨a,o',rfl,h1,h2⟩
 .simp only[BQ,Ar]at rx;obtain⟨a,kvs,rfl,f,⟨ob,hd⟩,rfl,r⟩:=rx;obtain⟨o',h1,h2⟩:=key (.inr ⟨ob,hd⟩) r e;exact⟨a,o',rfl,h1,h2⟩
 .simp only[BQ,Ar]at rx;obtain⟨a,kvs,rfl,f,hd,rfl,r⟩:=rx;obtain⟨o',h1,h2⟩:=Mn hd r rfl e;exact⟨a,o',rfl,h1,h2⟩
 .rename_i y' i;have e2:U[i]?=some (some u):=rx;split at e
  .rename_i eo;obtain⟨v,L2,e1,q,_⟩:=h.own eo;rw[e1]at e2;have e3:v=u:=by simpa using e2
   subst e3;simp only[Ap]at q;obtain⟨a,kvs,rfl,hd,rfl,r,_⟩:=q;obtain⟨o',h1,h2⟩:=key (.inl hd) r e;exact⟨a,o',rfl,h1,h2⟩
  .rename_i eo;split at e
   .obtain⟨v,L2,e1,q,_⟩:=h.own eo;rw[e1]at e2;have e3:v=u:=by simpa using e2
    subst e3;simp only[Ap]at q;obtain⟨a,kvs,rfl,hd,rfl,r,_⟩:=q;obtain⟨o',h1,h2⟩:=Mn hd r rfl e;exact⟨a,o',rfl,h1,h2⟩
   .cases e
  .cases e
 .cases e
end
noncomputable def J6:Rv->Rv->FS->Out Rv
 |x,.t y,fs=>match RE fs x y with|some (some t)=>okT t fs|_=>.bad
 |_,_,_=>.bad
noncomputable def TR(neg:Bool):Rv->Rv->FS->Out Rv
 |.t y,x,fs=>match RE fs x y with|some o=>okT (.o (if neg then !o.isSome else o.isSome)) fs|_=>.bad
 |_,_,_=>.bad
section
variable{X:Cx}{Z:Xp}{o i:Expr}{fo fi:FS->Out Rv}{pos:Pos}
end
noncomputable def EN:List Str->List T->Str->Option T
 |f::fs,t::ts,g=>if g==f then some t else EN fs ts g
 |_,_,_=>none
noncomputable def Bn:List Str->List FO->Str->Option FO
 |f::fs,t::ts,g=>if g==f then some t else Bn fs ts g
 |_,_,_=>none
noncomputable def WW(C:Addr)(f:Str):Rv->FS->Out Rv
 |.t (.ins C' fs ts),st=>if C'=C then match EN fs ts f with|some t=>okT t st|none=>.bad
  else .bad
 |.n i,st=>match AE st i with
  |some (.ins C' fs os)=>if C'=C then match Bn fs os f with|some (.val t)=>okT t st|_=>.bad
   else .bad
  |_=>.bad
 |_,_=>.bad
theorem Kq{K:Fg}{F:Wd}{H:Hp}{g:Str}:∀{kvs:List (Str×V)}{ts:List T}{t:T},Ac K F H ts (kvs.map (·.2))->EN (kvs.map (·.1)) ts g=some t->∃v,kvs.lookup g=some v/\Ar K F H t v
 | [],ts,t,r,e=>by cases ts<;>simp[EN]at e
 |(k,v)::kvs,ts,t,r,e=>by cases ts with|nil=>simp[EN]at e|cons t' ts =>simp only[aj,Ac]at r;obtain⟨v',w',ee,r1,r2⟩:=r;cases ee;simp only[aj,EN]at e;rw[br];cases hb:g==k with|true =>rw[hb]at e;cases e;exact⟨v,rfl,r1⟩|false =>rw[hb]at e;exact Kq r2 (by simpa using e)
theorem Ic{K:Fg}{F:Wd}{H:Hp}{g:Str}:∀{kvs:List (Str×V)}{ts:List FO}{L:List Addr}{t:FO},Aq K F H ts (kvs.map (·.2)) L->Bn (kvs.map (·.1)) ts g=some t->∃v L',kvs.lookup g=some v/\Ap K F H t v L'/\∀a∈L',a∈L
 | [],ts,L,t,r,e=>by cases ts<;>simp[Bn]at e
 |(k,v)::kvs,ts,L,t,r,e=>by cases ts with|nil=>simp[Bn]at e|cons t' ts =>simp only[aj,Aq]at r;obtain⟨v',w',L1,L2,ee,r1,r2,rfl⟩:=r;cases ee;simp only[aj,Bn]at e;rw[br];cases hb:g==k with|true =>rw[hb]at e;cases e;exact⟨v,L1,rfl,r1,λa m=>aB _ m⟩|false =>rw[hb]at e;obtain⟨v2,L',h1,h2,h3⟩:=Ic r2 (by simpa using e);exact⟨v2,L',h1,h2,λa m=>aC _ (h3 a m)⟩
noncomputable def DD(C:Addr)(f:Str)(fo:FS->Out Rv):FS->Out Rv:=λfs=>(fo fs).bnd λx fs=>WW C f x fs
section
variable{X:Cx}{Z:Xp}{o:Expr}{fo:FS->Out Rv}{pos:Pos}{C:Addr}{f:Str}
theorem Xu(c:Cls X.K C)(n:Bi X.K C f)(ho:FE X Z o fo)(hb:attributeBase o f X.env (eval o X.env)=eval o X.env:=by rfl):FE X Z (.Attribute o f pos) (DD C f fo):=by
 refine AI (KH ho hb) λU H Q hpt => ?_
 obtain⟨F,B,fs,ok,s⟩:= hpt;refine⟨F,B,fs,ok,Az s λx fs1 F1 H1 u l ok1 rx s1=>?_⟩;unfold WW at s1;split at s1
 .rename_i C' gs ts;split at s1
  .rename_i hC;subst hC;split at s1
   next t e=>simp only[BQ,Ar]at rx;obtain⟨a,dx,kvs,rfl,ff,hd,rfl,r⟩:=rx;obtain⟨v,e1,rv⟩:=Kq r e;exact⟨a,C',dx,kvs,v,rfl,hd,c,n,e1,s1 F1 H1 v Le.refl (RR.of ok1 rv)⟩
   .exact s1.elim
  .exact s1.elim
 .rename_i i;split at s1
  .rename_i C' gs os eo;split at s1
   .rename_i hC;subst hC;split at s1
    .rename_i t e;obtain⟨v,L2,e1,q,_⟩:=ok1.own eo;have e2:U[i]?=some (some u):=rx;rw[e1]at e2;have e3:v=u:=by simpa using e2
     subst e3;simp only[Ap]at q;obtain⟨a,dx,kvs,L',rfl,hd,rfl,r,_⟩:=q;obtain⟨v2,L3,e4,r4,_⟩:=Ic r e;simp only[Ap]at r4;exact⟨a,C',dx,kvs,v2,rfl,hd,c,n,e4,s1 F1 H1 v2 Le.refl (RR.of ok1 r4.2)⟩
    .exact s1.elim
   .exact s1.elim
  .exact s1.elim
 .exact s1.elim
end
def GJ(K:Fg)(Z:Xp)(B:Nat->Option V)(F:Wd)(H:Hp)(o:SO)(D:Ends):Prop:=match o with|.nx fs=>∀F' H' U,Le F H F' H'->Okk K F' B H' fs U->D.nx U H'|.ret r fs=>∀F' H' U u,Le F H F' H'->RR K B U F' H' fs r u->D.rt u H'|.brk fs=>∀F' H' U,Le F H F' H'->Okk K F' B H' fs U->D.bk U H'|.cnt fs=>∀F' H' U,Le F H F' H'->Okk K F' B H' fs U->D.ct U H'|.exc c fs=>Z.p F B H c fs|.bad=>False
def tSt(K:Fg)(Z:Xp)(g:FS->SO):TS:=λD U H=>∃F B fs,Okk K F B H fs U/\GJ K Z B F H (g fs) D
def GS(X:Cx)(Z:Xp)(st:Stmt)(g:FS->SO):Prop:=PS X st (tSt X.K Z g)
def GSs(X:Cx)(Z:Xp)(sts:List Stmt)(g:FS->SO):Prop:=PSs X sts (tSt X.K Z g)
theorem GJ.le{K:Fg}{Z:Xp}{B:Nat->Option V}{F F':Wd}{H H':Hp}{o:SO}{D:Ends}(h:GJ K Z B F H o D)(l:Le F H F' H'):GJ K Z B F' H' o D:=by
 cases o with
 |nx fs=>exact λF2 H2 U l2 k=>h F2 H2 U (l.trans l2) k
 |ret r fs=>exact λF2 H2 U u l2 k=>h F2 H2 U u (l.trans l2) k
 |brk fs=>exact λF2 H2 U l2 k=>h F2 H2 U (l.trans l2) k
 |cnt fs=>exact λF2 H2 U l2 k=>h F2 H2 U (l.trans l2) k
 |exc c fs=>exact Z.mono h l
 |bad=>exact h
noncomputable def nxS:FS->SO:=λfs=>.nx fs
noncomputable def Am(g h:FS->SO):FS->SO:=λfs=>match g fs with|.nx fs=>h fs|o=>o
noncomputable def SO.of{α:Type}(o:Out α)(k:α->FS->SO):SO:=match o with|.ok a fs=>k a fs|.exc c fs=>.exc c fs|.bad=>.bad
theorem Bz{K:Fg}{Z:Xp}{B:Nat->Option V}{F:Wd}{H:Hp}{α β:Type}{R:Wd->Hp->FS->α->β->Prop}{o:Out α}{k:α->FS->SO}{D:Ends}{Q:β->Hp->Prop}(h:GJ K Z B F H (SO.of o k) D)
  (hk:∀a fs F' H' b,Le F H F' H'->R F' H' fs a b->GJ K Z B F' H' (k a fs) D->Q b H'):sat Z B R F H o Q:=by
 cases o with
 |ok a fs=>exact λF2 H2 b l r=>hk a fs F2 H2 b l r (GJ.le h l)
 |exc c fs=>exact h
 |bad=>exact h
noncomputable def VF(i:Nat)(r:Rv)(fs:FS):Option FS:=match r with|.t t=>some (fs.set i (some (.val t)))|.nw o=>some (fs.set i (some (.own o)))|.n _=>none
noncomputable def JB(i:Nat)(r:Rv)(fs:FS):Option FS:=match fs[i]? with|none=>none|some (some (.bor _))=>none|some _=>VF i r fs
theorem JA{K:Fg}{B:Nat->Option V}{U:St}{F:Wd}{H:Hp}{fs fs':FS}{r:Rv}{u:V}{i:Nat}(h:RR K B U F H fs r u)(e:JB i r fs=some fs'):Okk K F B H fs' (U.set i (some u)):=by
 obtain⟨L,L',ok,q,nd,nf⟩:=h;have key:∀s:Option Sl,fs[i]?=some s->(∀o,s≠some (.bor o))->VF i r fs=some fs'->Okk K F B H fs' (U.set i (some u)):=by
  intro s es hb e;obtain⟨v,L1,L2,L3,e1,rfl,h1,h2⟩:=ok.sl.pick es;have dis:∀a∈L',a∉L1++L3:=λa m m2=>(ah.mp nd).2.2 a (by
   rcases av.mp m2 with m2|m2
   .simp[m2]
   .simp[m2]) a m rfl
  have nf3:∀a∈L1++(L'++L3),¬F a/\¬F.p a:=λa m=>by
   rcases av.mp m with m|m
   .exact⟨ok.nf a (by simp[m]),ok.pl a (by simp[m])⟩
   .rcases av.mp m with m|m
    .exact nf a m
    .exact⟨ok.nf a (by simp[m]),ok.pl a (by simp[m])⟩
  cases r with|t t =>cases e;obtain⟨rfl,q⟩:=q;refine⟨L1++([]++L3),h2 F H (some (.val t)) (some u) [] Le.refl (λ_ _=>rfl) ⟨u,rfl,q,rfl⟩,BO ok.nd aW (λ_ m=>nomatch m),λa m=>(nf3 a m).1,ok.fd,?_,ok.pd,ok.pf,λa m=>(nf3 a m).2⟩;exact EM.put ok.bo (λo eo=>by cases eo) ok.sl.len|nw o =>cases e;refine⟨L1++(L'++L3),h2 F H (some (.own o)) (some u) L' Le.refl (λ_ _=>rfl) ⟨u,rfl,q⟩,BO ok.nd (ah.mp nd).2.1 dis,λa m=>(nf3 a m).1,ok.fd,?_,ok.pd,ok.pf,λa m=>(nf3 a m).2⟩;exact EM.put ok.bo (λo eo=>by cases eo) ok.sl.len|n j=>cases e
 unfold JB at e;split at e
 .cases e
 .cases e
 next s hb es=>exact key s es (λo z=>hb o z) e
noncomputable def AK(i:Nat)(f:FS->Out Rv):FS->SO:=λfs=>SO.of (f fs) λr fs=>match JB i r fs with|some fs=>.nx fs|none=>.bad
noncomputable def AM(f:FS->Out Rv):FS->SO:=λfs=>SO.of (f fs) λ_ fs=>.nx fs
noncomputable def retS(f:FS->Out Rv):FS->SO:=λfs=>SO.of (f fs) λr fs=>.ret r fs
noncomputable def ifS(c:FS->Out Bool)(g h:FS->SO):FS->SO:=λfs=>SO.of (c fs) λb fs=>if b=true then g fs else h fs
section
variable{X:Cx}{Z:Xp}{st:Stmt}{rest a b:List Stmt}{e c:Expr}{f:FS->Out Rv}{fc:FS->Out Bool}{g h:FS->SO}{pos:Pos}
theorem TH:GSs X Z [] nxS:=MT Ss λD U H ⟨F,B,fs,ok,s⟩=>s F H U Le.refl ok
theorem PR(h1:GS X Z st g)(h2:GSs X Z rest h):GSs X Z (st::rest) (Am g h):=by
 refine MT (O5 h1 h2) λD U H hpt => ?_
 obtain⟨F,B,fs,ok,s⟩:= hpt;refine⟨F,B,fs,ok,?_⟩;unfold Am at s;cases e:g fs with
 |nx fs1 =>rw[e]at s;exact λF1 H1 σ1 l k=>⟨F1,B,fs1,k,GJ.le s l⟩
 |ret r fs1=>rw[e]at s;exact s
 |brk fs1=>rw[e]at s;exact s
 |cnt fs1=>rw[e]at s;exact s
 |exc c fs1=>rw[e]at s;exact s
 |bad=>rw[e]at s;exact s
theorem ED(h1:GS X Z st g):GSs X Z [st] g:=Sr h1
theorem J0(he:FE X Z e f)(hs:swapsWith e none pos.line X.env=pure false:=by rfl):GS X Z (.Expr e pos) (AM f) :=
 Cb (Su he hs) λD U H ⟨F,B,fs,ok,s⟩=>⟨F,B,fs,ok,Bz s λr fs1 F1 H1 u l q s1=>s1 F1 H1 U Le.refl q.ok⟩
theorem Rl(he:FE X Z e f):GS X Z (.Return (some e) pos) (retS f) :=
 Cb (VI he) λD U H ⟨F,B,fs,ok,s⟩=>⟨F,B,fs,ok,Bz s λr fs1 F1 H1 u l q s1=>s1 F1 H1 U u Le.refl q⟩
theorem WN(hc:FT X Z c fc)(ha:GSs X Z a g)(hb:GSs X Z b h):GS X Z (.If c a b pos) (ifS fc g h):=by
 refine Cb (ZE hc ha hb) λD U H hpt => ?_
 obtain⟨F,B,fs,ok,s⟩:= hpt;refine⟨F,B,fs,ok,Bz s λr fs1 F1 H1 u l q s1=>?_⟩;obtain⟨ok1,rfl⟩:=q;cases u with|true =>rw[if_pos rfl]at s1 ⊢;exact⟨F1,B,fs1,ok1,s1⟩|false =>rw[if_neg (by decide)]at s1 ⊢;exact⟨F1,B,fs1,ok1,s1⟩
theorem Vo{i:Nat}{D:Ends}{U:St}{H:Hp}{K:Fg}(s:tSt K Z (AK i f) D U H):Vi (tF K Z f) (P9 i) D U H:=by
 obtain⟨F,B,fs,ok,s⟩:=s;refine⟨F,B,fs,ok,Bz s λr fs1 F1 H1 u l q s1=>?_⟩;split at s1
 next fs2 e2=>exact s1 F1 H1 _ Le.refl (JA q e2)
 .exact s1.elim
theorem NM(i:Nat){x:Str}{pos':Pos}(hN:X.N.Nodup)(hx:Loc X.env.scope x)(he:FE X Z e f)(hi:X.N[i]?=some x:=by rfl)(hs:swapsWith e (some (.Name x pos')) pos.line X.env=pure false:=by rfl)(hf:X.fn x=true\/X.env.scope.names.lookup x=some .local:=by first|exact .inl rfl|exact .inr rfl|assumption) :
  GS X Z (.Assign [.Name x pos'] e pos) (AK i f) :=
 Cb (VH hN hi hx he hs hf) λ_ _ _ s=>Vo s
end
def tG(K:Fg)(gt:T->FS->Option FS):TG:=λv U H Q=>∃F B fs t,Okk K F B H fs U/\Ar K F H t v/\match gt t fs with|some fs'=>∀F' H' σ',Le F H F' H'->Okk K F' B H' fs' σ'->Q σ' H'|none=>False
noncomputable def tGs(K:Fg)(gt:List T->FS->Option FS):TGs:=λvs U H Q=>∃F B fs ts,Okk K F B H fs U/\Ac K F H ts vs/\match gt ts fs with|some fs'=>∀F' H' σ',Le F H F' H'->Okk K F' B H' fs' σ'->Q σ' H'|none=>False
def GT(X:Cx)(tg:Expr)(gt:T->FS->Option FS):Prop:=PG X tg (tG X.K gt)
def GTs(X:Cx)(tgs:List Expr)(gt:List T->FS->Option FS):Prop:=PGs X tgs (tGs X.K gt)
theorem MZ{X:Cx}{e:Expr}{t t':TG}(h:PG X e t)(i:∀v U H Q,t' v U H Q->t v U H Q):PG X e t':=λpins s U H v u Q I r q=>h pins s U H v u Q I r (i _ _ _ _ q)
theorem MY{X:Cx}{e:List Expr}{t t':TGs}(h:PGs X e t)(i:∀v U H Q,t' v U H Q->t v U H Q):PGs X e t':=λpins s U H v u Q I r q=>h pins s U H v u Q I r (i _ _ _ _ q)
noncomputable def tgN(i:Nat):T->FS->Option FS:=λt fs=>JB i (.t t) fs
noncomputable def Av:List T->FS->Option FS
 | [],fs=>some fs
 |_,_=>none
noncomputable def Ad(g:T->FS->Option FS)(h:List T->FS->Option FS):List T->FS->Option FS
 |t::ts,fs=>(g t fs).bind λfs=>h ts fs
 |_,_=>none
noncomputable def AA(n:Nat)(h:List T->FS->Option FS):T->FS->Option FS
 |.tup ts,fs=>if ts.length=n then h ts fs else none
 |_,_=>none
section
variable{X:Cx}{e:Expr}{es:List Expr}{g:T->FS->Option FS}{h:List T->FS->Option FS}{pos:Pos}
theorem A2(i:Nat){x:Str}(hN:X.N.Nodup)(hx:Loc X.env.scope x)(hi:X.N[i]?=some x:=by rfl)(hf:X.fn x=true\/X.env.scope.names.lookup x=some .local:=by first|exact .inl rfl|exact .inr rfl|assumption):GT X (.Name x pos) (tgN i):=by
 refine MZ (SG hN hi hx hf) λv U H Q hpt=>?_
 obtain⟨F,B,fs,t,ok,r,s⟩:= hpt;split at s
 next fs' e=>exact s F H _ Le.refl (JA (RR.of (r:=.t t) ok r) e)
 .exact s.elim
theorem TF:GTs X [] Av:=by
 refine MY SE λv U H Q hpt=>?_
 obtain⟨F,B,fs,ts,ok,r,s⟩:= hpt;cases ts with|nil=>exact⟨r,s F H U Le.refl ok⟩|cons t ts=>exact s.elim
theorem CH(h1:GT X e g)(h2:GTs X es h)
  (hc:∀{t:TG}{u:TGs},PG X e t->PGs X es u->PGs X (e::es) (WX t u)):GTs X (e::es) (Ad g h):=by
 refine MY (hc h1 h2) λv U H Q hpt=>?_
 obtain⟨F,B,fs,ts,ok,r,s⟩:= hpt;cases ts with
 |nil=>exact s.elim
 |cons t ts =>
  simp only[Ac]at r;obtain⟨v',w,rfl,r1,r2⟩:=r;refine⟨v',w,rfl,F,B,fs,t,ok,r1,?_⟩;simp only[Ad]at s;cases e1:g t fs with
  |none=>rw[e1]at s;exact s.elim
  |some fs1 =>
   rw[e1]at s;exact λF1 H1 σ1 l k=>⟨F1,B,fs1,ts,k,r2.le l,by
    simp only[bE]at s;split at s
    .exact λF2 H2 σ2 l2 k2=>s F2 H2 σ2 (l.trans l2) k2
    .exact s.elim⟩
theorem ES{k n:Nat}(hc:X.calm=true)(h1:GTs X es h)(hn:(assignEach es X.env).length=n:=by rfl)(hst:(assignEach es X.env).findIdx? (·.1)=none:=by rfl):GT X (.Tuple es k pos) (AA n h):=by
 refine MZ (VO hc h1 hn hst) λv U H Q hpt=>?_
 obtain⟨F,B,fs,t,ok,r,s⟩:= hpt;unfold AA at s;split at s
 .rename_i fs' e;split at e
  .rename_i ts;split at e
   next hl=>simp only[Ar]at r;obtain⟨a,vs,rfl,hs,r⟩:=r;refine⟨a,vs,rfl,hs.sq,by rw[r.len];exact hl,F,B,fs,ts,ok,r,?_⟩;rw[e];exact s
   .cases e
  .cases e
 .exact s.elim
end
noncomputable def HX(f:FS->Out Rv)(g:T->FS->Option FS):FS->SO:=λfs=>SO.of (f fs) λr fs=>match r with
 |.t t=>match g t fs with|some fs=>.nx fs|none=>.bad
 |_=>.bad
section
variable{X:Cx}{Z:Xp}{e tg:Expr}{f:FS->Out Rv}{g:T->FS->Option FS}{pos:Pos}
theorem WR(he:FE X Z e f)(hg:GT X tg g)(hs:swapsWithSole [tg] e pos.line X.env=pure false:=by rfl)(hw:swappedStores [tg] e X.env=pure none:=by rfl)
  (h1:(assignEach [tg] X.env).map (·.2)=[assign tg X.env]:=by rfl):GS X Z (.Assign [tg] e pos) (HX f g):=by
 refine Cb (Q4 he hg hs hw h1) λD U H hpt => ?_
 obtain⟨F,B,fs,ok,s⟩:= hpt;refine⟨F,B,fs,ok,Bz s λr fs1 F1 H1 u l q s1=>?_⟩;split at s1
 .rename_i t;obtain⟨L,L',o1,⟨_,q⟩,_⟩:=q;refine⟨F1,B,fs1,t,⟨L,o1⟩,q,?_⟩;split at s1
  next fs2 e2=>exact λF2 H2 σ2 l2 k2=>s1 F2 H2 σ2 l2 k2
  .exact s1.elim
 .exact s1.elim
end
def Nw(K:Fg)(F:Wd)(H:Hp)(F':Wd)(H':Hp):Prop:=Le F H F' H'/\∀B fs U,Okk K F B H fs U->Okk K F' B H' fs U
theorem Nw.refl{K:Fg}{F:Wd}{H:Hp}:Nw K F H F H:=⟨Le.refl,λ_ _ _ h=>h⟩
def JOk(K:Fg)(F:Wd)(H:Hp)(J:It)(ts:List T):Prop:=∀(F':Wd)(H':Hp),(∀a,F a->F' a/\H' a=H a)->(∃B fs U,Okk K F' B H' fs U)->∀i,(∀t,ts[i]?=some t->J.go i H'/\∀x H'',J.yW i H' x H''->∃F'',Nw K F' H' F'' H''/\Ar K F'' H'' t x)/\(ts.length<=i->J.stop i H')
theorem JOk.within{K:Fg}{F:Wd}{p:Addr->Prop}{H:Hp}{J:It}{ts:List T}(h:JOk K F H J ts):JOk K ⟨F.f,p⟩ H J ts:=λF2 H2 l2=>h F2 H2 l2
theorem Ac.lf{K:Fg}{F F':Wd}{H H':Hp}{ts:List T}{vs:List V}(l:∀a,F a->F' a/\H' a=H a)(r:Ac K F H ts vs):Ac K F' H' ts vs :=
 Ac.le (F:=⟨F.f,λ_=>False⟩) ⟨l,λ_ z=>z.elim⟩ (Ac.wp r)
theorem StL.lf{K:Fg}{F F':Wd}{H H':Hp}{a:Addr}{vs:List V}(l:∀a,F a->F' a/\H' a=H a)(r:StL K F H a vs):StL K F' H' a vs:=by
 rcases r with⟨f,h⟩|h
 .exact .inl ⟨(l a f).1,FL.Rd.same h (l a f).2⟩
 .exact .inr h
theorem stays{K:Fg}{F:Wd}{H H':Hp}{t:T}{x:V}(e:H'=H)(r:Ar K F H t x):∃F',Nw K F H F' H'/\Ar K F' H' t x:=by subst e;exact⟨F,Nw.refl,r⟩
def RJ(K:Fg)(B:Nat->Option V)(U:St):Wd->Hp->FS->List T->It->Prop:=λF H fs ts J=>Okk K F B H fs U/\JOk K F H J ts
def tI(K:Fg)(Z:Xp)(f:FS->Out (List T)):TI:=λU H R=>∃F B fs,Okk K F B H fs U/\sat Z B (RJ K B U) F H (f fs) R
def FI(X:Cx)(Z:Xp)(tg iter:Expr)(f:FS->Out (List T)):Prop:=PI X tg iter (tI X.K Z f)
theorem Iv{X:Cx}{tg e:Expr}{t t':TI}(h:PI X tg e t)(i:∀U H Q,t' U H Q->t U H Q):PI X tg e t':=λpins s U H Q I q=>h pins s U H Q I (i _ _ _ q)
noncomputable def signs(z:Str):List T:=z.cps.toList.map λc=>T.str ⟨#[c]⟩
noncomputable def upTo(lo:Int)(n:Nat):List T:=(List.range n).map λi=>T.int (lo+(i:Nat))
noncomputable def Mo(f:FS->Out (List Rv)):FS->Out (List T):=λfs=>(f fs).bind λrs fs=>match rs with| [.t (.int j)]=>if -(2^62)<=j/\j<2^62 then .ok (upTo 0 j.toNat) fs else .bad|_=>.bad
section
variable{X:Cx}{Z:Xp}{tg l a b c:Expr}{f:FS->Out Rv}{fa:FS->Out (List Rv)}{p pos:Pos}{K:Fg}{F:Wd}{H:Hp}
theorem KS{a:Addr}{vs:List V}{ts:List T}(hs:∀(F':Wd) H',(∀a,F a->F' a/\H' a=H a)->SqL K H' a vs)(r:Ac K F H ts vs):JOk K F H (Itl K a) ts:=by intro F' H' l _ i;have r':=Ac.lf l r;refine⟨λt et=>?_,λhl=>⟨vs,hs F' H' l,by rw[r.len];exact hl⟩⟩;obtain⟨v,ev,rv⟩:=r'.at et;refine⟨⟨vs,v,hs F' H' l,ev⟩,λx H'' hy=>stays hy.1 ?_⟩;have:=hy.2 vs (hs F' H' l);rw[ev]at this;cases this;exact rv
theorem Ts{a:Addr}{vs:List V}{ts:List T}(hs:∀(F':Wd) H',(∀a,F a->F' a/\H' a=H a)->SqT K H' a vs)(r:Ac K F H ts vs):JOk K F H (Itt K a) ts:=by intro F' H' l _ i;have r':=Ac.lf l r;refine⟨λt et=>?_,λhl=>⟨vs,hs F' H' l,by rw[r.len];exact hl⟩⟩;obtain⟨v,ev,rv⟩:=r'.at et;refine⟨⟨vs,v,hs F' H' l,ev⟩,λx H'' hy=>stays hy.1 ?_⟩;have:=hy.2 vs (hs F' H' l);rw[ev]at this;cases this;exact rv
theorem Nz{lo:Int}{n:Nat}:JOk K F H (Itr lo n) (upTo lo n):=by
 intro F' H' l _ i;refine⟨λt et=>?_,λhl=>by unfold upTo at hl;simpa[Itr]using hl⟩;unfold upTo at et;rw[aP]at et;have hi:i<n:=by
  by_cases h:i<n
  .exact h
  .rw[cA (by simpa using h)]at et;cases et
 rw[List.getElem?_range hi]at et;cases et;exact⟨hi,λx H'' hy=>stays hy.1 hy.2⟩
theorem Tt{z:Str}:JOk K F H (Its z) (signs z):=by
 intro F' H' l _ i;refine⟨λt et=>?_,λhl=>by unfold signs at hl;simpa[Its]using hl⟩;unfold signs at et;rw[aP,aA]at et;obtain⟨c,ec,rfl⟩:=et;have hi:i<z.cps.size:=by have:=(ak.mp ec).1;simpa using this
 refine⟨hi,λx H'' hy=>stays hy.1 ?_⟩;obtain⟨c',e1,e2⟩:=hy.2;rw[Array.getElem?_toList]at ec;rw[ec]at e1;cases e1;exact e2
theorem NZ(hm:X.mg "range"=none)(ha:FA X Z [a] fa)(hg:Gl X "range":=by rfl)(hs:starEach [a] X.env=[(false,eval a X.env)]:=by rfl):FI X Z tg (.Call (.Name "range" p) [a] [] pos) (Mo fa):=by
 refine Iv (MX hg hm ha hs) λU H Q hpt => ?_
 obtain⟨F,B,fs,ok,s⟩:= hpt;refine⟨F,B,fs,ok,Ay s λrs fs1 F1 H1 us l q s1=>?_⟩;obtain⟨ok1,q⟩:=q;split at s1
 .rename_i j;split at s1
  next hj=>obtain⟨v,rfl,qq⟩:=Bm q;have q:=qq;cases q;exact⟨j,rfl,hj.1,hj.2,s1 F1 H1 _ Le.refl ⟨ok1,Nz⟩⟩
  .exact s1.elim
 .exact s1.elim
end
noncomputable def GX(gt:T->FS->Option FS)(body:FS->SO):List T->FS->SO
 | [],fs=>.nx fs
 |t::ts,fs=>match gt t fs with|none=>.bad|some fs=>match body fs with|.nx fs=>GX gt body ts fs|.cnt fs=>GX gt body ts fs|.brk fs=>.nx fs|o=>o
noncomputable def Dk(src:FS->Out (List T))(gt:T->FS->Option FS)(body:FS->SO):FS->SO:=λfs=>SO.of (src fs) λts fs=>GX gt body ts fs
section
variable{X:Cx}{Z:Xp}{tg iter c:Expr}{src:FS->Out (List T)}{gt:T->FS->Option FS}{g:FS->SO}{body:List Stmt}{pos:Pos}{fc:FS->Out Bool}
theorem WO(hp:PassesOwn (model X.prog X.w) X.A X.env X.xe)(hc:X.calm=true)(hi:FI X Z tg iter src)(hg:GT X tg gt)(hb:GSs X Z body g)
  (hs:∀x,foldedSetIterable iter X.env x=pure x:=by intro _;rfl):GS X Z (.For tg iter body [] pos) (Dk src gt g):=by
 refine Cb (VJ hp hc hi hg hb hs) λD U H hpt => ?_
 obtain⟨F,B,fs,ok,s⟩:= hpt;refine⟨F,B,fs,ok,Bz s λts fs1 F1 H1 J l q s1=>?_⟩;obtain⟨ok1,jk⟩:=q;refine⟨λi m U H=>m=ts.length-i/\∃F' fs',Le F1 H1 F' H/\Okk X.K F' B H fs' U/\GJ X.K Z B F' H (GX gt g (ts.drop i) fs') D,⟨ts.length,rfl,F1,fs1,Le.refl,ok1,s1⟩,?_⟩
 rintro i m U H ⟨rfl,F2,fs2,l2,ok2,s2⟩
 by_cases hi:i<ts.length
 .refine .inr ?_;have ei:ts[i]?=some ts[i]:=ag hi;have ed:ts.drop i=ts[i]::ts.drop (i+1):=cL hi;rw[ed]at s2;obtain⟨j1,j2⟩:=(jk F2 H l2.f ⟨_,_,_,ok2⟩ i).1 _ ei;refine⟨j1,λσ' H'=>∃F' fs',Le F1 H1 F' H'/\Okk X.K F' B H' fs' σ'/\GJ X.K Z B F' H' (GX gt g (ts.drop (i+1)) fs') D,λσ' H' h=>⟨ts.length-(i+1),by lia,rfl,h⟩,λx H' hy=>?_⟩;obtain⟨F2',⟨l22,nw⟩,rx⟩:=j2 x H' hy;replace l2:=l2.trans l22;replace s2:=GJ.le s2 l22;replace ok2:=nw _ _ _ ok2;refine⟨F2',B,fs2,ts[i],ok2,rx,?_⟩;simp only[GX]at s2;cases eg:gt ts[i] fs2 with
  |none=>rw[eg]at s2;exact s2.elim
  |some fs3 =>
   rw[eg]at s2;intro F3 H3 σ3 l3 ok3;refine⟨F3,B,fs3,ok3,?_⟩;have s3:=GJ.le s2 l3;simp only at s3;cases eb:g fs3 with
   |nx fs4 =>rw[eb]at s3;exact λF4 H4 σ4 l4 ok4=>⟨F4,fs4,(l2.trans l3).trans l4,ok4,GJ.le s3 l4⟩
   |cnt fs4 =>rw[eb]at s3;exact λF4 H4 σ4 l4 ok4=>⟨F4,fs4,(l2.trans l3).trans l4,ok4,GJ.le s3 l4⟩
   |brk fs4=>rw[eb]at s3;exact s3
   |ret r fs4=>rw[eb]at s3;exact s3
   |exc c fs4=>rw[eb]at s3;exact s3
   |bad=>rw[eb]at s3;exact s3
 .refine .inl ⟨(jk F2 H l2.f ⟨_,_,_,ok2⟩ i).2 (by lia),?_⟩;rw[cU (by lia)]at s2;exact s2 F2 H U Le.refl ok2
end
section
variable{K:Fg}{F F':Wd}{H H':Hp}{B:Nat->Option V}{fs:FS}{U:St}{L:List Addr}
theorem Ao.toP:∀{fs:FS}{U:St}{L:List Addr},Ao K F H fs U L->∃ℓ:Nat->List Addr,(∀i s,fs[i]?=some s->∃v,U[i]?=some v/\Kn K F H s v (ℓ i))/\(∀i a,a∈ℓ i->a∈L) /\
  (L.Nodup->(∀i,(ℓ i).Nodup)/\∀i j a,i≠j->a∈ℓ i->a∉ℓ j)/\∀i,fs.length<=i->ℓ i=[]
 | [],U,L,h=>⟨λ_=>[],(λi s e=>by simp at e),(λi a m=>nomatch m),(λ_=>⟨λ_=>aW,(λ_ _ _ _ m=>nomatch m)⟩),λ_ _=>rfl⟩
 |s::r,U,L,h=>by
  obtain⟨v,σ',L1,L2,rfl,h1,h2,rfl⟩:=h.GG;obtain⟨ℓ,q1,q2,q3,q4⟩:=Ao.toP h2;refine⟨λi=>match i with|0=>L1|i+1=>ℓ i,λi s' e=>?_,λi a m=>?_,λnd=>?_,λi hi=>?_⟩
  .cases i with|zero =>simp at e;subst e;exact⟨v,rfl,h1⟩|succ i =>obtain⟨w,e1,e2⟩:=q1 i s' (by simpa using e);exact⟨w,by simpa using e1,e2⟩
  .cases i with|zero=>exact aB _ m|succ i=>exact aC _ (q2 i a m)
  .rw[ah]at nd;obtain⟨n1,n2,n3⟩:=nd;obtain⟨m1,m2⟩:=q3 n2;refine⟨λi=>?_,λi j a hij hi hj=>?_⟩
   .cases i with|zero=>exact n1|succ i=>exact m1 i
   .cases i with
    |zero =>cases j with|zero=>exact hij rfl|succ j=>exact n3 a hi a (q2 j a hj) rfl
    |succ i =>cases j with|zero=>exact n3 a hj a (q2 i a hi) rfl|succ j=>exact m2 i j a (λe=>hij (by rw[e])) hi hj
  .cases i with|zero=>simp at hi|succ i=>exact q4 i (by simpa using hi)
theorem Ao.ofP:∀{fs:FS}{U:St}(ℓ:Nat->List Addr),U.length=fs.length->(∀i s,fs[i]?=some s->∃v,U[i]?=some v/\Kn K F H s v (ℓ i))->(∀i,(ℓ i).Nodup)->(∀i j a,i≠j->a∈ℓ i->a∉ℓ j) ->
  ∃L,Ao K F H fs U L/\L.Nodup/\∀a∈L,∃i,i<fs.length/\a∈ℓ i
 | [],U,ℓ,hl,h,nd,dj=>by have:U=[]:=bS (by simpa using hl);subst this;exact⟨[],⟨rfl,rfl⟩,aW,λ_ m=>nomatch m⟩
 |s::r,[],ℓ,hl,h,nd,dj=>by simp at hl
 |s::r,v::U,ℓ,hl,h,nd,dj=>by
  obtain⟨L,h1,h2,h3⟩:=Ao.ofP (fs:=r) (U:=U) (λi=>ℓ (i+1)) (by simpa using hl) (λi s' e=>by obtain⟨w,e1,e2⟩:=h (i+1) s' (by simpa using e);exact⟨w,by simpa using e1,e2⟩) (λi=>nd (i+1)) (λi j a hij=>dj (i+1) (j+1) a (by lia));obtain⟨w,e1,e2⟩:=h 0 s rfl;simp at e1;subst e1;refine⟨ℓ 0++L,Ao.cons e2 h1,?_,λa m=>?_⟩
  .rw[ah];refine⟨nd 0,h2,λa ha b hb e=>?_⟩;obtain⟨i,_,hi⟩:=h3 b hb;exact dj 0 (i+1) a (by lia) ha (by rw[e];exact hi)
  .rcases av.mp m with m|m
   .exact⟨0,by simp,m⟩
   .obtain⟨i,hi,q⟩:=h3 a m;exact⟨i+1,by simp;exact hi,q⟩
theorem Ok.take(h:Ok K F B H fs U L)(n:Nat):∃L',Ok K F B H (fs.take n) (U.take n) L'/\∀a∈L',a∈L:=by
 obtain⟨ℓ,q1,q2,q3,q4⟩:=h.sl.toP;obtain⟨n1,n2⟩:=q3 h.nd;have hl:(U.take n).length=(fs.take n).length:=by rw[bt,bt,h.sl.len]
 obtain⟨L',p1,p2,p3⟩:=Ao.ofP (K:=K) (F:=F) (H:=H) (fs:=fs.take n) (U:=U.take n) ℓ hl (λi s e=>by
  have hi:i<n:=by
   have:=(ak.mp e).1;rw[bt]at this
   lia
  rw[cN hi]at e ⊢;exact q1 i s e) n1 n2
 have sub:∀a∈L',a∈L:=λa m=>let⟨i,_,q⟩:=p3 a m;q2 i a q
 refine⟨L',⟨p1,p2,λa m=>h.nf a (sub a m),h.fd,λi o e=>?_,h.pd,h.pf,λa m=>h.pl a (sub a m)⟩,sub⟩;have hi:i<n:=by
  have:=(ak.mp e).1;rw[bt]at this
  lia
 rw[cN hi]at e ⊢;exact h.bo i o e
theorem RR.take{r:Rv}{u:V}(h:RR K B U F H fs r u)(n:Nat)(hr:∀i,r≠.n i):RR K B (U.take n) F H (fs.take n) r u:=by
 obtain⟨L,L',ok,q,nd,nf⟩:=h;obtain⟨L2,ok2,sub⟩:=ok.take n;refine⟨L2,L',ok2,?_,?_,nf⟩
 .cases r with|t t=>exact q|nw o=>exact q|n i=>exact(hr i rfl).elim
 .rw[ah]at nd ⊢;exact⟨ok2.nd,nd.2.1,λa ha b hb=>nd.2.2 a (sub a ha) b hb⟩
theorem Ok.more(h:Ok K F B H fs U L)(n:Nat):Ok K F B H (fs++List.replicate n none) (U++List.replicate n none) L:=by
 have key:∀n:Nat,Ao K F H (List.replicate n none) (List.replicate n none) []:=by
  intro n
  induction n with|zero=>exact⟨rfl,rfl⟩|succ n ih =>rw[List.replicate_succ,List.replicate_succ];simp only[Ao];exact⟨none,_,rfl,ih⟩
 have app:∀{fs gs:FS}{U τ:St}{L M:List Addr},Ao K F H fs U L->Ao K F H gs τ M->Ao K F H (fs++gs) (U++τ) (L++M):=by
  intro fs
  induction fs with|nil =>intro gs U τ L M h1 h2;simp only[Ao]at h1;obtain⟨rfl,rfl⟩:=h1;exact h2|cons s r ih =>intro gs U τ L M h1 h2;obtain⟨v,σ',L1,L2,rfl,q1,q2,rfl⟩:=h1.GG;have:=Ao.cons q1 (ih q2 h2);simpa using this
 refine⟨by simpa using app h.sl (key n),h.nd,h.nf,h.fd,λi o e=>?_,h.pd,h.pf,h.pl⟩;by_cases hi:i<fs.length
 .rw[b4 hi]at e;obtain⟨v,e1,e2⟩:=h.bo i o e;exact⟨v,by rw[b4 (by rw[h.sl.len];exact hi)];exact e1,e2⟩
 .rw[bJ (by lia)]at e;have:=bq e;simp at this
theorem RR.mv{u:V}{i:Nat}{o:FO}(q:RR K B U F H fs (.n i) u)(es:fs[i]?=some (some (.own o))):RR K B U F H (fs.set i none) (.nw o) u:=by
 obtain⟨L,L',o1,⟨_,q⟩,nd,nf⟩:=q;obtain⟨v,L1,L2,L3,e1,rfl,h1,h2⟩:=o1.sl.pick es;obtain⟨w,rfl,q2⟩:=h1;rw[e1]at q;have eu:w=u:=by simpa using q
 subst eu;have h3:=h2 F H none (some w) [] Le.refl (λ_ _=>rfl) rfl;rw[A6 e1]at h3;have nd1:=o1.nd;refine⟨L1++([]++L3),L2,⟨h3,BO nd1 aW (λ_ m=>nomatch m),λa m=>o1.nf a ?_,o1.fd,?_,o1.pd,o1.pf,λa m=>o1.pl a ?_⟩,q2,?_,λa m=>⟨o1.nf a (by simp[m]),o1.pl a (by simp[m])⟩⟩
 .have m':a∈L1\/a∈L3:=by simpa using m
  rcases m' with m|m<;>simp[m]
 .have:=EM.put (i:=i) (s:=none) (v:=some w) o1.bo (λo eo=>by cases eo) o1.sl.len;rwa[A6 e1]at this
 .have m':a∈L1\/a∈L3:=by simpa using m
  rcases m' with m|m<;>simp[m]
 .have p:(L1++(L2++L3)).Perm ((L1++([]++L3))++L2):=by rw[bN,bu];exact List.Perm.append_left _ List.perm_append_comm
  exact p.nodup_iff.mp nd1
end
inductive Ini where
 |no|val (t:T)|slot (j:Nat)|new (o:FO)
noncomputable def ZY(fs:FS):Ini->Option Sl
 |.no=>none
 |.val t=>some (.val t)
 |.new o=>some (.bor o)
 |.slot j=>match fs[j]? with|some (some (.val t))=>some (.val t)|some (some (.own o))=>some (.bor o)|some (some (.bor o))=>some (.bor o)|_=>none
noncomputable def Ce(fs:FS)(is:List Ini):FS:=is.map (ZY fs)
noncomputable def Cp(fs:FS):Ini->Option Nat
 |.slot j=>if(AE fs j).isSome=true then some j else none
 |_=>none
noncomputable def Dj(fs:FS)(is:List Ini):List Nat:=is.filterMap (Cp fs)
noncomputable def placeOf(fs:FS)(j:Nat):List Ini->Nat->Option Nat
 | [],_=>none
 |i::r,k=>if Cp fs i=some j then some k else placeOf fs j r (k+1)
noncomputable def Ox(fs:FS)(is:List Ini)(τ:FS)(j:Nat)(s:Option Sl):Option (Option Sl):=match placeOf fs j is 0 with|none=>some s|some k=>match τ[k]?,s with|some (some (.bor o)),some s=>some (some (s.put o))|_,_=>none
noncomputable def Kj(fs:FS)(is:List Ini)(τ:FS):Nat->FS->Option FS
 |_,[]=>some []
 |j,s::r=>match Ox fs is τ j s,Kj fs is τ (j+1) r with|some s',some r'=>some (s'::r')|_,_=>none
noncomputable def D1(is:List Ini)(τ fs:FS):Option FS:=Kj fs is τ 0 fs
theorem placeOf_some{fs:FS}{j:Nat}:∀{is:List Ini}{k k':Nat},placeOf fs j is k=some k'->k<=k'/\∃i,is[k'-k]?=some i/\Cp fs i=some j
 | [],_,_,e=>by simp[placeOf]at e
 |i::r,k,k',e=>by
  simp only[placeOf]at e;split at e
  next h=>cases e;exact⟨aJ _,i,by simp,h⟩
  .obtain⟨h1,i',h2,h3⟩:=placeOf_some e;refine⟨by lia,i',?_,h3⟩;rw[show k'-k=(k'-(k+1))+1 by lia];simpa using h2
theorem placeOf_none{fs:FS}{j:Nat}:∀{is:List Ini}{k:Nat},placeOf fs j is k=none->j∉Dj fs is
 | [],_,_,h=>by simp[Dj]at h
 |i::r,k,e,h=>by
  simp only[placeOf]at e;split at e
  .cases e
  .rename_i hn;unfold Dj at h;rw[cm]at h;cases q:Cp fs i with
   |none =>rw[q]at h;exact placeOf_none e h
   |some j' =>
    rw[q]at h;rcases aH.mp h with h|h
    .exact hn (by rw[q,h])
    .exact placeOf_none e h
theorem IJ{fs:FS}:∀{is:List Ini}{k k':Nat}{i i':Ini}{j:Nat},(Dj fs is).Nodup->is[k]?=some i->is[k']?=some i'->Cp fs i=some j->Cp fs i'=some j->k=k'
 | [],_,_,_,_,_,_,e,_,_,_=>by simp at e
 |i0::r,k,k',i,i',j,nd,e,e',h,h'=>by
  have mem:∀{m:Nat}{x:Ini},r[m]?=some x->Cp fs x=some j->j∈Dj fs r:=λhm hx=>cI.mpr ⟨_,bq hm,hx⟩
  unfold Dj at nd;rw[cm]at nd;cases k with
  |zero =>simp at e;subst e;rw[h]at nd;have nd':(j::Dj fs r).Nodup:=nd;cases k' with|zero=>rfl|succ k'=>exact((bh.mp nd').1 (mem (by simpa using e') h')).elim
  |succ k =>
   cases k' with
   |zero =>simp at e';subst e';rw[h']at nd;have nd':(j::Dj fs r).Nodup:=nd;exact((bh.mp nd').1 (mem (by simpa using e) h)).elim
   |succ k' =>
    have nd':(Dj fs r).Nodup:=by cases q:Cp fs i0 with|none=>rw[q]at nd;exact nd|some j'=>rw[q]at nd;exact(bh.mp nd).2
    exact congrArg (·+1) (IJ (k:=k) (k':=k') nd' (by simpa using e) (by simpa using e') h h')
theorem Lh{fs:FS}{is:List Ini}{τ:FS}:∀{r r':FS}{j:Nat},Kj fs is τ j r=some r'->r'.length=r.length/\∀i s,r[i]?=some s->∃s',r'[i]?=some s'/\Ox fs is τ (j+i) s=some s'
 | [],_,_,e=>by simp only[Kj]at e;cases e;exact⟨rfl,λi s q=>by simp at q⟩
 |s::r,_,j,e=>by
  simp only[Kj]at e;split at e
  next s' r' h1 h2=>cases e;obtain⟨q1,q2⟩:=Lh h2;refine⟨by simp[q1],λi s0 q=>?_⟩;cases i with|zero =>simp at q;subst q;exact⟨s',rfl,h1⟩|succ i =>obtain⟨s1,e1,e2⟩:=q2 i s0 (by simpa using q);exact⟨s1,by simpa using e1,by rw[show j+(i+1)=j+1+i by lia];exact e2⟩
  .cases e
def UE(K:Fg)(F:Wd)(H:Hp)(U:St)(i:Ini)(v:Option V)(M:List Addr):Prop:=match i with|.no=>True|.val t=>∃u,v=some u/\Ar K F H t u|.slot j=>U[j]?=some v|.new o=>∃u,v=some u/\Ap K F H o u M
structure Mu(F:Wd)(H:Hp)(L:List Addr)(μ:Nat->List Addr):Prop where
 out:∀k a,a∈μ k->¬F a/\¬F.p a/\a∉L/\H a≠none
 nd:∀k,(μ k).Nodup
 dj:∀k k' a,k≠k'->a∈μ k->a∉μ k'
theorem Mu.no{F:Wd}{H:Hp}{L:List Addr}:Mu F H L (λ_=>[]):=⟨(λ_ _ m=>nomatch m),λ_=>aW,(λ_ _ _ _ m=>nomatch m)⟩
theorem lend{K:Fg}{F:Wd}{H:Hp}{B:Nat->Option V}{fs:FS}{U σi:St}{is:List Ini}{L:List Addr}{μ:Nat->List Addr}(ok:Ok K F B H fs U L)(hl:σi.length=is.length)(hi:∀(k:Nat)(i:Ini)(v:Option V),is[k]?=some i->σi[k]?=some v->UE K F H U i v (μ k))(nd:(Dj fs is).Nodup)(hμ:Mu F H L μ) :
  ∃P:Addr->Prop,(∀a,F.p a->P a)/\Okk K ⟨F.f,P⟩ (λk=>(σi[k]?).join) H (Ce fs is) σi/\(∀a,P a->H a≠none) /\
   ∀(F2:Wd)(H2:Hp)(τ:FS)(σ2:St)(Li:List Addr)(fs':FS),Le ⟨F.f,P⟩ H F2 H2->Ok K F2 (λk=>(σi[k]?).join) H2 τ σ2 Li->D1 is τ fs=some fs' ->
    Le F H ⟨F2.f,F.p⟩ H2/\∃L,Ok K ⟨F2.f,F.p⟩ B H2 fs' U L/\∀a∈L,a∈Li\/P a:=by
 obtain⟨ℓ,q1,q2,q3,q4⟩:=ok.sl.toP;obtain⟨n1,n2⟩:=q3 ok.nd;have objSl:∀j,(AE fs j).isSome=true->∃o s,AE fs j=some o/\fs[j]?=some (some s)/\(s=.own o\/s=.bor o):=by
  intro j hj;unfold AE at hj ⊢;split at hj
  next o es=>exact⟨o,_,rfl,es,.inl rfl⟩
  next o es=>exact⟨o,_,rfl,es,.inr rfl⟩
  .cases hj
 refine⟨λa=>F.p a\/∃j,a∈ℓ j/\j∉Dj fs is,λa p=>.inl p,?_,λa p=>?_,?_⟩
 .
  obtain⟨L',p1,p2,p3⟩:=Ao.ofP (K:=K) (F:=⟨F.f,λa=>F.p a\/∃j,a∈ℓ j/\j∉Dj fs is⟩) (H:=H) (fs:=Ce fs is) (U:=σi) (λk=>match is[k]? with|some i=>(match Cp fs i with|some j=>ℓ j|none=>(match i with|.new _=>μ k|_=>[]))|none=>[]) (by unfold Ce;rw[ar];exact hl)
   (λk s e=>by
    unfold Ce at e;rw[aP,aA]at e;obtain⟨i,ei,rfl⟩:=e;have hk:k<σi.length:=by rw[hl];exact(ak.mp ei).1
    refine⟨σi[k],ag hk,?_⟩;have io:=hi k i _ ei (ag hk);simp only[ei];have lw:∀(t:T)(u:V),Ar K F H t u->Ar K ⟨F.f,λa=>F.p a\/∃j,a∈ℓ j/\j∉Dj fs is⟩ H t u:=λt u r=>Ar.wp r
    cases i with
    |no=>rfl
    |val t =>obtain⟨u,eu,r⟩:=io;exact⟨u,eu,lw t u r,rfl⟩
    |new o =>obtain⟨u,eu,r⟩:=io;exact⟨u,eu,Ap.wp r⟩
    |slot j =>
     have ej:U[j]?=some σi[k]:=io;simp only[ZY,Cp];cases es:fs[j]? with
     |none =>
      have:AE fs j=none:=by unfold AE;rw[es]
      rw[this];rfl
     |some s =>
      obtain⟨v,e1,e2⟩:=q1 j s es;rw[ej]at e1;cases e1;cases s with
      |none =>
       have:AE fs j=none:=by unfold AE;rw[es]
       rw[this];rfl
      |some s =>
       cases s with
       |val t =>
        have:AE fs j=none:=by unfold AE;rw[es]
        rw[this];obtain⟨u,eu,r,_⟩:=e2;exact⟨u,eu,lw t u r,rfl⟩
       |own o =>
        have:AE fs j=some o:=by unfold AE;rw[es]
        rw[this];obtain⟨u,eu,r⟩:=e2;exact⟨u,eu,Ap.wp r⟩
       |bor o =>
        have:AE fs j=some o:=by unfold AE;rw[es]
        rw[this];obtain⟨u,eu,r⟩:=e2;exact⟨u,eu,Ap.wp r⟩)
   (λk=>by
    try dsimp only
    split
    .split
     .exact n1 _
     .split
      .exact hμ.nd _
      .exact aW
    .exact aW)
   (λk k' a hk ha hb=>by
    try dsimp only at ha hb
    split at ha
    .rename_i i ei;split at ha
     .rename_i j ej;split at hb
      .rename_i i' ei';split at hb
       .rename_i j' ej';by_cases e:j=j'
        .subst e;exact hk (IJ nd ei ei' ej ej')
        .exact n2 j j' a e ha hb
       .split at hb
        .exact(hμ.out _ a hb).2.2.1 (q2 j a ha)
        .cases hb
      .cases hb
     .split at ha
      .split at hb
       .split at hb
        next j' ej'=>exact(hμ.out _ a ha).2.2.1 (q2 j' a hb)
        .split at hb
         .exact hμ.dj k k' a hk ha hb
         .cases hb
       .cases hb
      .cases ha
    .cases ha)
  have mem:∀a∈L',(∃j,j∈Dj fs is/\a∈ℓ j)\/∃k,a∈μ k:=λa m=>by
   obtain⟨k,_,q⟩:=p3 a m
   try dsimp only at q
   split at q
   .rename_i i ei;split at q
    next j ej=>exact .inl ⟨j,cI.mpr ⟨i,bq ei,ej⟩,q⟩
    .split at q
     .exact .inr ⟨k,q⟩
     .cases q
   .cases q
  refine⟨L',p1,p2,λa m=>?_,ok.fd,λk o e=>?_,λa p=>?_,λa f p=>?_,λa m p=>?_⟩
  .rcases mem a m with⟨j,_,q⟩|⟨k,q⟩
   .exact ok.nf a (q2 j a q)
   .exact(hμ.out k a q).1
  .unfold Ce at e;rw[aP,aA]at e;obtain⟨i,ei,e⟩:=e;have hk:k<σi.length:=by rw[hl];exact(ak.mp ei).1
   cases i with
   |no=>cases e
   |val t=>cases e
   |new o' =>obtain⟨u,eu,_⟩:=hi k _ _ ei (ag hk);exact⟨u,by rw[ag hk,eu],by show(σi[k]?).join=some u;rw[ag hk,eu];rfl⟩
   |slot j =>
    have ej:U[j]?=some σi[k]:=hi k _ _ ei (ag hk);simp only[ZY]at e;have:∃o s,fs[j]?=some (some s)/\(s=.own o\/s=.bor o):=by
     split at e
     .cases e
     next o' es=>exact⟨o',_,es,.inl rfl⟩
     next o' es=>exact⟨o',_,es,.inr rfl⟩
     .cases e
    obtain⟨o',s,es,hs⟩:=this;obtain⟨v,e1,e2⟩:=q1 j _ es;rw[ej]at e1;cases e1;obtain⟨u,eu⟩:∃u,σi[k]=some u:=by
     rcases hs with rfl|rfl
     .exact⟨_,e2.choose_spec.1⟩
     .exact⟨_,e2.choose_spec.1⟩
    exact⟨u,by rw[ag hk,eu],by show(σi[k]?).join=some u;rw[ag hk,eu];rfl⟩
  .rcases p with p|⟨j,p,_⟩
   .exact ok.pd a p
   .exact ok.sl.def a (q2 j a p)
  .rcases p with p|⟨j,p,_⟩
   .exact ok.pf a f p
   .exact ok.nf a (q2 j a p) f
  .rcases mem a m with⟨j,hj,q⟩|⟨k,q⟩
   .rcases p with p|⟨j',p,hj'⟩
    .exact ok.pl a (q2 j a q) p
    .by_cases e:j=j'
     .subst e;exact hj' hj
     .exact n2 j j' a e q p
   .rcases p with p|⟨j',p,hj'⟩
    .exact(hμ.out k a q).2.1 p
    .exact(hμ.out k a q).2.2.1 (q2 j' a p)
 .rcases p with p|⟨j,p,_⟩
  .exact ok.pd a p
  .exact ok.sl.def a (q2 j a p)
 .
  intro F2 H2 τ σ2 Li fs' l ok2 eb;have le:Le F H ⟨F2.f,F.p⟩ H2:=⟨λa f=>l.f a f,λa f=>⟨f,(l.p a (.inl f)).2⟩⟩
  obtain⟨ℓ2,r1,r2,r3,r4⟩:=ok2.sl.toP;obtain⟨m1,m2⟩:=r3 ok2.nd;obtain⟨b1,b2⟩:=Lh eb;have restP:∀j a,a∈ℓ j->j∉Dj fs is->F2.p a/\H2 a=H a:=λj a q hj=>l.p a (.inr ⟨j,q,hj⟩)
  refine⟨le,?_⟩;obtain⟨L',p1,p2,p3⟩:=Ao.ofP (K:=K) (F:=⟨F2.f,F.p⟩) (H:=H2) (fs:=fs') (U:=U) (λj=>match placeOf fs j is 0 with|some k=>ℓ2 k|none=>ℓ j) (by rw[b1];exact ok.sl.len)
   (λj s' e=>by
    have hj:j<fs.length:=by rw[<- b1];exact(ak.mp e).1
    obtain⟨s1,e1,e2⟩:=b2 j fs[j] (ag hj);rw[e]at e1;cases e1;rw[Nat.zero_add]at e2;obtain⟨v,e3,e4⟩:=q1 j fs[j] (ag hj);refine⟨v,e3,?_⟩;unfold Ox at e2;cases ep:placeOf fs j is 0 with
    |none =>rw[ep]at e2;cases e2;have hn:=placeOf_none ep;exact Kn.le le (λa m=>(restP j a m hn).2) e4
    |some k =>
     rw[ep]at e2;obtain⟨_,i,ei,hlo⟩:=placeOf_some ep;rw[Nat.sub_zero]at ei;dsimp only at e2 ⊢;split at e2
     .rename_i o s et es;cases e2;obtain⟨w,e5,e6⟩:=r1 k _ et;obtain⟨u,e7,e8⟩:=ok2.bo k o et;rw[e5]at e7;cases e7;have ij:i=.slot j:=by
       cases i with
       |no=>cases hlo
       |val t=>cases hlo
       |new o=>cases hlo
       |slot j' =>
        simp only[Cp]at hlo;split at hlo
        .cases hlo;rfl
        .cases hlo
      subst ij;have hk:k<σi.length:=by rw[hl];exact(ak.mp ei).1
      have io:U[j]?=some σi[k]:=hi k _ _ ei (ag hk);rw[e3]at io;cases io;have e9:(σi[k]?).join=some u:=e8;rw[ag hk]at e9;have e10:σi[k]=some u:=by simpa using e9
      rw[e10];obtain⟨u',eu,ro⟩:=e6;cases eu;have ob:∃o0,s=.own o0\/s=.bor o0:=by
       simp only[Cp]at hlo;split at hlo
       next hob=>obtain⟨o0,s0,_,es0,hs0⟩:=objSl j hob;rw[ag hj,es]at es0;cases es0;exact⟨o0,hs0⟩
       .cases hlo
      obtain⟨o0,ob⟩:=ob;have ro':Ap K ⟨F2.f,F.p⟩ H2 o u (ℓ2 k):=Ap.wp ro;rcases ob with rfl|rfl
      .exact⟨u,rfl,ro'⟩
      .exact⟨u,rfl,ro'⟩
     .cases e2)
   (λj=>by
    try dsimp only
    split
    .exact m1 _
    .exact n1 _)
   (λj j' a hj ha hb=>by
    try dsimp only at ha hb
    split at ha
    .rename_i k ek;split at hb
     .rename_i k' ek';by_cases e:k=k'
      .subst e;obtain⟨_,i,ei,h1⟩:=placeOf_some ek;obtain⟨_,i',ei',h2⟩:=placeOf_some ek';rw[ei]at ei';cases ei';rw[h1]at h2;cases h2;exact hj rfl
      .exact m2 k k' a e ha hb
     next ek'=>exact ok2.pl a (r2 k a ha) (restP j' a hb (placeOf_none ek')).1
    .rename_i ek;split at hb
     next k' ek'=>exact ok2.pl a (r2 k' a hb) (restP j a ha (placeOf_none ek)).1
     .exact n2 j j' a hj ha hb)
  have src:∀a∈L',(a∈Li/\¬F2.p a)\/∃j,a∈ℓ j/\j∉Dj fs is:=λa m=>by
   obtain⟨j,_,q⟩:=p3 a m
   try dsimp only at q
   split at q
   next k ek=>exact .inl ⟨r2 k a q,ok2.pl a (r2 k a q)⟩
   next ek=>exact .inr ⟨j,q,placeOf_none ek⟩
  refine⟨L',⟨p1,p2,λa m f=>?_,λa f=>ok2.fd a f,λj o e=>?_,λa p=>?_,λa f p=>?_,λa m p=>?_⟩,λa m=>?_⟩
  .rcases src a m with⟨q,_⟩|⟨j,q,hj⟩
   .exact ok2.nf a q f
   .exact ok2.pf a f (restP j a q hj).1
  .have hj:j<fs.length:=by rw[<- b1];exact(ak.mp e).1
   obtain⟨s1,e1,e2⟩:=b2 j fs[j] (ag hj);rw[e]at e1;cases e1;rw[Nat.zero_add]at e2;have:∃o',fs[j]?=some (some (.bor o')):=by
    unfold Ox at e2;split at e2
    .exact⟨o,by rw[ag hj];exact e2⟩
    .split at e2
     next o1 s et es=>cases s with|val t=>cases e2|own o2=>cases e2|bor o2=>exact⟨o2,by rw[ag hj,es]⟩
     .cases e2
   obtain⟨o',eo⟩:=this;exact ok.bo j o' eo
  .rw[(l.p a (.inl p)).2];exact ok.pd a p
  .exact ok2.pf a f (l.p a (.inl p)).1
  .rcases src a m with⟨_,q⟩|⟨j,q,hj⟩
   .exact q (l.p a (.inl p)).1
   .exact ok.pl a (q2 j a q) p
  .rcases src a m with⟨q,_⟩|⟨j,q,hj⟩
   .exact .inl q
   .exact .inr (.inr ⟨j,q,hj⟩)
noncomputable def Bof(U:St):Nat->Option V:=λk=>(U[k]?).join
def spF(K:Fg)(p:Nat)(Fn:FS->Out Rv):Sp:=λvs H Q _=>vs.length=p/\∃F fs0,Okk K F (Bof (vs.map some)) H fs0 (vs.map some)/\match Fn fs0 with|.ok r τ=>∀F' H' u σ',Le F H F' H'->RR K (Bof (vs.map some)) σ' F' H' τ r u->Q u H'|_=>False
noncomputable def Bl(n:Nat)(g:FS->SO):FS->Out Rv:=λargs=>match g (args++List.replicate n none)with
 |.nx τ=>.ok (.t .v) (τ.take args.length)
 |.ret (.t t) τ=>.ok (.t t) (τ.take args.length)
 |.ret (.nw o) τ=>.ok (.nw o) (τ.take args.length)
 |.ret (.n i) τ=>match τ[i]? with|some (some (.own o))=>.ok (.nw o) ((τ.set i none).take args.length)|_=>.bad
 |.exc c τ=>.exc c (τ.take args.length)
 |_=>.bad
section
variable{P:Program}{w:World}{K:Fg}{mg:Str->Option Value}{base:Heap}
end
noncomputable def A1:Rv->Ini
 |.t t=>.val t
 |.n i=>.slot i
 |.nw o=>.new o
noncomputable def QG(Fn:FS->Out Rv)(rs:List Rv)(fs:FS):Out Rv :=
 if(Dj fs (rs.map A1)).Nodup then(match Fn (Ce fs (rs.map A1))with|.ok (.t t) τ=>(match D1 (rs.map A1) τ fs with|some fs'=>.ok (.t t) fs'|none=>.bad)|.ok (.nw o) τ=>(match D1 (rs.map A1) τ fs with|some fs'=>.ok (.nw o) fs'|none=>.bad)|_=>.bad)else .bad
theorem HY.len{K:Fg}{F:Wd}{H:Hp}{U:St}:∀{rs:List Rv}{vs:List V},HY K F H U rs vs->vs.length=rs.length
 | [],_,h=>by cases h;rfl
 |r::rs,_,h=>by obtain⟨v,w,rfl,h1,h2⟩:=h;simp[HY.len h2]
def EL(K:Fg)(F:Wd)(H:Hp)(U:St):List Rv->List V->List Addr->Prop
 | [],vs,L=>vs=[]/\L=[]
 |r::rs,vs,L=>∃v w L1 L2,vs=v::w/\OC K F H U r v L1/\EL K F H U rs w L2/\L=L1++L2
def RAn(K:Fg)(B:Nat->Option V)(U:St):Wd->Hp->FS->List Rv->List V->Prop:=λF H fs rs vs=>∃L M,Ok K F B H fs U L/\EL K F H U rs vs M/\(L++M).Nodup/\∀a∈M,¬F a/\¬F.p a
def tAn(K:Fg)(Z:Xp)(f:FS->Out (List Rv)):TA:=λU H Q=>∃F B fs,Okk K F B H fs U/\sat Z B (RAn K B U) F H (f fs) Q
def FAn(X:Cx)(Z:Xp)(es:List Expr)(f:FS->Out (List Rv)):Prop:=PA X es (tAn X.K Z f)
noncomputable def Ae(f:FS->Out Rv)(g:FS->Out (List Rv)):FS->Out (List Rv):=λfs=>(f fs).bind λr fs=>(g fs).bind λrs fs=>.ok (r::rs) fs
section
variable{K:Fg}{F F':Wd}{H H':Hp}{B:Nat->Option V}{fs:FS}{U:St}{rs:List Rv}{vs:List V}{Z:Xp}{Q:VK}{Fn:FS->Out Rv}{E:XK}
theorem EL.len:∀{rs:List Rv}{vs:List V}{M:List Addr},EL K F H U rs vs M->vs.length=rs.length
 | [],_,_,h=>by obtain⟨rfl,_⟩:=h;rfl
 |r::rs,_,_,h=>by obtain⟨v,w,L1,L2,rfl,_,h,_⟩:=h;simp[EL.len h]
theorem OC.def{r:Rv}{v:V}{L:List Addr}(h:OC K F H U r v L):∀a∈L,H a≠none:=by
 cases r with
 |t t=>obtain⟨rfl,_⟩:=h;exact λa m=>nomatch m
 |nw o=>exact Ap.def h
 |n i=>obtain⟨rfl,_⟩:=h;exact λa m=>nomatch m
theorem OC.lf{r:Rv}{v:V}{L:List Addr}(l:∀a,F a->F' a/\H' a=H a)(k:∀a∈L,H' a=H a)(h:OC K F H U r v L):OC K F' H' U r v L:=by cases r with|t t=>exact⟨h.1,Ar.le (F:=⟨F.f,λ_=>False⟩) ⟨l,λ_ z=>z.elim⟩ (Ar.wp h.2)⟩|nw o=>exact Ap.le (F:=⟨F.f,λ_=>False⟩) ⟨l,λ_ z=>z.elim⟩ k (Ap.wp h)|n i=>exact h
theorem EL.lf(l:∀a,F a->F' a/\H' a=H a):∀{rs:List Rv}{vs:List V}{M:List Addr},(∀a∈M,H' a=H a)->EL K F H U rs vs M->EL K F' H' U rs vs M
 | [],_,_,_,h=>h
 |r::rs,_,_,k,h=>by obtain⟨v,w,L1,L2,e,h1,h2,rfl⟩:=h;exact⟨v,w,L1,L2,e,h1.lf l λa m=>k a (aB _ m),EL.lf l (λa m=>k a (aC _ m)) h2,rfl⟩
theorem EL.toP:∀{rs:List Rv}{vs:List V}{M:List Addr},EL K F H U rs vs M->∃μ:Nat->List Addr,(∀k r,rs[k]?=some r->∃v,vs[k]?=some v/\OC K F H U r v (μ k))/\(∀k a,a∈μ k->a∈M/\H a≠none) /\
  (M.Nodup->(∀k,(μ k).Nodup)/\∀i j a,i≠j->a∈μ i->a∉μ j)
 | [],_,_,h=>⟨λ_=>[],(λk r e=>by simp at e),(λ_ _ m=>nomatch m),λ_=>⟨λ_=>aW,(λ_ _ _ _ m=>nomatch m)⟩⟩
 |r::rs,_,_,h=>by
  obtain⟨v,w,L1,L2,rfl,h1,h2,rfl⟩:=h;obtain⟨μ,q1,q2,q3⟩:=EL.toP h2;refine⟨λi=>match i with|0=>L1|i+1=>μ i,λk r' e=>?_,λk a m=>?_,λnd=>?_⟩
  .cases k with|zero =>simp at e;subst e;exact⟨v,rfl,h1⟩|succ k =>obtain⟨u,e1,e2⟩:=q1 k r' (by simpa using e);exact⟨u,by simpa using e1,e2⟩
  .cases k with|zero=>exact⟨aB _ m,h1.def a m⟩|succ k=>exact⟨aC _ (q2 k a m).1,(q2 k a m).2⟩
  .rw[ah]at nd;obtain⟨n1,n2,n3⟩:=nd;obtain⟨m1,m2⟩:=q3 n2;refine⟨λi=>?_,λi j a hij hi hj=>?_⟩
   .cases i with|zero=>exact n1|succ i=>exact m1 i
   .cases i with
    |zero =>cases j with|zero=>exact hij rfl|succ j=>exact n3 a hi a (q2 j a hj).1 rfl
    |succ i =>cases j with|zero=>exact n3 a hj a (q2 i a hi).1 rfl|succ j=>exact m2 i j a (λe=>hij (by rw[e])) hi hj
theorem NF(q:RAn K B U F H fs rs vs):∃L μ,Ok K F B H fs U L/\Mu F H L μ/\(vs.map some).length=(rs.map A1).length/\∀(k:Nat)(i:Ini)(v:Option V),(rs.map A1)[k]?=some i->(vs.map some)[k]?=some v->UE K F H U i v (μ k):=by obtain⟨L,M,ok,q,nd,nf⟩:=q;obtain⟨μ,q1,q2,q3⟩:=q.toP;rw[ah]at nd;obtain⟨m1,m2⟩:=q3 nd.2.1;refine⟨L,μ,ok,⟨λk a m=>⟨(nf a (q2 k a m).1).1,(nf a (q2 k a m).1).2,λz=>nd.2.2 a z a (q2 k a m).1 rfl,(q2 k a m).2⟩,m1,m2⟩,by simp[q.len],λk i v e1 e2=>?_⟩;rw[aP,aA]at e1 e2;obtain⟨r,er,rfl⟩:=e1;obtain⟨u,eu,rfl⟩:=e2;obtain⟨u',e3,rr⟩:=q1 k r er;rw[eu]at e3;cases e3;cases r with|t t=>exact⟨u,rfl,rr.2⟩|nw o=>exact⟨u,rfl,rr⟩|n i=>exact rr.2
theorem RAn.len(q:RAn K B U F H fs rs vs):vs.length=rs.length:=by obtain⟨L,M,ok,q,_⟩:=q;exact q.len
theorem QF(q:RAn K B U F H fs rs vs)(s:sat Z B (RR K B U) F H (QG Fn rs fs) Q):spF K rs.length Fn vs H Q E:=by
 unfold QG at s;split at s
 .rename_i nd;obtain⟨L9,μ,ok,hμ,hl,hi⟩:=NF q;obtain⟨Pp,p1,p2,p3,p4⟩:=lend ok hl hi nd hμ;refine⟨q.len,⟨F.f,Pp⟩,Ce fs (rs.map A1),p2,?_⟩;split at s
  .rename_i t τ e;rw[e];split at s
   next fs' eb=>intro F' H' u σ' l k;obtain⟨Li,L',o1,⟨_,r⟩,_⟩:=k;obtain⟨le,L,o2,_⟩:=p4 F' H' τ σ' Li fs' l o1 eb;exact s ⟨F'.f,F.p⟩ H' u le (RR.of ⟨L,o2⟩ (Ar.wp r))
   .exact s.elim
  .rename_i o τ e;rw[e];split at s
   .rename_i fs' eb;intro F' H' u σ' l k;obtain⟨Li,L',o1,r,nd,nf⟩:=k;obtain⟨le,L,o2,sub⟩:=p4 F' H' τ σ' Li fs' l o1 eb;refine s ⟨F'.f,F.p⟩ H' u le ⟨L,L',o2,Ap.wp r,?_,λa m=>⟨(nf a m).1,λp=>(nf a m).2 (l.p a (p1 a p)).1⟩⟩;rw[ah]at nd ⊢;refine⟨o2.nd,nd.2.1,λa ha b hb e=>?_⟩;rcases sub a ha with z|z
    .exact nd.2.2 a z b hb e
    .exact(nf b hb).2 (l.p b (e▸z)).1
   .exact s.elim
  .exact s.elim
 .exact s.elim
end
section
variable{X:Cx}{Z:Xp}{e:Expr}{es:List Expr}{f:FS->Out Rv}{g:FS->Out (List Rv)}
theorem HM:FAn X Z [] Aj:=KJ D8 λU H Q ⟨F,B,fs,⟨L,ok⟩,s⟩=>s F H [] Le.refl ⟨L,[],ok,⟨rfl,rfl⟩,by simpa using ok.nd,(λ_ m=>nomatch m)⟩
theorem PM{K:Fg}{B:Nat->Option V}{U:St}{F1:Wd}{H1:Hp}{fs1:FS}{r:Rv}{u:V}{γ δ:Type}{R2:Wd->Hp->FS->γ->δ->Prop}{k:List Rv->FS->Out γ}{Q:δ->Hp->Prop}{Q':List V->Hp->Prop}(q:RR K B U F1 H1 fs1 r u)(s1:sat Z B R2 F1 H1 ((g fs1).bind k) Q)
  (hk:∀rs fs2 F2 H2 us,Le F1 H1 F2 H2->RAn K B U F2 H2 fs2 (r::rs) (u::us)->sat Z B R2 F2 H2 (k rs fs2) Q->Q' us H2):tAn K Z g U H1 Q':=by
 obtain⟨L,L1,o1,r1,nd,nf⟩:=q;have nda:=ah.mp nd;have le1:Le F1 H1 ⟨F1.f,λa=>F1.p a\/a∈L1⟩ H1:=⟨λa f=>⟨f,rfl⟩,λa f=>⟨.inl f,rfl⟩⟩
 refine⟨⟨F1.f,λa=>F1.p a\/a∈L1⟩,B,fs1,⟨L,o1.sl.le le1 λ_ _=>rfl,o1.nd,o1.nf,o1.fd,o1.bo,λa p=>?_,λa f p=>?_,λa m p=>?_⟩,?_⟩
 .rcases p with p|p
  .exact o1.pd a p
  .exact r1.def a p
 .rcases p with p|p
  .exact o1.pf a f p
  .exact(nf a p).1 f
 .rcases p with p|p
  .exact o1.pl a m p
  .exact nda.2.2 a m a p rfl
 .cases eg:g fs1 with
  |bad=>rw[eg]at s1;exact s1.elim
  |exc c t=>rw[eg]at s1;exact Z.mono s1 le1
  |ok rs fs2 =>
   rw[eg]at s1;intro F2 H2 us l2 q2;obtain⟨L2,M2,o2,r2,nd2,nf2⟩:=q2;have le2:Le F1 H1 ⟨F2.f,F1.p⟩ H2:=⟨λa f=>l2.f a f,λa f=>⟨f,(l2.p a (.inl f)).2⟩⟩
   have hp:∀a∈L1,F2.p a/\H2 a=H1 a:=λa m=>l2.p a (.inr m)
   have nd2':=ah.mp nd2;refine hk rs fs2 ⟨F2.f,F1.p⟩ H2 us le2 ⟨L2,L1++M2,⟨Ao.wp o2.sl,o2.nd,o2.nf,o2.fd,o2.bo,λa f=>by rw[(le2.p a f).2];exact o1.pd a f,λa f p=>o2.pf a f (l2.p a (.inl p)).1,λa m p=>o2.pl a m (l2.p a (.inl p)).1⟩,⟨u,us,L1,M2,rfl,OC.lf (F:=F1) (F':=⟨F2.f,F1.p⟩) (H:=H1) (H':=H2) (λa f=>l2.f a f) (λa m=>(hp a m).2) r1,EL.lf (F:=F2) (F':=⟨F2.f,F1.p⟩) (λa f=>⟨f,rfl⟩) (λ_ _=>rfl) r2,rfl⟩,?_,λa m=>?_⟩ (sat.le s1 le2)
   .rw[ah];refine⟨o2.nd,?_,λa ha b hb e=>?_⟩
    .rw[ah];exact⟨nda.2.1,nd2'.2.1,λa ha b hb e=>(nf2 b hb).2 (e▸(hp a ha).1)⟩
    .rcases av.mp hb with hb|hb
     .exact o2.pl a ha (e▸(hp b hb).1)
     .exact nd2'.2.2 a ha b hb e
   .rcases av.mp m with m|m
    .exact⟨λf=>o2.pf a f (hp a m).1,(nf a m).2⟩
    .exact⟨(nf2 a m).1,λp=>(nf2 a m).2 (l2.p a (.inl p)).1⟩
theorem Ek(ha:FE X Z e f)(hr:FAn X Z es g)(hs:starEach (e::es) X.env=(false,eval e X.env)::starEach es X.env:=by rfl):FAn X Z (e::es) (Ae f g) :=
 KJ (BN ha hr hs) λU H Q ⟨F,B,fs,ok,s⟩=>⟨F,B,fs,ok,Ay s λr fs1 F1 H1 u l q s1=>PM q s1 λrs fs2 F2 H2 us _ ra s2=>s2 F2 H2 (u::us) Le.refl ra⟩
end
section
variable{X:Cx}{Z:Xp}{x:Str}{k p:Nat}{ps:List Str}{Fn:FS->Out Rv}{e o:Expr}{es:List Expr}{fa:FS->Out (List Rv)}{fo:FS->Out Rv}{pp pos apos:Pos}{C:Addr}{m:Str}
noncomputable def Ov(p:Nat)(Fn:FS->Out Rv):List Rv->FS->Out Rv:=λrs fs=>if rs.length=p then QG Fn rs fs else .bad
noncomputable def EC(C:Addr)(m:Str)(fs:FS):Rv->Bool
 |.t (.ins C' gs _)=>decide (C'=C)&&!gs.any (·==m)
 |.n i=>match AE fs i with|some (.ins C' gs _)=>decide (C'=C)&&!gs.any (·==m)|_=>false
 |_=>false
theorem II{kvs:List (Str×V)}{m:Str}(h:((kvs.map (·.1)).any (·==m))=false):kvs.lookup m=none:=by
 induction kvs with
 |nil=>rfl
 |cons p r ih =>
  rw[aj,cx,Bool.or_eq_false_iff]at h;obtain⟨k,v⟩:=p;rw[br];have:(m==k)=false:=by have h1:(k==m)=false:=h.1;rw[beq_eq_false_iff_ne]at h1 ⊢;exact λe=>h1 e.symm
  rw[this];exact ih h.2
theorem KY{K:Fg}{F:Wd}{H:Hp}{B:Nat->Option V}{fs:FS}{U:St}{r:Rv}{u:V}(ok:Okk K F B H fs U)(q:BQ K F H U r u)(h:EC C m fs r=true):∃a dx kvs,u=.ref a/\H a=some (.ins C dx kvs)/\kvs.lookup m=none:=by
 unfold EC at h;split at h
 next C' gs ts=>rw[aL]at h;have hC:=aO h.1;subst hC;simp only[BQ,Ar]at q;obtain⟨a,dx,kvs,rfl,f,hd,rfl,r⟩:=q;exact⟨a,dx,kvs,rfl,hd,II (by simpa using h.2)⟩
 .rename_i i;split at h
  .rename_i C' gs os eo;rw[aL]at h;have hC:=aO h.1;subst hC;obtain⟨v,L2,e1,q2,_⟩:=ok.own eo;have e2:U[i]?=some (some u):=q;rw[e1]at e2;have e3:v=u:=by simpa using e2
   subst e3;simp only[Ap]at q2;obtain⟨a,dx,kvs,L',rfl,hd,rfl,_⟩:=q2;exact⟨a,dx,kvs,rfl,hd,II (by simpa using h.2)⟩
  .cases h
 .cases h
noncomputable def HD(C:Addr)(m:Str)(p:Nat)(Fn:FS->Out Rv)(fo:FS->Out Rv)(fa:FS->Out (List Rv)):FS->Out Rv:=λfs=>(fo fs).bnd λx fs=>if EC C m fs x=true then(fa fs).bind λrs fs=>Ov p Fn (x::rs) fs else .bad
noncomputable def EA(C:Addr)(p:Nat)(Fn:FS->Out Rv)(rs:List Rv)(fs:FS):Out Rv :=
 if(Dj fs (rs.map A1)).Nodup/\rs.length+1=p then(match Fn (some (.bor (.ins C [] []))::Ce fs (rs.map A1))with|.ok (.t .v) (some (.bor o)::τ)=>(match D1 (rs.map A1) τ fs with|some fs'=>.ok (.nw o) fs'|none=>.bad)|_=>.bad)else .bad
theorem Py{K:Fg}{F:Wd}{H:Hp}{B:Nat->Option V}{fs:FS}{U:St}{rs:List Rv}{vs:List V}{Q:VK}{E:XK}(q:RAn K B U F H fs rs vs)(s:sat Z B (RR K B U) F H (EA C p Fn rs fs) Q)
  {x dx:Addr} (hx:H x=none) (hdx:H dx=none) (hne:dx≠x):spF K p Fn (.ref x::vs) (upd (upd H dx (.own x)) x (.ins C dx [])) (λv H2=>v=.v/\Q (.ref x) H2) E:=by
 unfold EA at s;split at s
 .rename_i hh;obtain⟨nd,hp⟩:=hh;obtain⟨L9,μ,ok,hμ,hl,hi⟩:=NF q;obtain⟨Pp,p1,⟨L0,p2⟩,p3,p4⟩:=lend ok hl hi nd hμ;have l0:∀a,H a≠none->(upd (upd H dx (.own x)) x (.ins C dx [])) a=H a:=λa h=>by rw[Ai (λe=>h (by rw[e];exact hx)),Ai (λe=>h (by rw[e];exact hdx))]
  have le0:Le ⟨F.f,Pp⟩ H ⟨F.f,Pp⟩ (upd (upd H dx (.own x)) x (.ins C dx [])):=⟨λa f=>⟨f,l0 a (p2.fd a f)⟩,λa f=>⟨f,l0 a (p3 a f)⟩⟩
  refine⟨by rw[aX,q.len];exact hp,⟨F.f,Pp⟩,some (.bor (.ins C [] []))::Ce fs (rs.map A1),?_,?_⟩
  .refine⟨[x]++L0,Ao.cons ⟨.ref x,rfl,?_⟩ (p2.sl.le le0 λa m=>l0 a (p2.sl.def a m)),?_,λa m=>?_,λa f=>?_,λi o e=>?_,λa f=>?_,p2.pf,λa m=>?_⟩
   .simp only[Ap];exact⟨x,dx,[],[],rfl,Ak,rfl,⟨rfl,rfl⟩,rfl⟩
   .rw[ah];exact⟨by simp,p2.nd,λa ha b hb e=>p2.sl.def b hb (by rw[<- e,aG.mp ha];exact hx)⟩
   .rcases av.mp m with m|m
    .rw[aG.mp m];exact λf=>p2.fd x f hx
    .exact p2.nf a m
   .rw[l0 a (p2.fd a f)];exact p2.fd a f
   .cases i with|zero=>exact⟨.ref x,rfl,rfl⟩|succ i=>exact p2.bo i o (by simpa using e)
   .rw[l0 a (p3 a f)];exact p3 a f
   .rcases av.mp m with m|m
    .rw[aG.mp m];exact λf=>p3 x f hx
    .exact p2.pl a m
  .split at s
   .rename_i o τ e;rw[e];split at s
    .rename_i fs' eb;intro F' H' u σ' l k;obtain⟨Lall,L',o1,⟨_,r⟩,_⟩:=k;refine⟨r,?_⟩;obtain⟨v,σ2,L1,L2,rfl,h1,h2,rfl⟩:=o1.sl.GG;obtain⟨w,rfl,ro⟩:=h1;obtain⟨w',e3,e4⟩:=o1.bo 0 o rfl;have ew:w=.ref x:=by have z1:some (some w)=some (some w'):=e3;have z2:some (V.ref x)=some w':=e4;cases z1;cases z2;rfl
     subst ew;have nd1:=ah.mp o1.nd;have o2:Ok K F' (Bof (vs.map some)) H' τ σ2 L2:=⟨h2,nd1.2.1,λa m=>o1.nf a (aC _ m),o1.fd,λi ob eo=>by obtain⟨v,z1,z2⟩:=o1.bo (i+1) ob (by simpa using eo);exact⟨v,by simpa using z1,by have z3:(((V.ref x::vs).map some)[i+1]?).join=some v:=z2;simpa[Bof]using z3⟩,o1.pd,o1.pf,λa m=>o1.pl a (aC _ m)⟩
     have l':Le ⟨F.f,Pp⟩ H F' H':=le0.trans l;obtain⟨le,L,o3,sub⟩:=p4 F' H' τ σ2 L2 fs' l' o2 eb;refine s ⟨F'.f,F.p⟩ H' (.ref x) le ⟨L,L1,o3,Ap.wp ro,?_,λa m=>⟨o1.nf a (aB _ m),λp=>o1.pl a (aB _ m) (l'.p a (p1 a p)).1⟩⟩;rw[ah];refine⟨o3.nd,nd1.1,λa ha b hb e=>?_⟩;rcases sub a ha with z|z
     .exact nd1.2.2 b hb a z e.symm
     .exact o1.pl b (aB _ hb) (l'.p b (e▸z)).1
    .exact s.elim
   .exact s.elim
 .exact s.elim
end
noncomputable def Bh(gt:T->FS->Option FS)(ft:FS->Out Bool)(fe:FS->Out Rv):List T->FS->List T->Option (List T×FS)
 | [],τ,acc=>some (acc,τ)
 |t::ts,τ,acc=>match gt t τ with|none=>none|some τ=>match ft τ with|.ok true τ=>(match fe τ with|.ok (.t v) τ=>if acc.length<big then Bh gt ft fe ts τ (acc++[v])else none|_=>none)|.ok false τ=>Bh gt ft fe ts τ acc|_=>none
noncomputable def DK:FS->Out Bool:=λfs=>.ok true fs
noncomputable def Bs(new:Bool)(src:List (Option Nat))(fi:FS->Out (List T))(gt:T->FS->Option FS)(ft:FS->Out Bool)(fe:FS->Out Rv):FS->Out Rv:=λfs=>(fi fs).bind λts fs =>if(Dj fs (src.map λo=>o.elim Ini.no Ini.slot)).Nodup/\(src.all λo=>o.elim true λj=>decide (j<fs.length))=true then(match Bh gt ft fe ts (Ce fs (src.map λo=>o.elim Ini.no Ini.slot)) []with|some (vs,τ)=>(match D1 (src.map λo=>o.elim Ini.no Ini.slot) τ fs with|some fs'=>if new=true then .ok (.nw (.lst vs)) fs' else .ok (.t (.lst vs)) fs'|none=>.bad)|none=>.bad)else .bad
def FIf(X:Cx)(ifs:List Expr)(ft:FS->Out Bool):Prop:=RQ X ifs (tT X.K Xp.no ft)
theorem Pa{X:Cx}{e:List Expr}{t t':TT}(h:RQ X e t)(i:∀U H Q,t' U H Q->t U H Q):RQ X e t':=λpins s U H Q I q=>h pins s U H Q I (i _ _ _ q)
theorem T5{X:Cx}:FIf X [] DK:=Pa O9 λU H Q ⟨F,B,fs,ok,s⟩=>s F H true Le.refl ⟨ok,rfl⟩
theorem T4{X:Cx}{c:Expr}{ft:FS->Out Bool}(h:FT X Xp.no c ft):FIf X [c] ft:=O8 h
section
variable{K:Fg}{F:Wd}{H:Hp}{B:Nat->Option V}{fs:FS}{U:St}
theorem Okk.hide{p:Addr}{o:HO}(h:Okk K F B H fs U)(hp:H p=none):Okk K ⟨F.f,λa=>F.p a\/a=p⟩ B (upd H p o) fs U:=by
 obtain⟨L,h⟩:=h;have l:Le F H ⟨F.f,λa=>F.p a\/a=p⟩ (upd H p o):=⟨λa f=>⟨f,Ai λe=>h.fd a f (e▸hp)⟩,λa f=>⟨.inl f,Ai λe=>h.pd a f (e▸hp)⟩⟩
 refine⟨L,h.sl.le l (h.Tp hp),h.nd,h.nf,λa q=>Dp (h.fd a q),h.bo,λa q=>?_,λa f q=>?_,λa m q=>?_⟩
 .rcases q with q|q
  .exact Dp (h.pd a q)
  .rw[q,Ak];simp
 .rcases q with q|q
  .exact h.pf a f q
  .exact h.fd a f (q▸hp)
 .rcases q with q|q
  .exact h.pl a m q
  .exact h.sl.def a m (q▸hp)
theorem Okk.upP{p:Addr}{o:HO}(h:Okk K F B H fs U)(hp:F.p p):Okk K F B (upd H p o) fs U:=by
 obtain⟨L,h⟩:=h;have hf:∀a,F a->(upd H p o) a=H a:=λa f=>Ai λe=>h.pf a f (e▸hp)
 have l:Le ⟨F.f,λ_=>False⟩ H ⟨F.f,F.p⟩ (upd H p o):=⟨λa f=>⟨f,hf a f⟩,λa f=>f.elim⟩
 have sl:Ao K ⟨F.f,λ_=>False⟩ H fs U L:=Ao.wp h.sl;refine⟨L,sl.le l λa m=>Ai λe=>h.pl a m (e▸hp),h.nd,h.nf,λa q=>Dp (h.fd a q),h.bo,λa q=>Dp (h.pd a q),h.pf,h.pl⟩
theorem Ac.upP{p:Addr}{o:HO}{ts:List T}{vs:List V}(h:Okk K F B H fs U)(hp:F.p p)(r:Ac K F H ts vs):Ac K F (upd H p o) ts vs:=by
 obtain⟨L,h⟩:=h;have l:Le ⟨F.f,λ_=>False⟩ H ⟨F.f,F.p⟩ (upd H p o):=⟨λa f=>⟨f,Ai λe=>h.pf a f (e▸hp)⟩,λa f=>f.elim⟩
 exact Ac.le l (Ac.wp r)
end
section
variable{X:Cx}{Z:Xp}{N:List Str}{sc:Scope}{tg iter elt:Expr}{ifs:List Expr}{fi:FS->Out (List T)}{gt:T->FS->Option FS}{ft:FS->Out Bool}{fe:FS->Out Rv}{pos:Pos}{K:Fg}
inductive CI(K:Fg)(W:Wd)(H1:Hp)(D:Addr)(Bc:Nat->Option V)(gt:T->FS->Option FS)(ft:FS->Out Bool)(fe:FS->Out Rv)(r:List T×FS)(l:List T)(τσ:St)(H2:Hp):Prop
 |mk (F2:Wd) (τ:FS) (acc:List T) (ys:List V) (l2:Le W H1 F2 H2) (pD:F2.p D) (ok2:Okk K F2 Bc H2 τ τσ) (hD2:H2 D=some (.lst ys)) (racc:Ac K F2 H2 acc ys) (ec:Bh gt ft fe l τ acc=some r):CI K W H1 D Bc gt ft fe r l τσ H2
theorem CI.put{W F6:Wd}{H1 H6:Hp}{D:Addr}{Bc:Nat->Option V}{r:List T×FS}{l:List T}{τσ:St}{τ3:FS}{acc:List T}{ys:List V}{v:T}{y:V}{L6:List Addr}(nP:¬W.p D)(l16:Le W H1 F6 H6)(p6:F6.p D)(o6:Ok K F6 Bc H6 τ3 τσ L6)(racc6:Ac K F6 H6 acc ys)(rv:Ar K F6 H6 v y)
  (ec2:Bh gt ft fe l τ3 (acc++[v])=some r):CI K W H1 D Bc gt ft fe r l τσ (upd H6 D (.lst (ys++[y]))) :=
 .mk F6 τ3 (acc++[v]) (ys++[y]) ⟨λa f=>⟨(l16.f a f).1,by rw[Ai λe=>o6.pf a (l16.f a f).1 (by rw[e];exact p6)];exact(l16.f a f).2⟩,λa f=>⟨(l16.p a f).1,by rw[Ai λe=>nP (by rw[<- e];exact f)];exact(l16.p a f).2⟩⟩
  p6 (Okk.upP ⟨L6,o6⟩ p6) Ak (Ac.upP ⟨L6,o6⟩ p6 (racc6.app (Ac.one rv))) ec2
theorem CI.one{W F5:Wd}{H1 H5:Hp}{D:Addr}{Bc:Nat->Option V}{r:List T×FS}{l:List T}{τσ:St}{τ2:FS}{acc:List T}{ys:List V}(nP:¬W.p D)(l15:Le W H1 F5 H5)(p5:F5.p D)(ok5:Okk K F5 Bc H5 τ2 τσ)(hD5:H5 D=some (.lst ys))(racc5:Ac K F5 H5 acc ys)
  (ec2:(match fe τ2 with|.ok (.t v) τ=>if acc.length<big then Bh gt ft fe l τ (acc++[v])else none|_=>none)=some r) :
  tF K Xp.no fe τσ H5 λy H6=>∃ys,H6 D=some (.lst ys)/\ys.length<sizeLine/\CI K W H1 D Bc gt ft fe r l τσ (upd H6 D (.lst (ys++[y]))):=by
 refine⟨F5,Bc,τ2,ok5,?_⟩;cases ee:fe τ2 with
 |exc c τ3=>rw[ee]at ec2;cases ec2
 |bad=>rw[ee]at ec2;cases ec2
 |ok w τ3 =>
  rw[ee]at ec2;cases w with
  |nw o=>cases ec2
  |n o=>cases ec2
  |t v =>
   dsimp only at ec2;by_cases hlen:acc.length<big
   .rw[if_pos hlen]at ec2;intro F6 H6 y l6 q6;obtain⟨L6,L6',o6,⟨_,rv⟩,_⟩:=q6;have p6:=l6.p D p5;exact⟨ys,p6.2.trans hD5,by rw[racc5.len];exact bW hlen Gd,CI.put nP (l15.trans l6) p6.1 o6 (racc5.le l6) rv ec2⟩
   .rw[if_neg hlen]at ec2;cases ec2
theorem CI.turn{W F3:Wd}{H1 H3:Hp}{D:Addr}{Bc:Nat->Option V}{r:List T×FS}{t:T}{l:List T}{τσ:St}{τ:FS}{acc:List T}{ys:List V}{x:V}(nP:¬W.p D)(l2:Le W H1 F3 H3)(pD:F3.p D)(ok2:Okk K F3 Bc H3 τ τσ)(hD2:H3 D=some (.lst ys))(racc:Ac K F3 H3 acc ys)
  (ec2:Bh gt ft fe (t::l) τ acc=some r) (rx:Ar K F3 H3 t x) :
  tG K gt x τσ H3 λτ2 H4=>tT K Xp.no ft τ2 H4 λb H5=>if b=true then tF K Xp.no fe τ2 H5 λy H6=>∃ys,H6 D=some (.lst ys)/\ys.length<sizeLine/\CI K W H1 D Bc gt ft fe r l τ2 (upd H6 D (.lst (ys++[y])))else CI K W H1 D Bc gt ft fe r l τ2 H5:=by
 simp only[Bh]at ec2;refine⟨F3,Bc,τ,t,ok2,rx,?_⟩;cases eg:gt t τ with|none=>rw[eg]at ec2;cases ec2|some τ1 =>rw[eg]at ec2;intro F4 H4 τσ4 l4 ok4;refine⟨F4,Bc,τ1,ok4,?_⟩;dsimp only at ec2;cases et:ft τ1 with|exc c τ2=>rw[et]at ec2;cases ec2|bad=>rw[et]at ec2;cases ec2|ok b τ2 =>rw[et]at ec2;intro F5 H5 b' l5 q5;obtain⟨ok5,rfl⟩:=q5;have p4:=l4.p D pD;have p5:=l5.p D p4.1;have h5:=(p5.2.trans p4.2).trans hD2;have l15:=(l2.trans l4).trans l5;have r5:=(racc.le l4).le l5;cases b' with|false =>rw[if_neg (by decide)];exact .mk F5 τ2 acc ys l15 p5.1 ok5 h5 r5 ec2|true =>rw[if_pos rfl];exact CI.one nP l15 p5.1 ok5 h5 r5 ec2
theorem Uz{F:Wd}{H:Hp}{B:Nat->Option V}{fs:FS}{U:St}{src:List (Option Nat)}(ok:Okk K F B H fs U)(hall:(src.all λo=>o.elim true λj=>decide (j<fs.length))=true)(k:Nat)(i:Ini)(v:Option V)(e1:(src.map λo=>o.elim Ini.no Ini.slot)[k]?=some i)(e2:(E2 U src)[k]?=some v):UE K F H U i v []:=by
 unfold E2 at e2;rw[aP,aA]at e1 e2;obtain⟨o,eo,rfl⟩:=e1;obtain⟨o',eo',rfl⟩:=e2;rw[eo]at eo';cases eo';cases o with
 |none=>exact trivial
 |some j =>
  have hj:j<U.length:=by obtain⟨L1,o1⟩:=ok;rw[o1.sl.len];exact aO (bx.mp hall _ (bq eo))
  show U[j]?=some ((U[j]?).join);rw[ag hj];rfl
theorem Qw{F1 F2:Wd}{H2:Hp}{B:Nat->Option V}{fs':FS}{U:St}{D:Addr}{ys:List V}{acc:List T}{L:List Addr}(o3:Ok K ⟨F2.f,F1.p⟩ B H2 fs' U L)(hD2:H2 D=some (.lst ys))(racc:Ac K F2 H2 acc ys)(nL:D∉L)(nF:¬F2 D)(np:¬F1.p D):RR K B U ⟨F2.f,F1.p⟩ H2 fs' (.nw (.lst acc)) (.ref D):=by
 refine⟨L,[D],o3,C6 hD2 (Ac.wp racc),?_,λa m=>?_⟩
 .rw[ah];exact⟨o3.nd,by simp,λa ha b hb e=>nL (by rw[<- aG.mp hb,<- e];exact ha)⟩
 .rw[aG.mp m];exact⟨nF,np⟩
theorem Qv{F1 F2:Wd}{H2:Hp}{B:Nat->Option V}{fs':FS}{U:St}{D:Addr}{ys:List V}{acc:List T}{L:List Addr}(o3:Ok K ⟨F2.f,F1.p⟩ B H2 fs' U L)(hD2:H2 D=some (.lst ys))(racc:Ac K F2 H2 acc ys)(nL:D∉L)(np:¬F1.p D):RR K B U (Hh ⟨F2.f,F1.p⟩ [D]) H2 fs' (.t (.lst acc)) (.ref D):=by
 have l3:Le ⟨F2.f,F1.p⟩ H2 (Hh ⟨F2.f,F1.p⟩ [D]) H2:=orF;refine RR.of ⟨L,?_⟩ ?_
 .refine⟨o3.sl.le l3 λ_ _=>rfl,o3.nd,λa m z=>?_,λa z=>?_,o3.bo,o3.pd,λa z=>?_,o3.pl⟩
  .rcases z with z|z
   .exact o3.nf a m z
   .exact nL (by rw[<- aG.mp z];exact m)
  .rcases z with z|z
   .exact o3.fd a z
   .rw[aG.mp z,hD2];simp
  .rcases z with z|z
   .exact o3.pf a z
   .rw[aG.mp z];exact np
 .simp only[BQ,Ar];exact⟨D,ys,rfl,.inr (by simp),hD2,Ac.le l3 (Ac.wp racc)⟩
theorem RH{new:Bool}{src:List (Option Nat)}{U:St}{H:Hp}{Q:VK}(h:tF K Z (Bs new src fi gt ft fe) U H Q):Sd src (tI K Z fi) (tG K gt) (tT K Xp.no ft) (tF K Xp.no fe) U H Q:=by
 obtain⟨F,B,fs,ok,s⟩:=h;refine⟨F,B,fs,ok,Ay s λts fs1 F1 H1 J l q s1=>?_⟩;obtain⟨ok1,jk⟩:=q;split at s1
 .rename_i hnd;obtain⟨L9,ok9⟩:=id ok1;obtain⟨Pp,p1,p2,p3,p4⟩:=lend (μ:=λ_=>[]) ok9 (by unfold E2;simp) (Uz ok1 hnd.2) hnd.1 Mu.no;have jI:JOk K ⟨F1.f,Pp⟩ H1 J ts:=jk.within;split at s1
  .rename_i vs τe ec;split at s1
   .rename_i fs' eb;intro D hD;have nP:¬Pp D:=λz=>p3 D z hD
    refine⟨λi m τσ H2=>m=ts.length-i/\CI K ⟨F1.f,Pp⟩ H1 D (Bof (E2 U src)) gt ft fe (vs,τe) (ts.drop i) τσ H2,
     ⟨ts.length,rfl,.mk ⟨F1.f,λa=>Pp a\/a=D⟩ _ [] [] ⟨λa f=>⟨f,Ai λe=>p2.fd a f (e▸hD)⟩,λa f=>⟨.inl f,Ai λe=>nP (e▸f)⟩⟩ (.inr rfl) (p2.hide hD) Ak rfl ec⟩,λi m τσ H2 hc=>?_⟩
    obtain⟨rfl,F2,τ,acc,ys,l2,pD,ok2,hD2,racc,ec2⟩:=hc;by_cases hit:i<ts.length
    .have ei:ts[i]?=some ts[i]:=ag hit;rw[cL hit]at ec2;obtain⟨j1,j2⟩:=(jI F2 H2 l2.f ⟨_,_,_,ok2⟩ i).1 _ ei;refine .inr ⟨j1,CI K ⟨F1.f,Pp⟩ H1 D (Bof (E2 U src)) gt ft fe (vs,τe) (ts.drop (i+1)),λτσ' H' h=>⟨ts.length-(i+1),by lia,rfl,h⟩,λx H3 hy=>?_⟩;obtain⟨F3,⟨l23,nw⟩,rx⟩:=j2 x H3 hy;exact CI.turn nP (l2.trans l23) (l23.p D pD).1 (nw _ _ _ ok2) ((l23.p D pD).2.trans hD2) (racc.le l23) ec2 rx
    .refine .inl ⟨(jI F2 H2 l2.f ⟨_,_,_,ok2⟩ i).2 (by lia),?_⟩;rw[cU (by lia)]at ec2;simp only[Bh]at ec2;cases ec2;obtain⟨Li,o2⟩:=ok2;obtain⟨le,L,o3,sub⟩:=p4 F2 H2 τe τσ Li fs' l2 o2 eb;have nL:D∉L:=λm=>(sub D m).elim (λz=>o2.pl D z pD) nP
     have np:¬F1.p D:=λz=>nP (p1 D z)
     cases new with|true =>rw[if_pos rfl]at s1;exact s1 ⟨F2.f,F1.p⟩ H2 (.ref D) le (Qw o3 hD2 racc nL (λf=>o2.pf D f pD) np)|false =>rw[if_neg (by decide)]at s1;exact s1 (Hh ⟨F2.f,F1.p⟩ [D]) H2 (.ref D) (le.trans orF) (Qv o3 hD2 racc nL np)
   .exact s1.elim
  .exact s1.elim
 .exact s1.elim
theorem Cr(new:Bool)(N:List Str)(src:List (Option Nat))(hcalm:X.calm=true)(hi:FI X Z tg iter fi)(hg:∀cl C s H fp,GT (BP X N sc cl C s H fp) tg gt)(ht:∀cl C s H fp,FIf (BP X N sc cl C s H fp) ifs ft)
  (he:∀cl C s H fp,FE (BP X N sc cl C s H fp) Xp.no elt fe) (hS:GY X.env.scope sc=true:=by rfl) (hcap:EI X.N sc N src=true:=by rfl)
  (hs:∀x,foldedSetIterable iter X.env x=pure x:=by intro _;rfl):FE X Z (.ListComp elt [⟨tg,iter,ifs,0⟩] sc pos) (Bs new src fi gt ft fe) :=
 AI (SM (g:=tG X.K gt) (tt:=tT X.K Xp.no ft) (te:=tF X.K Xp.no fe) N src hcalm hi hg ht he hS hcap hs) λ_ _ _ h=>RH h
theorem Bx(new:Bool)(i:Nat){y:Str}{pos' spos:Pos}(N:List Str)(src:List (Option Nat))(hcalm:X.calm=true)(hN:X.N.Nodup)(hy:Loc X.env.scope y)(hi:FI X Z tg iter fi)(hg:∀cl C s H fp,GT (BP X N sc cl C s H fp) tg gt)(ht:∀cl C s H fp,FIf (BP X N sc cl C s H fp) ifs ft)
  (he:∀cl C s H fp,FE (BP X N sc cl C s H fp) Xp.no elt fe) (hiy:X.N[i]?=some y:=by rfl) (hS:GY X.env.scope sc=true:=by rfl) (hcap:EI X.N sc N src=true:=by rfl)
  (hs:∀x,foldedSetIterable iter X.env x=pure x:=by intro _;rfl) (hsw:swapsWith (.ListComp elt [⟨tg,iter,ifs,0⟩] sc pos) (some (.Name y pos')) spos.line X.env=pure true:=by rfl)
  (hf:X.fn y=true\/X.env.scope.names.lookup y=some .local:=by first|exact .inl rfl|exact .inr rfl|assumption) :
  GS X Z (.Assign [.Name y pos'] (.ListComp elt [⟨tg,iter,ifs,0⟩] sc pos) spos) (AK i (Bs new src fi gt ft fe)) :=
 Cb (LJ (g:=tG X.K gt) (tt:=tT X.K Xp.no ft) (te:=tF X.K Xp.no fe) N src hcalm hN hiy hy hi hg ht he hS hcap hs hsw hf) λ_ _ _ s=>RH (Vo s)
end
noncomputable def orG(g g':Rv->Rv->FS->Out Rv):Rv->Rv->FS->Out Rv:=λx y fs=>match g x y fs with|.bad=>g' x y fs|o=>o
theorem OpF.or{K:Fg}{Z:Xp}{r r':R2}{g g':Rv->Rv->FS->Out Rv}(h:OpF K Z r g)(h':OpF K Z r' g'):OpF K Z (orR r r') (orG g g'):=by intro F B H U fs x y u w Q ok rx ry s;unfold orG at s;cases e:g x y fs with|ok a t=>rw[e]at s;exact .inl (h F B H U fs x y u w Q ok rx ry (by rw[e];exact s))|exc c t=>rw[e]at s;exact .inl (h F B H U fs x y u w Q ok rx ry (by rw[e];exact s))|bad=>rw[e]at s;exact .inr (h' F B H U fs x y u w Q ok rx ry s)
noncomputable def orC(g g':List Rv->FS->Out Rv):List Rv->FS->Out Rv:=λx fs=>match g x fs with|.bad=>g' x fs|o=>o
theorem C4.or{K:Fg}{Z:Xp}{r r':List V->Hp->VK->Prop}{g g':List Rv->FS->Out Rv}(h:C4 K Z r g)(h':C4 K Z r' g'):C4 K Z (Q9 r r') (orC g g'):=by intro F B H U fs x u Q ok rx s;unfold orC at s;cases e:g x fs with|ok a t=>rw[e]at s;exact .inl (h F B H U fs x u Q ok rx (by rw[e];exact s))|exc c t=>rw[e]at s;exact .inl (h F B H U fs x u Q ok rx (by rw[e];exact s))|bad=>rw[e]at s;exact .inr (h' F B H U fs x u Q ok rx s)
noncomputable def exL(fs:FS):Rv->Option (List T)
 |.t (.lst ts)=>some ts
 |.n i=>match AE fs i with|some (.lst ts)=>some ts|_=>none
 |_=>none
theorem Ry{K:Fg}{B:Nat->Option V}{F:Wd}{H:Hp}{U:St}{fs:FS}{x:Rv}{u:V}{ts:List T}(h:Okk K F B H fs U)(r:BQ K F H U x u)(e:exL fs x=some ts):∃a vs,u=.ref a/\H a=some (.lst vs)/\Ac K F H ts vs:=by
 unfold exL at e;split at e
 .cases e;simp only[BQ,Ar]at r;obtain⟨a,vs,e,f,s,q⟩:=r;exact⟨a,vs,e,s,q⟩
 .rename_i i;split at e
  .rename_i ts' eo;cases e;obtain⟨v,L2,e1,q,_⟩:=h.own eo;have e2:U[i]?=some (some u):=r;rw[e1]at e2;have e3:v=u:=by simpa using e2
   subst e3;simp only[Ap]at q;obtain⟨a,vs,e,s,q,_⟩:=q;exact⟨a,vs,e,s,q⟩
  .cases e
 .cases e
noncomputable def L8:Rv->Rv->FS->Out Rv:=λx y fs=>match exL fs x,exL fs y with|some ts,some us=>if ts.length+us.length<=big then .ok (.nw (.lst (ts++us))) fs else .bad|_,_=>.bad
noncomputable def NV:Rv->Rv->FS->Out Rv
 |.t (.tup ts),.t (.tup us),fs=>if ts≠[]/\ts.length+us.length<=big then okT (.tup (ts++us)) fs else .bad
 |_,_,_=>.bad
section
variable{K:Fg}{Z:Xp}
theorem Ta:OpF K Z JaK L8:=by
 intro F B H U fs x y u w Q ok rx ry s;unfold L8 at s;split at s
 .rename_i ts us e1 e2;split at s
  next hl=>obtain⟨a,vs,rfl,hs,r⟩:=Ry ok rx e1;obtain⟨b,ws,rfl,hs2,r2⟩:=Ry ok ry e2;exact⟨a,b,vs,ws,rfl,rfl,hs,hs2,by rw[r.len,r2.len];exact aR hl Es,λp hp=>s F _ (.ref p) (AJ ok hp) (RR.alloc ok hp (C6 Ak ((r.app r2).le (AJ ok hp))))⟩
  .exact s.elim
 .exact s.elim
theorem S9:OpF K Z (Vw K) NV:=by
 intro F B H U fs x y u w Q ok rx ry s;unfold NV at s;split at s
 .rename_i ts us;split at s
  .rename_i hl;obtain⟨a,vs,rfl,hs,r⟩:=BL (ts:=ts) rx rfl;obtain⟨b,ws,rfl,hs2,r2⟩:=BL (ts:=us) ry rfl;refine⟨a,b,vs,ws,rfl,rfl,hs,hs2,λz=>hl.1 ?_,by rw[r.len,r2.len];exact aR hl.2 Es,λz=>?_,λ_ p hp=>s _ _ (.ref p) (AS ok hp) (Eu ok hp (r.app r2))⟩
   .have:=r.len;rw[z]at this;exact bS this.symm
   .have e:us=[]:=by have:=r2.len;rw[z]at this;exact bS this.symm
    subst e;rw[bj]at s;exact s F H _ Le.refl (RR.of ok rx)
  .exact s.elim
 .exact s.elim
noncomputable def NU:Rv->Rv->FS->Out Rv
 |.t (.tup []),.t (.tup us),fs=>okT (.tup us) fs
 |_,_,_=>.bad
theorem Pm:OpF K Z (Q2 K) NU:=by
 intro F B H U fs x y u w Q ok rx ry s;unfold NU at s;split at s
 .rename_i us;obtain⟨a,vs,rfl,hs,r⟩:=BL (ts:=[]) rx rfl;obtain⟨b,ws,rfl,hs2,r2⟩:=BL (ts:=us) ry rfl;have e:vs=[]:=by simpa[Ac]using r
  subst e;exact⟨a,b,ws,rfl,rfl,hs,hs2,s F H _ Le.refl (RR.of ok ry)⟩
 .exact s.elim
theorem S8:OpF K Z Vv J6:=by
 intro F B H U fs x y u w Q ok rx ry s;unfold J6 at s;split at s
 .split at s
  .rename_i t e;obtain⟨a,o',rfl,hd,h⟩:=Og ok rx ry e;rcases h with⟨h1,_⟩|⟨t',v,h1,h2,h3⟩
   .cases h1
   .cases h1;subst h2;exact⟨a,v,rfl,hd,s F H v Le.refl (RR.of ok h3)⟩
  .exact s.elim
 .exact s.elim
theorem Nj(neg:Bool):OpF K Z (Zt neg) (TR neg):=by
 intro F B H U fs y x w u Q ok ry rx s;unfold TR at s;split at s
 .split at s
  .rename_i t e;obtain⟨a,o',rfl,hd,h⟩:=Og ok rx ry e;refine⟨a,o',rfl,hd,?_⟩;have:o'.isSome=t.isSome:=by
    rcases h with⟨h1,h2⟩|⟨t',v,h1,h2,h3⟩
    .rw[h1,h2];rfl
    .rw[h1,h2];rfl
   rw[this];exact s F H _ Le.refl (RR.of ok rfl)
  .exact s.elim
 .exact s.elim
end
noncomputable def AG:=orG Jab (orG Qc (orG L8 (orG NV NU)))
noncomputable def Bq:=orG WU TL
noncomputable def AZ:=orG gIx J6
noncomputable def DC(neg:Bool):=orG (TR neg) (orG (IQ neg) (gIn neg))
noncomputable def Qa:List Rv->FS->Out Rv
 | [.t (.l ks _)],fs=>okT (.int ks.length) fs
 | [.n i],fs=>match AE fs i with|some (.l ks _)=>okT (.int ks.length) fs|_=>.bad
 |_,_=>.bad
noncomputable def Be:=orC Z8 (orC NS Qa)
noncomputable def Cd:=orC TM NR
section
variable{K:Fg}{Z:Xp}
theorem Uv:C4 K Z (λxs H Q=>∃a kvs,xs=[V.ref a]/\Rd H a (.l kvs)/\Q (.int kvs.length) H) Qa:=by
 intro F B H U fs rs vs Q ok q s;unfold Qa at s;split at s
 .obtain⟨v,rfl,qq⟩:=Bm q;have q:=qq;simp only[BQ,Ar]at q;obtain⟨a,kvs,rfl,f,hd,rfl,r⟩:=q;rw[ar]at s;exact⟨a,kvs,rfl,hd,s F H _ Le.refl (RR.of ok rfl)⟩
 .rename_i i;obtain⟨v,rfl,qq⟩:=Bm q;have q:=qq;split at s
  .rename_i eo;obtain⟨v',L2,e1,q2,_⟩:=ok.own eo;have e2:U[i]?=some (some v):=q;rw[e1]at e2;have e3:v'=v:=by simpa using e2
   subst e3;simp only[Ap]at q2;obtain⟨a,kvs,rfl,hd,rfl,_⟩:=q2;rw[ar]at s;exact⟨a,kvs,rfl,.inl hd,s F H _ Le.refl (RR.of ok rfl)⟩
  .exact s.elim
 .exact s.elim
end
section
variable{X:Cx}{Z:Xp}{a b:Expr}{fa fb:FS->Out Rv}{pos:Pos}
theorem XB(ha:FE X Z a fa)(hb:FE X Z b fb):FE X Z (.BinOp a .Add b pos) (Ag AG fa fb) :=
 J9 (OpF.or Wn (OpF.or Tb (OpF.or Ta (OpF.or S9 Pm)))) (OpR.orR Wf (OpR.orR LO (OpR.orR We (OpR.orR SX Pk)))) ha hb
theorem Xf(ha:FE X Z a fa)(hb:FE X Z b fb):FE X Z (.BinOp a .Sub b pos) (Ag J1 fa fb):=J9 Wh V6 ha hb
theorem Xk(ha:FE X Z a fa)(hb:FE X Z b fb):FE X Z (.BinOp a .Mult b pos) (Ag Bq fa fb):=J9 (OpF.or Wj S4) (OpR.orR SU M8) ha hb
theorem Xl(ha:FE X Z a fa)(hb:FE X Z b fb):FE X Z (.BinOp a .Mod b pos) (Ag Dw fa fb):=J9 Wk V9 ha hb
theorem Xw(ha:FE X Z a fa)(hb:FE X Z b fb):FE X Z (.BinOp a .FloorDiv b pos) (Ag Fb fa fb):=J9 Wm SW ha hb
theorem Jaj(hu:X.A.units+1<cLine)(ha:FE X Z a fa)(hb:FE X Z b fb)(hs:Ko b):FE X Z (.Subscript a b pos) (Ag AZ fa fb):=Jam (OpF.or ZT S8) (IxR.orR WG (Tv hu)) ha hb hs
theorem Jaq(ha:FE X Z a fa)(hb:FE X Z b fb):FE X Z (.Compare a [.Eq] [b] pos) (Ag (gEq false) fa fb):=K2 of_eq Wc ha hb (D9 _)
theorem W6(ha:FE X Z a fa)(hb:FE X Z b fb):FT X Z (.Compare a [.Eq] [b] pos) (asB (Ag (gEq false) fa fb)):=Eh of_eq Wc ha hb (D9 _)
theorem Jad(ha:FE X Z a fa)(hb:FE X Z b fb):FT X Z (.Compare a [.NotEq] [b] pos) (asB (Ag (gEq true) fa fb)):=Eh ZS ZP ha hb (D9 _)
theorem Jae(ha:FE X Z a fa)(hb:FE X Z b fb):FT X Z (.Compare a [.Lt] [b] pos) (asB (Ag gLt fa fb)):=Eh of_lt ZQ ha hb (D9 _)
theorem Jaf(ha:FE X Z a fa)(hb:FE X Z b fb):FT X Z (.Compare a [.LtE] [b] pos) (asB (Ag gLe fa fb)):=Eh of_le SV ha hb (D9 _)
theorem Jah(ha:FE X Z a fa)(hb:FE X Z b fb):FT X Z (.Compare a [.Gt] [b] pos) (asB (Ag gGt fa fb)):=Eh Wl Wa ha hb (D9 _)
theorem Jao(ha:FE X Z a fa)(hb:FE X Z b fb):FE X Z (.Compare a [.Gt] [b] pos) (Ag gGt fa fb):=K2 Wl Wa ha hb (D9 _)
theorem Jan(hu:X.A.units+1<cLine)(ha:FE X Z a fa)(hb:FE X Z b fb)(hm:behindInMarks .In b=false:=by rfl):FE X Z (.Compare a [.In] [b] pos) (Ag (DC false) fa fb) :=
 K2 (OpF.or (Nj false) (OpF.or KO (S5 false))) (OpR.orR (Ra hu) (OpR.orR IA IB)) ha hb hm
theorem Jag(hu:X.A.units+1<cLine)(ha:FE X Z a fa)(hb:FE X Z b fb)(hm:behindInMarks .In b=false:=by rfl):FT X Z (.Compare a [.In] [b] pos) (asB (Ag (DC false) fa fb)) :=
 Eh (OpF.or (Nj false) (OpF.or KO (S5 false))) (OpR.orR (Ra hu) (OpR.orR IA IB)) ha hb hm
theorem Qe(hu:X.A.units+1<cLine)(ha:FE X Z a fa)(hb:FE X Z b fb)(hm:behindInMarks .NotIn b=false:=by rfl):FT X Z (.Compare a [.NotIn] [b] pos) (asB (Ag (DC true) fa fb)) :=
 Eh (OpF.or (Nj true) (OpF.or JL (S5 true))) (OpR.orR (Na hu) (OpR.orR Iy Iz)) ha hb hm
end
noncomputable def itU(f:FS->Out Rv):FS->Out (List T):=λfs=>(f fs).bnd λr fs=>match r with|.t (.lst ts)=>.ok ts fs|.t (.z0 ts)=>.ok ts fs|.t (.tup ts)=>.ok ts fs|.t (.str z)=>.ok (signs z) fs|_=>.bad
theorem Xc{X:Cx}{Z:Xp}{tg l:Expr}{f:FS->Out Rv}(hl:FE X Z l f):FI X Z tg l (itU f):=by
 refine Iv (VN hl) λU H Q hpt => ?_
 obtain⟨F,B,fs,ok,s⟩:= hpt;refine⟨F,B,fs,ok,Az s λr fs1 F1 H1 u l ok1 rx s1=>?_⟩;split at s1
 next ts=>simp only[BQ,Ar]at rx;obtain⟨a,vs,rfl,ff,hs,r⟩:=rx;exact .inl ⟨a,rfl,⟨vs,SqL.of hs⟩,s1 F1 H1 _ Le.refl ⟨ok1,KS (λF' H' l=>SqL.of ((l a ff).2.trans hs)) r⟩⟩
 next ts=>simp only[BQ,Ar]at rx;obtain⟨a,vs,rfl,hs,r⟩:=rx;exact .inl ⟨a,rfl,⟨vs,hs.sq⟩,s1 F1 H1 _ Le.refl ⟨ok1,KS (λF' H' l=>(StL.lf l hs).sq) r⟩⟩
 next ts=>simp only[BQ,Ar]at rx;obtain⟨a,vs,rfl,hs,r⟩:=rx;exact .inr (.inl ⟨a,rfl,⟨vs,hs.sq⟩,s1 F1 H1 _ Le.refl ⟨ok1,Ts (λF' H' l=>SqT.of ((l a hs.2.1).2.trans hs.2.2)) r⟩⟩)
 next z=>exact .inr (.inr ⟨z,rx,s1 F1 H1 _ Le.refl ⟨ok1,Tt⟩⟩)
 .exact s1.elim
noncomputable def P7:Rv->Rv->Rv->FS->SO
 |.n i,.t (.int k),.t t,fs=>match AE fs i with
  |some (.lst ts)=>match ixN ts.length k with|some j=>.nx (putAt fs i (.lst (ts.set j t)))|none=>.bad
  |_=>.bad
 |_,_,_,_=>.bad
noncomputable def NP:Rv->Rv->Rv->FS->SO
 |.n i,.t y,.t t,fs=>match AE fs i with
  |some (.l ks ts)=>match Gm y with|some k=>if ks.length<big then .nx (putAt fs i (.l (Ew ks ts k t).1 (Ew ks ts k t).2))else .bad|none=>.bad
  |some (.dT ks ts)=>match y with
   |.tup ys=>match Gp ys with|some k=>if ks.length<big then .nx (putAt fs i (.dT (Ew ks ts k t).1 (Ew ks ts k t).2))else .bad|none=>.bad
   |_=>.bad
  |_=>.bad
 |_,_,_,_=>.bad
noncomputable def TK:Rv->Rv->Rv->FS->SO:=λo i v fs=>match P7 o i v fs with|.bad=>NP o i v fs|s=>s
noncomputable def Ca(fv fo fi:FS->Out Rv):FS->SO:=λfs=>SO.of ((fv fs).bnd λv fs=>(fo fs).bnd λo fs=>(fi fs).bnd λi fs=>.ok (v,o,i) fs) λ(v,o,i) fs=>TK o i v fs
section
variable{K:Fg}{Z:Xp}{B:Nat->Option V}{F:Wd}{H:Hp}{U:St}{fs:FS}{D:Ends}
theorem P6{o i v:Rv}{uo ui uv:V}(ok:Okk K F B H fs U)(ro:BQ K F H U o uo)(ri:BQ K F H U i ui)(rv:BQ K F H U v uv)(s:GJ K Z B F H (P7 o i v fs) D):O0 uo ui uv H (λH3=>D.nx U H3):=by
 unfold P7 at s;split at s
 .rename_i i k t;split at s
  .rename_i ts e;split at s
   next j ej=>obtain⟨a,us,rfl,hs,r,kk⟩:=ok.list ro e;obtain⟨ok',l⟩:=kk (ts.set j t) (us.set j uv) (Ac.set rv j r);exact⟨a,us,k,j,rfl,ri,hs,by rw[r.len];exact ej,s F _ U l ok'⟩
   .exact s.elim
  .exact s.elim
 .exact s.elim
theorem P8{o i v:Rv}{uo ui uv:V}(ok:Okk K F B H fs U)(ro:BQ K F H U o uo)(ri:BQ K F H U i ui)(rv:BQ K F H U v uv)(s:GJ K Z B F H (NP o i v fs) D):O1 uo ui uv H (λH3=>D.nx U H3):=by
 unfold NP at s;split at s
 .rename_i i y t;split at s
  .rename_i ks ts e;split at s
   .rename_i k ek;split at s
    .rename_i hl;obtain⟨v,L2,e1,q,nf,_,kk⟩:=ok.own e;have e2:U[i]?=some (some uo):=ro;rw[e1]at e2;have e3:v=uo:=by simpa using e2
     subst e3;simp only[Ap]at q;obtain⟨a,kvs,rfl,hs,rfl,q,rfl⟩:=q;have:=C5 ek ri;subst this;refine⟨a,_,rfl,Mq.k hs (by rw[ar]at hl;exact bW hl Gd),?_⟩;obtain⟨h1,h2⟩:=E6 (j:=k) rv q;have l:Le F H F (upd H a (.l (putK kvs k uv))):=⟨λb f=>⟨f,Ai λz=>(nf a (by simp)).1 (z▸f)⟩,λb f=>⟨f,Ai λz=>(nf a (by simp)).2 (z▸f)⟩⟩
     obtain⟨ok',l'⟩:=kk (.l (Ew (kvs.map (·.1)) ts k t).1 (Ew (kvs.map (·.1)) ts k t).2) (upd H a (.l (putK kvs k uv))) (λb hb _=>Ai (by simpa using hb)) (by simp only[Ap];exact⟨a,_,rfl,Ak,h1,h2.le l,rfl⟩);exact s F _ U l' ok'
    .exact s.elim
   .exact s.elim
  .rename_i ks ts e;split at s
   .rename_i ys;split at s
    .rename_i k ek;split at s
     .rename_i hl;obtain⟨v,L2,e1,q,nf,_,kk⟩:=ok.own e;have e2:U[i]?=some (some uo):=ro;rw[e1]at e2;have e3:v=uo:=by simpa using e2
      subst e3;simp only[Ap]at q;obtain⟨a,kvs,rfl,hs,rfl,q,rfl⟩:=q;simp only[BQ,Ar]at ri;obtain⟨b,vs,rfl,hb,rb⟩:=ri;have:=D6 ek rb;subst this;refine⟨a,_,rfl,Mq.t hs hb.2.2 (by rw[ar]at hl;exact bW hl Gd),?_⟩;obtain⟨h1,h2⟩:=E6 (j:=k) rv q;have l:Le F H F (upd H a (.dT (putK kvs k uv))):=⟨λb f=>⟨f,Ai λz=>(nf a (by simp)).1 (z▸f)⟩,λb f=>⟨f,Ai λz=>(nf a (by simp)).2 (z▸f)⟩⟩
      obtain⟨ok',l'⟩:=kk (.dT (Ew (kvs.map (·.1)) ts k t).1 (Ew (kvs.map (·.1)) ts k t).2) (upd H a (.dT (putK kvs k uv))) (λb hb _=>Ai (by simpa using hb)) (by simp only[Ap];exact⟨a,_,rfl,Ak,h1,h2.le l,rfl⟩);exact s F _ U l' ok'
     .exact s.elim
    .exact s.elim
   .exact s.elim
  .exact s.elim
 .exact s.elim
end
theorem PU{X:Cx}{Z:Xp}{o i e:Expr}{fv fo fi:FS->Out Rv}{tpos pos:Pos}(hu:X.A.units+1<cLine)(he:FE X Z e fv)(ho:FE X Z o fo)(hi:FE X Z i fi)
  (h:∀{te to ti:TE}{t:RN},PE X e te->PE X o to->PE X i ti->QN X t->PS X (.Assign [.Subscript o i tpos] e pos) (Vi te (Z4 to ti t))):GS X Z (.Assign [.Subscript o i tpos] e pos) (Ca fv fo fi):=by
 refine Cb (h he ho hi (QN.orR set_list (set_dict hu))) λD U H hpt=>?_
 obtain⟨F,B,fs,ok,s⟩:= hpt;have s':sat Z B (RR X.K B U) F H (fv fs) (λv H1=>Z4 (tF X.K Z fo) (tF X.K Z fi) (SR O0 O1) v U H1 D.nx):=by
  have s1:=Bz (R:=λF' H' fs' (a:Rv×Rv×Rv) (b:V×V×V)=>Okk X.K F' B H' fs' U/\BQ X.K F' H' U a.1 b.1/\BQ X.K F' H' U a.2.1 b.2.1/\BQ X.K F' H' U a.2.2 b.2.2) (Q:=λb H3=>SR O0 O1 b.2.1 b.2.2 b.1 H3 λH4=>D.nx U H4) s (λa fs' F' H' b l q s2=>by
   obtain⟨q1,q2,q3,q4⟩:=q;obtain⟨v,o,i⟩:=a;dsimp only at s2 q2 q3 q4 ⊢;unfold TK at s2;split at s2
   .exact .inr (P8 q1 q3 q4 q2 s2)
   .exact .inl (P6 q1 q3 q4 q2 s2))
  refine Az s1 λv fs1 F1 H1 uv l1 ok1 rv s2=>?_
  refine⟨F1,B,fs1,ok1,Az s2 λo fs2 F2 H2 uo l2 ok2 ro s3=>⟨F2,B,fs2,ok2,Az s3 λi fs3 F3 H3 ui l3 ok3 ri s4=>?_⟩⟩;exact s4 F3 H3 (uv,uo,ui) Le.refl ⟨ok3,(rv.le l2).le l3,ro.le l3,ri⟩
 exact⟨F,B,fs,ok,s'⟩
theorem PX{X:Cx}{Z:Xp}{st:Stmt}:GS X Z st (λ_=>.bad):=Cb O6 λD U H ⟨F,B,fs,ok,s⟩=>s.elim
section
variable{K:Fg}{B:Nat->Option V}{F F':Wd}{H H':Hp}{U:St}{fs:FS}{i:Nat}{ob:FO}{r:Rv}{u:V}
theorem RR.put(h:RR K B U F H fs r u)(e:AE fs i=some ob):∃v L2 L',U[i]?=some (some v)/\Ap K F H ob v L2/\OC K F H U r u L'/\(L2++L').Nodup/\(∀a∈L2++L',¬F a/\¬F.p a) /\
  ∀ob' H' M,(∀a,a∉L2->H a≠none->H' a=H a)->Ap K F H' ob' v M->M.Nodup->(∀b∈M,b∈L2\/b∈L')->Okk K F B H' (putAt fs i ob') U/\Le F H F H':=by
 obtain⟨L,L',h,qr,ndr,nfr⟩:=h;have key:∀s:Sl,fs[i]?=some (some s)->(s=.own ob\/s=.bor ob)->∃v L2 L',U[i]?=some (some v)/\Ap K F H ob v L2/\OC K F H U r u L'/\(L2++L').Nodup/\(∀a∈L2++L',¬F a/\¬F.p a) /\
  ∀ob' H' M,(∀a,a∉L2->H a≠none->H' a=H a)->Ap K F H' ob' v M->M.Nodup->(∀b∈M,b∈L2\/b∈L')->Okk K F B H' (fs.set i (some (s.put ob'))) U/\Le F H F H':=by
  intro s es ho;obtain⟨v,L1,L2,L3,e1,rfl,h1,h2⟩:=h.sl.pick es;obtain⟨u',rfl,q⟩:∃u,v=some u/\Ap K F H ob u L2:=by
   rcases ho with rfl|rfl
   .exact h1
   .exact h1
  have nd:=h.nd;have dis:∀a∈L1++L3,a∉L2:=λa ha hb=>by
   rw[ah]at nd;rcases av.mp ha with ha|ha
   .exact nd.2.2 a ha a (aB _ hb) rfl
   .have:=(ah.mp nd.2.1).2.2;exact this a hb a ha rfl
  have ndr':=ah.mp ndr;have dis':∀a∈L1++L3,a∉L':=λa ha hb=>ndr'.2.2 a (by
   rcases av.mp ha with ha|ha
   .simp[ha]
   .simp[ha]) a hb rfl
  refine⟨u',L2,L',e1,q,qr,?_,λa m=>?_,λob' H' M k q' hm hsub=>?_⟩
  .rw[ah];refine⟨?_,ndr'.2.1,λa ha b hb=>ndr'.2.2 a (by simp[ha]) b hb⟩;rw[ah]at nd;exact(ah.mp nd.2.1).1
  .rcases av.mp m with m|m
   .exact⟨h.nf a (by simp[m]),h.pl a (by simp[m])⟩
   .exact nfr a m
  .have l:Le F H F H':=⟨λa f=>⟨f,k a (λm=>h.nf a (by simp[m]) f) (h.fd a f)⟩,λa f=>⟨f,k a (λm=>h.pl a (by simp[m]) f) (h.pd a f)⟩⟩
   have nfM:∀a∈L1++(M++L3),¬F a/\¬F.p a:=λa m=>by
    rcases av.mp m with m|m
    .exact⟨h.nf a (by simp[m]),h.pl a (by simp[m])⟩
    .rcases av.mp m with m|m
     .rcases hsub a m with z|z
      .exact⟨h.nf a (by simp[z]),h.pl a (by simp[z])⟩
      .exact nfr a z
     .exact⟨h.nf a (by simp[m]),h.pl a (by simp[m])⟩
   refine⟨⟨L1++(M++L3),?_,BO nd hm (λa m m2=>?_),λa m=>(nfM a m).1,λa f=>by rw[(l.f a f).2];exact h.fd a f,?_,λa f=>by rw[(l.p a f).2];exact h.pd a f,h.pf,λa m=>(nfM a m).2⟩,l⟩
   .have hL:∀a∈L1++L3,H' a=H a:=λa m=>k a (dis a m) (h.sl.def a (by
      rcases av.mp m with m|m
      .simp[m]
      .simp[m]))
    have h3:=h2 F H' (some (s.put ob')) (some u') M l hL (by
     rcases ho with rfl|rfl
     .exact⟨u',rfl,q'⟩
     .exact⟨u',rfl,q'⟩)
    rwa[A6 e1]at h3
   .rcases hsub a m with z|z
    .exact dis a m2 z
    .exact dis' a m2 z
   .have:=EM.put (i:=i) (s:=some (s.put ob')) (v:=some u') h.bo (λo eo=>by
     rcases ho with rfl|rfl
     .cases eo
     .obtain⟨w,e3,e4⟩:=h.bo i ob es;rw[e1]at e3;have e5:u'=w:=by simpa using e3
      exact⟨u',rfl,by rw[e5];exact e4⟩) h.sl.len
    rwa[A6 e1]at this
 unfold AE at e;split at e
 next o es=>cases e;obtain⟨v,L2,L',a1,a2,a3,a4,a5,a6⟩:=key _ es (.inl rfl);refine⟨v,L2,L',a1,a2,a3,a4,a5,λob' H' M k q m1 m2=>?_⟩;have:=a6 ob' H' M k q m1 m2;unfold putAt;rw[es];exact this
 next o es=>cases e;obtain⟨v,L2,L',a1,a2,a3,a4,a5,a6⟩:=key _ es (.inr rfl);refine⟨v,L2,L',a1,a2,a3,a4,a5,λob' H' M k q m1 m2=>?_⟩;have:=a6 ob' H' M k q m1 m2;unfold putAt;rw[es];exact this
 .cases e
end
noncomputable def Yb:Rv->Option FO
 |.t t=>some (.val t)
 |.nw o=>some o
 |.n _=>none
noncomputable def EX:List Str->List FO->Str->FO->Option (List Str×List FO)
 | [],[],f,o=>some ([f],[o])
 |g::gs,x::os,f,o=>if g=f then(match x with|.val _=>some (g::gs,o::os)|_=>none)else(EX gs os f o).map λp=>(g::p.1,x::p.2)
 |_,_,_,_=>none
theorem Io{K:Fg}{F:Wd}{H:Hp}{f:Str}{o:FO}{y:V}{L':List Addr}(ro:Ap K F H o y L'):∀{kvs:List (Str×V)}{os os':List FO}{gs':List Str}{L:List Addr},Aq K F H os (kvs.map (·.2)) L->EX (kvs.map (·.1)) os f o=some (gs',os') ->
  ∃M,(EO f y kvs).map (·.1)=gs'/\Aq K F H os' ((EO f y kvs).map (·.2)) M/\(∀a∈M,a∈L\/a∈L')/\((L++L').Nodup->M.Nodup)
 | [],os,os',gs',L,r,e=>by cases os with|cons x os=>simp[EX]at e|nil =>simp only[cn,EX,Option.some.injEq,Prod.mk.injEq]at e;obtain⟨rfl,rfl⟩:=e;refine⟨L',rfl,?_,λa m=>.inr m,λnd=>(ah.mp nd).2.1⟩;simp only[EO,aj,cn,Aq];exact⟨y,[],L',[],rfl,ro,⟨rfl,rfl⟩,by simp⟩
 |(g,x)::kvs,os,os',gs',L,r,e=>by
  cases os with
  |nil=>simp[EX]at e
  |cons o1 os =>
   simp only[aj,Aq]at r;obtain⟨v,w,L1,L2,ee,r1,r2,rfl⟩:=r;cases ee;simp only[aj,EX]at e;by_cases hg:g=f
   .rw[if_pos hg]at e;cases o1 with
    |val t =>
     simp only[Option.some.injEq,Prod.mk.injEq]at e;obtain⟨rfl,rfl⟩:=e;simp only[Ap]at r1;obtain⟨rfl,_⟩:=r1;refine⟨L'++L2,?_,?_,λa m=>?_,λnd=>?_⟩
     .simp only[EO];rw[if_pos hg];rfl
     .simp only[EO];rw[if_pos hg];simp only[aj,Aq];exact⟨y,_,L',L2,rfl,ro,r2,rfl⟩
     .rcases av.mp m with m|m
      .exact .inr m
      .exact .inl (by simpa using m)
     .rw[bN]at nd;exact(List.perm_append_comm).nodup_iff.mp nd
    |lst _=>cases e
    |l _ _=>cases e
    |dT _ _=>cases e
    |ins _ _ _=>cases e
    |zm _=>cases e
    |zj _=>cases e
    |dO _ _=>cases e
    |la _ _=>cases e
   .rw[if_neg hg,aA]at e;obtain⟨p,ep,e⟩:=e;simp only[Prod.mk.injEq]at e;obtain⟨rfl,rfl⟩:=e;obtain⟨M,m1,m2,m3,m4⟩:=Io ro r2 (gs':=p.1) (os':=p.2) (by rw[ep]);refine⟨L1++M,?_,?_,λa m=>?_,λnd=>?_⟩
    .simp only[EO];rw[if_neg hg,aj,m1]
    .simp only[EO];rw[if_neg hg];simp only[aj,Aq];exact⟨x,_,L1,M,rfl,r1,m2,rfl⟩
    .rcases av.mp m with m|m
     .exact .inl (aB _ m)
     .rcases m3 a m with z|z
      .exact .inl (aC _ z)
      .exact .inr z
    .rw[bu,ah]at nd;rw[ah];refine⟨nd.1,m4 nd.2.1,λa ha b hb e=>?_⟩;rcases m3 b hb with z|z
     .exact nd.2.2 a ha b (aB _ z) e
     .exact nd.2.2 a ha b (aC _ z) e
noncomputable def HL(C:Addr)(f:Str)(i:Nat)(fv:FS->Out Rv):FS->SO:=λfs=>SO.of (fv fs) λr fs=>match Yb r,AE fs i with|some o,some (.ins C' gs os)=>if C'=C/\gs.length<900 then(match EX gs os f o with|some p=>.nx (putAt fs i (.ins C p.1 p.2))|none=>.bad)else .bad|_,_=>.bad
theorem WQ{X:Cx}{Z:Xp}{x f:Str}{e:Expr}{fv:FS->Out Rv}{C:Addr}{p1 p2 pos:Pos}(c:Cls X.K C)(n:Bi X.K C f)(i:Nat)(he:FE X Z e fv)
  (h:∀{tv:TE},PE X e tv->PS X (.Assign [.Attribute (.Name x p1) f p2] e pos) (JaG X.K (OE i) tv f)):GS X Z (.Assign [.Attribute (.Name x p1) f p2] e pos) (HL C f i fv):=by
 refine Cb (h he) λD U H hpt => ?_
 obtain⟨F,B,fs,ok,s⟩:= hpt;refine⟨F,B,fs,ok,Bz s λr fs1 F1 H1 u l q s1=>?_⟩;split at s1
 .rename_i o C' gs os e1 e2;split at s1
  .rename_i hC;obtain⟨rfl,hl⟩:=hC;split at s1
   .rename_i p ep;obtain⟨v,L2,L',a1,a2,a3,a4,a5,a6⟩:=RR.put q e2;simp only[Ap]at a2;obtain⟨a,dx,kvs,L3,rfl,hd,rfl,ro,rfl⟩:=a2;have rfo:Ap X.K F1 H1 o u L':=by cases r with|t t =>cases e1;simp only[Ap];exact a3|nw o'=>cases e1;exact a3|n j=>cases e1
    obtain⟨M,m1,m2,m3,m4⟩:=Io rfo ro (gs':=p.1) (os':=p.2) (by rw[ep]);have nd2:(L3++L').Nodup:=(bh.mp a4).2;have na:a∉L3++L':=(bh.mp a4).1;have naM:a∉M:=λz=>na (by
     rcases m3 a z with z|z
     .exact aB _ z
     .exact aC _ z)
    have k1:∀b,b∉a::L3->H1 b≠none->(upd H1 a (.ins C' dx (EO f u kvs))) b=H1 b:=λb hb _=>Ai λz=>hb (by rw[z];simp)
    have l1:Le F1 H1 F1 (upd H1 a (.ins C' dx (EO f u kvs))):=⟨λb f=>⟨f,Ai λz=>(a5 a (by simp)).1 (z▸f)⟩,λb f=>⟨f,Ai λz=>(a5 a (by simp)).2 (z▸f)⟩⟩
    obtain⟨ok',l'⟩:=a6 (.ins C' p.1 p.2) (upd H1 a (.ins C' dx (EO f u kvs))) (a::M) k1 (by
     simp only[Ap];exact⟨a,dx,_,M,rfl,Ak,m1,Aq.le l1 (λb hb=>Ai λz=>naM (z▸hb)) m2,rfl⟩) (bh.mpr ⟨naM,m4 nd2⟩) (λb hb=>by
     rcases aH.mp hb with z|z
     .exact .inl (by rw[z];simp)
     .rcases m3 b z with z|z
      .exact .inl (ao _ z)
      .exact .inr z)
    exact⟨_,a1,a,C',dx,kvs,rfl,hd,c,n,by rw[ar]at hl;lia,s1 F1 _ U l' ok'⟩
   .exact s1.elim
  .exact s1.elim
 .exact s1.elim
noncomputable def BK:List Str->List FO->Str->FO->List FO
 |g::gs,x::os,f,o=>if f==g then o::os else x::BK gs os f o
 |_,os,_,_=>os
theorem Ij{K:Fg}{F:Wd}{H:Hp}{f:Str}{ks:List Key}{ts:List T}:∀{kvs:List (Str×V)}{os:List FO}{L:List Addr},Aq K F H os (kvs.map (·.2)) L->L.Nodup->Bn (kvs.map (·.1)) os f=some (.l ks ts) ->
  ∃b dkvs,kvs.lookup f=some (.ref b)/\b∈L/\H b=some (.l dkvs)/\dkvs.map (·.1)=ks/\Ac K F H ts (dkvs.map (·.2)) /\
   ∀H' o',(∀a∈L,a≠b->H' a=H a)->Le F H F H'->Ap K F H' o' (.ref b) [b]->Aq K F H' (BK (kvs.map (·.1)) os f o') (kvs.map (·.2)) L
 | [],os,L,r,nd,e=>by cases os<;>simp[Bn]at e
 |(g,x)::kvs,os,L,r,nd,e=>by cases os with|nil=>simp[Bn]at e|cons o1 os =>simp only[aj,Aq]at r;obtain⟨v,w,L1,L2,ee,r1,r2,rfl⟩:=r;cases ee;simp only[aj,Bn]at e;rw[br];have nd':=ah.mp nd;cases hb:f==g with|true =>rw[hb]at e;cases e;simp only[Ap]at r1;obtain⟨b,dkvs,rfl,hd,rfl,rt,rfl⟩:=r1;refine⟨b,dkvs,rfl,by simp,hd,rfl,rt,λH' o' k l ro=>?_⟩;simp only[aj,BK,hb,if_true,Aq];refine⟨.ref b,_,[b],L2,rfl,ro,Aq.le l (λa m=>k a (by simp[m]) λz=>nd'.2.2 b (by simp) a m z.symm) r2,rfl⟩|false =>rw[hb]at e;obtain⟨b,dkvs,h1,h2,h3,h4,h5,h6⟩:=Ij r2 nd'.2.1 (by simpa using e);refine⟨b,dkvs,h1,aC _ h2,h3,h4,h5,λH' o' k l ro=>?_⟩;have:=h6 H' o' (λa m=>k a (aC _ m)) l ro;simp only[aj,BK,hb,Aq];exact⟨x,_,L1,L2,rfl,r1.le l λa m=>k a (aB _ m) λz=>nd'.2.2 a m b h2 z,this,rfl⟩
noncomputable def BI(C:Addr)(f:Str)(i j:Nat)(fv:FS->Out Rv):FS->SO:=λfs=>SO.of (fv fs) λr fs=>match r,AE fs i,fs[j]? with|.t t,some (.ins C' gs os),some (some (.val y))=>if C'=C then(match Bn gs os f,Gm y with|some (.l ks ts),some k=>if ks.length<big then .nx (putAt fs i (.ins C gs (BK gs os f (.l (Ew ks ts k t).1 (Ew ks ts k t).2))))else .bad|_,_=>.bad)else .bad|_,_,_=>.bad
theorem PZ{X:Cx}{Z:Xp}{x y f:Str}{e:Expr}{fv:FS->Out Rv}{C:Addr}{p1 p2 p3 p4 pos:Pos}(c:Cls X.K C)(n:Bi X.K C f)(i j:Nat)(he:FE X Z e fv)
  (h:∀{tv:TE},PE X e tv->PS X (.Assign [.Subscript (.Attribute (.Name x p1) f p2) (.Name y p3) p4] e pos) (Vq (JaF X.K (OE i) f) (OE j) tv)) :
  GS X Z (.Assign [.Subscript (.Attribute (.Name x p1) f p2) (.Name y p3) p4] e pos) (BI C f i j fv):=by
 refine Cb (h he) λD U H hpt => ?_
 obtain⟨F,B,fs,ok,s⟩:= hpt;refine⟨F,B,fs,ok,Bz s λr fs1 F1 H1 u l q s1=>?_⟩;split at s1
 .rename_i t C' gs os y' e2 e3;split at s1
  .rename_i hC;subst hC;split at s1
   .rename_i ks ts k e4 e5;split at s1
    .rename_i hl;have rt:Ar X.K F1 H1 t u:=by obtain⟨_,_,_,⟨_,q⟩,_⟩:=q;exact q
     have ok1:=q.ok;obtain⟨v,L2,a1,a2,a3,a4,a5⟩:=ok1.own e2;simp only[Ap]at a2;obtain⟨a,dx,kvs,L3,rfl,hd,rfl,ro,rfl⟩:=a2;have ndc:=bh.mp a4;obtain⟨b,dkvs,b1,b2,b3,rfl,b5,b6⟩:=Ij ro ndc.2 e4;obtain⟨L9,o9⟩:=id ok1;obtain⟨w,M1,M2,M3,e6,_,h1,_⟩:=o9.sl.pick e3;obtain⟨uy,rfl,ry,_⟩:=h1;have:=C5 e5 ry;subst this;have hab:a≠b:=λz=>ndc.1 (z▸b2)
     obtain⟨h1,h2⟩:=E6 (j:=k) rt b5;have nb:=a3 b (ao _ b2);have l1:Le F1 H1 F1 (upd H1 b (.l (putK dkvs k u))):=⟨λz f=>⟨f,Ai λq=>nb.1 (q▸f)⟩,λz f=>⟨f,Ai λq=>nb.2 (q▸f)⟩⟩
     obtain⟨ok',l'⟩:=a5 (.ins C' (kvs.map (·.1)) (BK (kvs.map (·.1)) os f (.l (Ew (dkvs.map (·.1)) ts k t).1 (Ew (dkvs.map (·.1)) ts k t).2))) (upd H1 b (.l (putK dkvs k u))) (λz hz _=>Ai λq=>hz (by rw[q];exact ao _ b2)) (by simp only[Ap];refine⟨a,dx,kvs,L3,rfl,by rw[Ai hab];exact hd,rfl,b6 _ _ (λz _ hz=>Ai hz) l1 ?_,rfl⟩;simp only[Ap];exact⟨b,_,rfl,Ak,h1,h2.le l1,rfl⟩);exact⟨_,a1,a,C',dx,kvs,.ref b,rfl,hd,c,n,b1,kV k,e6,b,_,rfl,Mq.k b3 (by rw[ar]at hl;exact bW hl Gd),s1 F1 _ U l' ok'⟩
    .exact s1.elim
   .exact s1.elim
  .exact s1.elim
 .exact s1.elim
section
variable{X:Cx}{Z:Xp}{e:Expr}{es:List Expr}{fa:FS->Out (List Rv)}{pos p:Pos}
theorem Xo(hm:X.mg "len"=none)(ha:FA X Z (e::es) fa)(hg:Gl X "len":=by rfl)(he:starEach (e::es) X.env=(false,eval e X.env)::starEach es X.env:=by rfl)(hpl:(backTo pos (starEach es X.env)).any (·.1)=false:=by rfl) :
  FE X Z (.Call (.Name "len" p) (e::es) [] pos) (Af Be fa):=Fc (C4.or XT (C4.or Uu Uv)) (Co.orR Jg (Co.orR Jf Mg)) hm PySem.boot_len ha hg (by decide) (by decide) he hpl
theorem Xe(hm:X.mg "sum"=none)(ha:FA X Z (e::es) fa)(hc:X.calm=true:=by rfl)(hg:Gl X "sum":=by rfl)(he:starEach (e::es) X.env=(false,eval e X.env)::starEach es X.env:=by rfl)(hpl:(backTo pos (starEach es X.env)).any (·.1)=false:=by rfl) :
  FE X Z (.Call (.Name "sum" p) (e::es) [] pos) (Af Ya fa):=Fc XS (QC hc) hm boot_sum ha hg (by decide) (by decide) he hpl
theorem XA(hm:X.mg "all"=none)(ha:FA X Z (e::es) fa)(hc:X.calm=true:=by rfl)(hg:Gl X "all":=by rfl)(he:starEach (e::es) X.env=(false,eval e X.env)::starEach es X.env:=by rfl)(hpl:(backTo pos (starEach es X.env)).any (·.1)=false:=by rfl) :
  FE X Z (.Call (.Name "all" p) (e::es) [] pos) (Af WY fa):=Fc XX (QE hc) hm boot_all ha hg (by decide) (by decide) he hpl
theorem Ub(hm:X.mg "list"=none)(ha:FA X Z (e::es) fa)(hc:X.calm=true:=by rfl)(hg:Gl X "list":=by rfl)(he:starEach (e::es) X.env=(false,eval e X.env)::starEach es X.env:=by rfl)(hpl:(backTo pos (starEach es X.env)).any (·.1)=false:=by rfl) :
  FE X Z (.Call (.Name "list" p) (e::es) [] pos) (Af Cd fa):=Ej (C4.or Ut QA) (Co.orR Je (Ga hc)) hm boot_list ha hg (by decide) (by decide) he hpl
theorem Qi(hm:X.mg "tuple"=none)(ha:FA X Z (e::es) fa)(hg:Gl X "tuple":=by rfl)(he:starEach (e::es) X.env=(false,eval e X.env)::starEach es X.env:=by rfl)(hpl:(backTo pos (starEach es X.env)).any (·.1)=false:=by rfl) :
  FE X Z (.Call (.Name "tuple" p) (e::es) [] pos) (Af A9 fa):=Ej Qz HU hm boot_tuple ha hg (by decide) (by decide) he hpl
theorem Uc(hm:X.mg "int"=none)(ha:FA X Z (e::es) fa)(hg:Gl X "int":=by rfl)(he:starEach (e::es) X.env=(false,eval e X.env)::starEach es X.env:=by rfl)(hpl:(backTo pos (starEach es X.env)).any (·.1)=false:=by rfl) :
  FE X Z (.Call (.Name "int" p) (e::es) [] pos) (Af HK fa):=Ej Uw Ot hm boot_int ha hg (by decide) (by decide) he hpl
end
noncomputable def J2:=gI λi j fs=>if 0<=j/\j<=1000000/\i.natAbs<2^64 then okT (.int (i^j.toNat)) fs else .bad
theorem Wi{K:Fg}{Z:Xp}:OpF K Z (rI JaS λi j=>.int (i^j.toNat)) J2:=M7 (t:=λi j=>.int (i^j.toNat)) (λ_ _ _ _ _=>rfl) λi j fs=>by
 by_cases h:0<=j/\j<=1000000/\i.natAbs<2^64
 .exact .inr ⟨h,if_pos h⟩
 .exact .inl (if_neg h)
theorem Xi{X:Cx}{Z:Xp}{a b:Expr}{fa fb:FS->Out Rv}{pos:Pos}(ha:FE X Z a fa)(hb:FE X Z b fb):FE X Z (.BinOp a .Pow b pos) (Ag J2 fa fb):=J9 Wi V7 ha hb
def RP(K:Fg)(B:Nat->Option V)(U:St):Wd->Hp->FS->Option Int->Option Int->Prop:=λF H fs a b=>Okk K F B H fs U/\b=a
def tP(K:Fg)(Z:Xp)(f:FS->Out (Option Int)):TO:=λU H Q=>∃F B fs,Okk K F B H fs U/\sat Z B (RP K B U) F H (f fs) Q
def FP(X:Cx)(Z:Xp)(e:Option Expr)(f:FS->Out (Option Int)):Prop:=PO X e (tP X.K Z f)
theorem Q5{X:Cx}{e:Option Expr}{t t':TO}(h:PO X e t)(i:∀U H Q,t' U H Q->t U H Q):PO X e t':=λpins s U H Q I q=>h pins s U H Q I (i _ _ _ q)
noncomputable def noP:FS->Out (Option Int):=λfs=>.ok none fs
noncomputable def Dl(f:FS->Out Rv):FS->Out (Option Int):=λfs=>(f fs).bnd λr fs=>match r with|.t (.int i)=>.ok (some i) fs|_=>.bad
noncomputable def Mp(ts:List T)(lo hi:Option Int):List T:=(ts.drop (HT.sIx ts.length 0 lo)).take (HT.sIx ts.length ts.length hi-HT.sIx ts.length 0 lo)
theorem La{K:Fg}{F:Wd}{H:Hp}{ts:List T}{vs:List V}{lo hi:Option Int}(r:Ac K F H ts vs):Ac K F H (Mp ts lo hi) (RG vs lo hi):=by unfold Mp RG;rw[r.len];exact(r.drop _).take _
noncomputable def NO:Rv->Option Int->Option Int->FS->Out Rv:=λx lo hi fs=>match Dm fs x with|some ts=>okT (.lst (Mp ts lo hi)) fs|none=>match x with|.t (.tup ts)=>okT (.tup (Mp ts lo hi)) fs|_=>.bad
noncomputable def slF(f:FS->Out Rv)(l h:FS->Out (Option Int)):FS->Out Rv:=λfs=>(f fs).bnd λx fs=>(l fs).bind λlo fs=>(h fs).bind λhi fs=>NO x lo hi fs
section
variable{X:Cx}{Z:Xp}{e:Expr}{lo hi:Option Expr}{f:FS->Out Rv}{l h:FS->Out (Option Int)}{pos p2:Pos}
theorem T3:FP X Z none noP:=Q5 Sz λU H Q ⟨F,B,fs,ok,s⟩=>s F H none Le.refl ⟨ok,rfl⟩
theorem TZ(he:FE X Z e f):FP X Z (some e) (Dl f):=by
 refine Q5 (Sx he) λU H Q hpt => ?_
 obtain⟨F,B,fs,ok,s⟩:= hpt;refine⟨F,B,fs,ok,Az s λr fs1 F1 H1 u l ok1 rx s1=>?_⟩;split at s1
 .exact⟨_,rx,s1 F1 H1 _ Le.refl ⟨ok1,rfl⟩⟩
 .exact s1.elim
theorem Jak(he:FE X Z e f)(hl:FP X Z lo l)(hu:FP X Z hi h):FE X Z (.Subscript e (.Slice lo hi none p2) pos) (slF f l h):=by
 refine AI (KG (SlR.or Si (SlR.or Vk Vn)) he hl hu) λU H Q hpt => ?_
 obtain⟨F,B,fs,ok,s⟩:= hpt;refine⟨F,B,fs,ok,Az s λx fs1 F1 H1 u l1 ok1 rx s1=>⟨F1,B,fs1,ok1,Ay s1 λlo fs2 F2 H2 lo' l2 q2 s2=>?_⟩⟩;obtain⟨ok2,rfl⟩:=q2;refine⟨F2,B,fs2,ok2,Ay s2 λhi fs3 F3 H3 hi' l3 q3 s3=>?_⟩;obtain⟨ok3,rfl⟩:=q3;have rx3:=(rx.le l2).le l3;unfold NO at s3;split at s3
 next ts e=>obtain⟨a,vs,rfl,hs,r⟩:=Bg ok3 rx3 e;exact .inl ⟨a,vs,rfl,hs,λp hp=>s3 _ _ (.ref p) (AS ok3 hp) (LG ok3 hp (La r))⟩
 .split at s3
  .rename_i ts _;obtain⟨a,vs,rfl,hs,r⟩:=BL (ts:=ts) rx3 rfl;by_cases hw:HT.sIx ts.length 0 lo'=0/\HT.sIx ts.length ts.length hi'=ts.length
   .refine .inr (.inr ⟨a,vs,rfl,hs,by rw[r.len];exact hw,s3 F3 H3 _ Le.refl (RR.of ok3 ?_)⟩);have e:Mp ts lo' hi'=ts:=by unfold Mp;rw[hw.1,hw.2];simp
    rw[e];exact rx3
   .exact .inr (.inl ⟨a,vs,rfl,hs,by rw[r.len];exact hw,λp hp=>s3 _ _ (.ref p) (AS ok3 hp) (Eu ok3 hp (La r))⟩)
  .exact s3.elim
end
noncomputable def Jr:T->Option (List T)
 |.lst ts=>some ts
 |.z0 ts=>some ts
 |.tup ts=>some ts
 |_=>none
noncomputable def pairs:List T->List T->List T
 |x::xs,y::ys=>.tup [x,y]::pairs xs ys
 |_,_=>[]
theorem pairs_at:∀{xs ys:List T}{i:Nat}{t:T},(pairs xs ys)[i]?=some t->∃x y,xs[i]?=some x/\ys[i]?=some y/\t=.tup [x,y]
 | [],_,i,t,h=>by simp[pairs]at h
 |_::_,[],i,t,h=>by simp[pairs]at h
 |x::xs,y::ys,0,t,h=>by simp only[pairs,cu,Option.some.injEq]at h;exact⟨x,y,rfl,rfl,h.symm⟩
 |x::xs,y::ys,i+1,t,h=>by simp only[pairs,List.getElem?_cons_succ]at h;simpa using pairs_at h
theorem pairs_len:∀{xs ys:List T}{i:Nat},(pairs xs ys).length<=i->xs.length<=i\/ys.length<=i
 | [],_,i,h=>.inl (by simp)
 |_::_,[],i,h=>.inr (by simp)
 |x::xs,y::ys,0,h=>by simp[pairs]at h
 |x::xs,y::ys,i+1,h=>by simp only[pairs,aX,Nat.add_le_add_iff_right]at h;simpa using pairs_len h
theorem Fo{K:Fg}{F:Wd}{H:Hp}{t:T}{ts:List T}{u:V}(r:Ar K F H t u)(e:Jr t=some ts):∃b a vs,u=.ref a/\Ac K F H ts vs/\∀(F':Wd)(H':Hp),(∀a,F a->F' a/\H' a=H a)->SqB b K H' a vs:=by
 unfold Jr at e;split at e
 .cases e;simp only[Ar]at r;obtain⟨a,vs,rfl,f,hs,r⟩:=r;exact⟨false,a,vs,rfl,r,λF' H' l=>SqL.of ((l a f).2.trans hs)⟩
 .cases e;simp only[Ar]at r;obtain⟨a,vs,rfl,hs,r⟩:=r;exact⟨false,a,vs,rfl,r,λF' H' l=>(StL.lf l hs).sq⟩
 .cases e;simp only[Ar]at r;obtain⟨a,vs,rfl,hs,r⟩:=r;exact⟨true,a,vs,rfl,r,λF' H' l=>SqT.of ((l a hs.2.1).2.trans hs.2.2)⟩
 .cases e
noncomputable def itZ(f g:FS->Out Rv):FS->Out (List T):=λfs=>(f fs).bnd λr fs=>(g fs).bnd λr' fs=>match r,r' with
 |.t x,.t y=>match Jr x,Jr y with|some xs,some ys=>.ok (pairs xs ys) fs|_,_=>.bad
 |_,_=>.bad
theorem Tr{K:Fg}{F:Wd}{H:Hp}{b1 b2:Bool}{a1 a2:Addr}{vs ws:List V}{xs ys:List T}(h1:∀(F':Wd)(H':Hp),(∀a,F a->F' a/\H' a=H a)->SqB b1 K H' a1 vs)(h2:∀(F':Wd)(H':Hp),(∀a,F a->F' a/\H' a=H a)->SqB b2 K H' a2 ws)
  (r1:Ac K F H xs vs) (r2:Ac K F H ys ws):JOk K F H (Itz K b1 a1 b2 a2) (pairs xs ys):=by
 intro F' H' l ⟨B,fs,U,ok⟩ i;have q1:=Ac.lf l r1;have q2:=Ac.lf l r2;refine⟨λt et=>?_,λhl=>⟨vs,ws,h1 F' H' l,h2 F' H' l,by rw[r1.len,r2.len];exact pairs_len hl⟩⟩;obtain⟨x,y,ex,ey,rfl⟩:=pairs_at et;obtain⟨v,ev,rv⟩:=q1.at ex;obtain⟨w,ew,rw'⟩:=q2.at ey;refine⟨⟨vs,ws,v,w,h1 F' H' l,h2 F' H' l,ev,ew⟩,λz H'' hy=>?_⟩;obtain⟨T,vx,vy,hn,rfl,rfl,g1,g2⟩:=hy;have e1:=g1 vs (h1 F' H' l);have e2:=g2 ws (h2 F' H' l);rw[ev]at e1;rw[ew]at e2;cases e1;cases e2;refine⟨OB F' T,⟨AS ok hn,λB fs U k=>k.alloc hn⟩,?_⟩;simp only[Ar];exact⟨T,[v,w],rfl,⟨rfl,.inr rfl,Ak⟩,by simp only[Ac];exact⟨v,[w],rfl,rv.le (AS ok hn),w,[],rfl,rw'.le (AS ok hn),rfl⟩⟩
theorem Xb{X:Cx}{Z:Xp}{a b:Expr}{fa fb:FS->Out Rv}{p pos tpos:Pos}{elts:List Expr}{k0:Nat}(hm:X.mg "zip"=none)(ha:FE X Z a fa)(hb:FE X Z b fb)(hg:Gl X "zip":=by rfl)
  (hs:starEach [a,b] X.env=[(false,eval a X.env),(false,eval b X.env)]:=by rfl) (hs2:starEach [b] X.env=[(false,eval b X.env)]:=by rfl):FI X Z (.Tuple elts k0 tpos) (.Call (.Name "zip" p) [a,b] [] pos) (itZ fa fb):=by
 refine Iv (VM hg hm (BN ha (BN hb D8 hs2) (by rw[hs,hs2])) hs hs2) λU H Q hpt=>?_
 obtain⟨F,B,fs,ok,s⟩:= hpt;refine⟨F,B,fs,ok,Az s λr fs1 F1 H1 u l1 ok1 rx s1=>⟨F1,B,fs1,ok1,Az s1 λr' fs2 F2 H2 u' l2 ok2 ry s2=>?_⟩⟩;split at s2
 .rename_i x y;split at s2
  next xs ys e1 e2=>obtain⟨b1,a1,vs,rfl,q1,h1⟩:=Fo (Ar.le l2 rx) e1;obtain⟨b2,a2,ws,rfl,q2,h2⟩:=Fo ry e2;exact⟨b1,a1,b2,a2,rfl,⟨vs,h1 F2 H2 λ_ f=>⟨f,rfl⟩⟩,⟨ws,h2 F2 H2 λ_ f=>⟨f,rfl⟩⟩,s2 F2 H2 _ Le.refl ⟨ok2,Tr h1 h2 q1 q2⟩⟩
  .exact s2.elim
 .exact s2.elim
noncomputable def tyT:T->Option String
 |.v=>some "NoneType"
 |.o _=>some "bool"
 |.int _=>some "int"
 |.str _=>some "str"
 |.tup _=>some "tuple"
 |.lst _=>some "list"
 |.dT _ _=>some "dict"
 |_=>none
noncomputable def Jx:List String:=["NoneType","bool","int","str","tuple","list","dict"]
noncomputable def Se(t T:String):Bool:=t==T||(t == "bool"&&T == "int")
def Kit(K:Fg)(T:String):Prop:=∀t,t∈Jx->kitOne K (.type t) (.type T)=some (Se t T)
theorem U9{K:Fg}{F:Wd}{H:Hp}{t:T}{u:V}{n:String}(r:Ar K F H t u)(e:tyT t=some n):Lr K H u (.type n)/\n∈Jx:=by
 cases t<;>simp only[tyT,Option.some.injEq,reduceCtorEq]at e<;>(try subst e)<;>(try simp only[Ar]at r)
 .subst r;exact⟨.v,by decide⟩
 .subst r;exact⟨.o _,by decide⟩
 .subst r;exact⟨.int _,by decide⟩
 .subst r;exact⟨.str _,by decide⟩
 .obtain⟨a,vs,rfl,hs,_⟩:=r;exact⟨.tup hs.2.2,by decide⟩
 .obtain⟨a,vs,rfl,f,hs,_⟩:=r;exact⟨.lst hs,by decide⟩
 .obtain⟨a,kvs,rfl,f,hs,_⟩:=r;exact⟨.dT hs,by decide⟩
section
variable{K:Fg}
theorem PD:Kit K "list":=λt h=>by simp only[Jx,aH,aZ,or_false]at h;rcases h with rfl|rfl|rfl|rfl|rfl|rfl|rfl<;>rfl
end
section
variable{X:Cx}{Z:Xp}{o e f:Expr}{fo fk fd:FS->Out Rv}{apos cpos:Pos}
end
noncomputable def isG(T:String)(f:FS->Out Rv):FS->Out Rv:=λfs=>(f fs).bnd λr fs=>match r with
 |.t t=>match tyT t with|some n=>.ok (.t (.o (Se n T))) fs|none=>.bad
 |.n i=>match AE fs i with|some (.lst _)=>.ok (.t (.o (Se "list" T))) fs|_=>.bad
 |_=>.bad
theorem Mb{X:Cx}{Z:Xp}{a:Expr}{f:FS->Out Rv}{p p2 pos:Pos}{x:Str}{T:String}(k:Kit X.K T)(hb:bootBuiltins x=some (.type T))(hm:X.mg "isinstance"=none)(hm2:X.mg x=none)(ha:FE X Z a f)(hg:Gl X "isinstance":=by rfl)(hg2:Gl X x:=by rfl)
  (hn:x≠"__name__":=by decide) (hdb:(x==("__debug__":Str))=false:=by decide)
  (hs:starEach [a,.Name x p2] X.env=(false,eval a X.env)::starEach [.Name x p2] X.env:=by rfl) (hs2:starEach [.Name x p2] X.env=[(false,eval (.Name x p2) X.env)]:=by rfl) (hpl:(backTo pos (starEach [.Name x p2] X.env)).any (·.1)=false:=by rfl) :
  FE X Z (.Call (.Name "isinstance" p) [a,.Name x p2] [] pos) (isG T f):=by
 refine AI (E7 (Kg T) hg hm boot_isinstance (BN ha (BN (M6 (v:=.ty T) hg2 hm2 hb rfl hn hdb) D8 hs2) hs) (by decide) (by decide) hs hpl) λU H Q hpt=>?_
 obtain⟨F,B,fs,ok,s⟩:= hpt;refine⟨F,B,fs,ok,Az s λr fs1 F1 H1 u l1 ok1 rx s1=>?_⟩;split at s1
 .rename_i t;split at s1
  next n e=>obtain⟨ty,mem⟩:=U9 rx e;exact⟨u,_,_,rfl,ty,k n mem,s1 F1 H1 _ Le.refl (RR.of ok1 rfl)⟩
  .exact s1.elim
 .rename_i i;have e2:U[i]?=some (some u):=rx;split at s1
  .rename_i eo;obtain⟨v,L2,e1,q,_⟩:=ok1.own eo;rw[e1]at e2;have e3:v=u:=by simpa using e2
   subst e3;simp only[Ap]at q;obtain⟨a',vs,rfl,hd,_⟩:=q;exact⟨.ref a',_,_,rfl,.lst hd,k "list" (by decide),s1 F1 H1 _ Le.refl (RR.of ok1 rfl)⟩
  .exact s1.elim
 .exact s1.elim
noncomputable def Fl:T->Option (List T)
 |.tup ts=>some ts
 |_=>none
theorem OP{t:T}{ts:List T}(e:Fl t=some ts):t=.tup ts:=by cases t<;>first|(cases e;rfl)|cases e
noncomputable def Js(f:T->T->Option Bool):List T->List T->Option Bool
 |x::xs,y::ys=>(f x y).bind λb=>(Js f xs ys).map (b&&·)
 |_,_=>some true
noncomputable def eqT:Nat->T->T->Option Bool
 |0,x,y=>(plV x).bind λu=>(plV y).map (eqV u)
 |n+1,x,y=>match Fl x with
  |some xs=>match Fl y with|some ys=>(Js (eqT n) xs ys).map (·&&xs.length==ys.length)|none=>(plV y).map λ_=>false
  |none=>match Fl y with
   |some _=>(plV x).map λ_=>false
   |none=>(plV x).bind λu=>(plV y).map (eqV u)
noncomputable def eAt(f:T->T->Option Bool)(xs ys:List T)(j:Nat):Bool:=(f (xs.getD j .v) (ys.getD j .v)).getD false
theorem DH{f:T->T->Option Bool}:∀{xs ys:List T}{b:Bool},Js f xs ys=some b->b=(List.range (min xs.length ys.length)).all (eAt f xs ys)
 | [],_,_,e=>by cases e;simp
 |_::_,[],_,e=>by cases e;simp
 |x::xs,y::ys,b,e=>by
  simp only[Js,ba,aA]at e;obtain⟨c,e1,d,e2,rfl⟩:=e;have ih:=DH e2;rw[aX,aX,Nat.succ_min_succ,List.range_succ_eq_map,cR,List.all_map,ih];have h0:eAt f (x::xs) (y::ys) 0=c:=by simp[eAt,e1]
  rw[h0];congr 1
theorem Kb{f:T->T->Option Bool}:∀{xs ys:List T}{b:Bool},Js f xs ys=some b->∀(j:Nat)(x y:T),xs[j]?=some x->ys[j]?=some y->f x y=some (eAt f xs ys j)
 | [],_,_,e=>by intro j x y h;simp at h
 |_::_,[],_,e=>by intro j x y _ h;simp at h
 |x::xs,y::ys,b,e=>by simp only[Js,ba,aA]at e;obtain⟨c,e1,d,e2,rfl⟩:=e;intro j x' y' h1 h2;cases j with|zero =>simp only[cu,Option.some.injEq]at h1 h2;subst h1 h2;simp[eAt,e1]|succ j =>rw[List.getElem?_cons_succ]at h1 h2;have:=Kb e2 _ _ _ h1 h2;rw[this];simp[eAt]
theorem Qp{v:V}(h:EH v=true):eqV v v=true:=by cases v<;>first|rfl|(simp[eqV];done)|(simp[EH]at h)
theorem Q6{K:Fg}{F:Wd}{H:Hp}{x y:T}{v:V}{b:Bool}(rx:Ar K F H x v)(ry:Ar K F H y v)(e:((plV x).bind λu=>(plV y).map (eqV u))=some b):b=true:=by simp only[ba,aA]at e;obtain⟨u,e1,w,e2,rfl⟩:=e;have h1:=BM e1 rx;have h2:=BM e2 ry;subst h1 h2;exact Qp (CF e1)
theorem Ir{K:Fg}{F:Wd}{H:Hp}{x:T}{v u:V}{a:Addr}(e:plV x=some u)(r:Ar K F H x v):v≠.ref a:=by have h1:=BM e r;subst h1;have:=CF e;intro h;subst h;cases this
theorem CV{K:Fg}{F:Wd}{H:Hp}{t:T}{ts:List T}{v:V}(e:Fl t=some ts)(r:Ar K F H t v):∃a vs,v=.ref a/\StT K F H a vs/\Ac K F H ts vs:=by cases OP e;simpa only[Ar]using r
theorem K3{K:Fg}{F:Wd}{H:Hp}:∀{n:Nat}{x y:T}{v:V}{b:Bool},eqT n x y=some b->Ar K F H x v->Ar K F H y v->b=true
 |0,x,y,v,b,e,rx,ry=>Q6 rx ry e
 |n+1,x,y,v,b,e,rx,ry=>by
  unfold eqT at e;cases e1:Fl x with
  |none =>rw[e1]at e;cases e2:Fl y with|none=>rw[e2]at e;exact Q6 rx ry e|some ys =>rw[e2]at e;obtain⟨a,vs,rfl,_⟩:=CV e2 ry;obtain⟨u,e3,_⟩:=aA.mp e;exact absurd rfl (Ir e3 rx)
  |some xs =>
   rw[e1]at e;obtain⟨a,vs,rfl,sx,rxs⟩:=CV e1 rx;cases e2:Fl y with
   |none =>rw[e2]at e;obtain⟨u,e3,_⟩:=aA.mp e;exact absurd rfl (Ir e3 ry)
   |some ys =>
    rw[e2]at e;obtain⟨a',vs',ea,sy,rys⟩:=CV e2 ry;cases ea;have hv:vs=vs':=by have:=sx.2.2.symm.trans sy.2.2;injection this with this;injection this
    subst hv;obtain⟨c,e3,rfl⟩:=aA.mp e;have hl:xs.length=ys.length:=by rw[<- rxs.len,<- rys.len]
    rw[aL];refine⟨?_,by simp[hl]⟩;rw[DH e3,bx];intro j hj;rw[bT]at hj;have h1:j<xs.length:=by lia
    have h2:j<ys.length:=by lia
    have g1:xs[j]?=some xs[j]:=ag h1;have g2:ys[j]?=some ys[j]:=ag h2;obtain⟨v1,q1,r1⟩:=rxs.at g1;obtain⟨v2,q2,r2⟩:=rys.at g2;have:v1=v2:=by rw[q1]at q2;injection q2
    subst this;exact K3 (Kb e3 _ _ _ g1 g2) r1 r2
section
variable{X:Cx}{pins:List (Addr×Obj)}{U:St}{H:Hp}{s:Shared}{F:Wd}
theorem K1{A:Around}{l:Addr}{items:Array Value}{y:V}{u:Value}(hl:s.heap.IsTuple l items)(hu:A.units<cLine)(ry:RelV y u)(fy:EH y=true) :
  SeqAt.EqAt A s (.ref l) u false/\SeqAt.EqAt A s u (.ref l) false/\SeqAt.RcAt A s (.ref l) u false/\SeqAt.RcAt A s u (.ref l) false:=by
 cases y with|v=>cases ry;exact⟨.tuple_none hl hu,.none_tuple hl hu,.tuple_none hl hu,.none_tuple hl hu⟩|o b=>cases ry;exact⟨.tuple_bool _ hl hu,.bool_tuple _ hl hu,.tuple_bool _ hl hu,.bool_tuple _ hl hu⟩|int b=>obtain⟨t,rfl⟩:=ry;exact⟨.tuple_int _ _ hl hu,.int_tuple _ _ hl hu,.tuple_int _ _ hl hu,.int_tuple _ _ hl hu⟩|str b=>obtain⟨t,rfl⟩:=ry;exact⟨.tuple_str _ _ hl hu,.str_tuple _ _ hl hu,.tuple_str _ _ hl hu,.str_tuple _ _ hl hu⟩|_=>cases fy
theorem KD{A:Around}{x y:T}{v w:V}{u u':Value}{b:Bool}(rx:Ar X.K F H x v)(ry:Ar X.K F H y w)(qx:RelV v u)(qy:RelV w u')(e:((plV x).bind λu=>(plV y).map (eqV u))=some b):SeqAt.EqAt A s u u' b:=by simp only[ba,aA]at e;obtain⟨p,e1,q,e2,rfl⟩:=e;have h1:=BM e1 rx;have h2:=BM e2 ry;subst h1 h2;exact RD qx qy (CF e1) (CF e2)
theorem items_eqAt{A:Around}{xs ys:List T}{vs ws:List V}{us us':List Value}{f:T->T->Option Bool}{b:Bool}(e:Js f xs ys=some b)(rx:Ac X.K F H xs vs)(ry:Ac X.K F H ys ws)(qx:Vals vs us)(qy:Vals ws us')
  (ih:∀{x y:T}{v w:V}{u u':Value}{b:Bool},f x y=some b->Ar X.K F H x v->Ar X.K F H y w->RelV v u->RelV w u'->SeqAt.EqAt A s u u' b) :
  ∀j (h1:j<us.toArray.size) (h2:j<us'.toArray.size),SeqAt.EqAt A s us.toArray[j] us'.toArray[j] (eAt f xs ys j):=by
 intro j h1 h2;have l1:=rx.len;have l2:=ry.len;have l3:=qx.length;have l4:=qy.length;rw[ax]at h1 h2;have g1:xs[j]?=some (xs[j]'(by lia)):=ag (by lia);have g2:ys[j]?=some (ys[j]'(by lia)):=ag (by lia);obtain⟨v,q1,r1⟩:=rx.at g1;obtain⟨w,q2,r2⟩:=ry.at g2;obtain⟨u,p1,o1⟩:=qx.get q1;obtain⟨u',p2,o2⟩:=qy.get q2;rw[ag h1]at p1;rw[ag h2]at p2;injection p1 with p1;injection p2 with p2;rw[show us.toArray[j]=us[j] by simp,show us'.toArray[j]=us'[j] by simp,p1,p2];exact ih (Kb e _ _ _ g1 g2) r1 r2 o1 o2
theorem K4(I:Inv X pins U H s):∀{n:Nat}{A:Around}{x y:T}{v w:V}{u u':Value}{b:Bool},A.units+n<cLine->eqT n x y=some b->Ar X.K F H x v->Ar X.K F H y w->RelV v u->RelV w u'->SeqAt.EqAt A s u u' b
 |0,A,x,y,v,w,u,u',b,hu,e,rx,ry,qx,qy=>KD rx ry qx qy e
 |n+1,A,x,y,v,w,u,u',b,hu,e,rx,ry,qx,qy=>by
  have e0:=e;unfold eqT at e;cases e1:Fl x with
  |none =>rw[e1]at e;cases e2:Fl y with|none=>rw[e2]at e;exact KD rx ry qx qy e|some ys =>rw[e2]at e;obtain⟨a,vs,rfl,st,_⟩:=CV e2 ry;obtain⟨p,e3,rfl⟩:=aA.mp e;have h1:=BM e3 rx;subst h1;cases qy;obtain⟨its,_,ht,_⟩:=I.tuple st.sq;exact(K1 ht (by lia) qx (CF e3)).2.1
  |some xs =>
   rw[e1]at e;obtain⟨a,vs,rfl,sx,rxs⟩:=CV e1 rx;cases qx;obtain⟨its,vx,ht,_⟩:=I.tuple sx.sq;cases e2:Fl y with
   |none =>rw[e2]at e;obtain⟨p,e3,rfl⟩:=aA.mp e;have h1:=BM e3 ry;subst h1;exact(K1 ht (by lia) qy (CF e3)).1
   |some ys =>
    rw[e2]at e;obtain⟨a',vs',rfl,sy,rys⟩:=CV e2 ry;cases qy;obtain⟨its',vx',ht',_⟩:=I.tuple sy.sq;by_cases hab:a=a'
    .subst hab;rw[K3 e0 rx ry];exact SeqAt.EqAt.same _
    .obtain⟨c,e3,rfl⟩:=aA.mp e;have l1:its.length=xs.length:=by rw[<- vx.length,rxs.len]
     have l2:its'.length=ys.length:=by rw[<- vx'.length,rys.len]
     have:=SeqAt.RcAt.tuples ht ht' (A:=A) (by lia) (items_eqAt e3 rxs rys vx vx' (λh r1 r2 o1 o2=>K4 I (n:=n) (A:=A.in1) (by show A.units+1+n<_;lia) h r1 r2 o1 o2));rw[ax,ax,l1,l2,<- DH e3]at this;exact SeqAt.EqAt.of_refs hab this
end
noncomputable def eqB(neg:Bool)(xs ys:List T)(fs:FS):Out Rv:=match Js (eqT 60) xs ys with|some b=>okT (.o (if neg then !(b&&xs.length==ys.length)else(b&&xs.length==ys.length))) fs|none=>.bad
noncomputable def L7(neg:Bool):Rv->Rv->FS->Out Rv:=λx y fs=>match LD x with
 |some xs=>match LD y with|some ys=>eqB neg xs ys fs|none=>.bad
 |none=>match Dm fs x with
  |some xs=>match Dm fs y with|some ys=>eqB neg xs ys fs|none=>.bad
  |none=>.bad
def EqS(X:Cx)(neg:Bool)(H:Hp)(x y:V)(b:Bool):Prop:=∀(pins:List (Addr×Obj))(U:St)(s:Shared)(u w:Value),Inv X pins U H s->RelV x u->RelV y w ->
 if neg then SeqAt.RcNeAt X.A s u w (!b)else SeqAt.RcAt X.A s u w b
def Zs(X:Cx)(neg:Bool):R2:=λx y H Q=>∃b,EqS X neg H x y b/\Q (.o (if neg then !b else b)) H
theorem Wb{X:Cx}:OpR X (compareOp .Eq) (Zs X false):=by intro pins s U H x y v u Q I rx ry h;obtain⟨b,e,q⟩:=h;have e:SeqAt.RcAt X.A s v u b:=e pins U s v u I rx ry;exact e X.prog X.w X.xe _ ⟨.o b,H,I,rfl,q⟩
theorem V8{X:Cx}:OpR X (compareOp .NotEq) (Zs X true):=by intro pins s U H x y v u Q I rx ry h;obtain⟨b,e,q⟩:=h;have e:SeqAt.RcNeAt X.A s v u (!b):=e pins U s v u I rx ry;exact e X.prog X.w X.xe _ ⟨.o (!b),H,I,rfl,q⟩
theorem Uj{X:Cx}{neg:Bool}{F:Wd}{H:Hp}{a a':Addr}{xs ys:List T}{vs ws:List V}{b:Bool}(hu:X.A.units+61<cLine)(e:Js (eqT 60) xs ys=some b)(sx:SqT X.K H a vs)(sy:SqT X.K H a' ws)(rx:Ac X.K F H xs vs)(ry:Ac X.K F H ys ws) :
  EqS X neg H (.ref a) (.ref a') (b&&xs.length==ys.length):=by
 intro pins U s u w I qx qy;cases qx;cases qy;obtain⟨its,vx,ht,_⟩:=I.tuple sx;obtain⟨its',vx',ht',_⟩:=I.tuple sy;have l1:its.length=xs.length:=by rw[<- vx.length,rx.len]
 have l2:its'.length=ys.length:=by rw[<- vx'.length,ry.len]
 have he:=items_eqAt (s:=s) (A:=X.A.in1) e rx ry vx vx' (λh r1 r2 o1 o2=>K4 I (n:=60) (A:=X.A.in1) (by show X.A.units+1+60<_;lia) h r1 r2 o1 o2);cases neg with|false =>have:=SeqAt.RcAt.tuples ht ht' (A:=X.A) (by lia) he;rw[ax,ax,l1,l2,<- DH e]at this;exact this|true =>have:=SeqAt.RcNeAt.tuples ht ht' (A:=X.A) (by lia) he;rw[ax,ax,l1,l2,<- DH e]at this;exact this
theorem Uk{X:Cx}{neg:Bool}{F:Wd}{H:Hp}{a a':Addr}{xs ys:List T}{vs ws:List V}{b:Bool}(hu:X.A.units+61<cLine)(e:Js (eqT 60) xs ys=some b)(sx:SqL X.K H a vs)(sy:SqL X.K H a' ws)(rx:Ac X.K F H xs vs)(ry:Ac X.K F H ys ws) :
  EqS X neg H (.ref a) (.ref a') (b&&xs.length==ys.length):=by
 intro pins U s u w I qx qy;cases qx;cases qy;obtain⟨its,vx,ht,_⟩:=I.list sx;obtain⟨its',vx',ht',_⟩:=I.list sy;have l1:its.length=xs.length:=by rw[<- vx.length,rx.len]
 have l2:its'.length=ys.length:=by rw[<- vx'.length,ry.len]
 have he:=items_eqAt (s:=s) (A:=X.A.in1) e rx ry vx vx' (λh r1 r2 o1 o2=>K4 I (n:=60) (A:=X.A.in1) (by show X.A.units+1+60<_;lia) h r1 r2 o1 o2);by_cases hl:xs.length=ys.length
 .have hs:its.toArray.size=its'.toArray.size:=by rw[ax,ax];lia
  have hb:(b&&xs.length==ys.length)=(List.range its.toArray.size).all (eAt (eqT 60) xs ys):=by rw[DH e,hl,Nat.min_self,ax,l1,hl];simp
  rw[hb];cases neg with|false=>exact SeqAt.RcAt.lists ht.isList ht'.isList hs (A:=X.A) (by lia) he|true=>exact SeqAt.RcNeAt.lists ht.isList ht'.isList hs (A:=X.A) (by lia) he
 .have hs:(its.toArray.size !=its'.toArray.size)=true:=by rw[ax,ax,bne_iff_ne];lia
  have hb:(b&&xs.length==ys.length)=false:=by simp[hl]
  rw[hb];cases neg with|false=>exact SeqAt.RcAt.lists_lengths ht.isList ht'.isList hs (A:=X.A) (by lia)|true=>exact SeqAt.RcNeAt.lists_lengths ht.isList ht'.isList hs (A:=X.A) (by lia)
theorem Rb{X:Cx}{Z:Xp}(neg:Bool)(hu:X.A.units+61<cLine):OpF X.K Z (Zs X neg) (L7 neg):=by
 intro F B H U fs x y u w Q ok rx ry s;unfold L7 at s;cases e1:LD x with
 |some xs =>rw[e1]at s;cases e2:LD y with|none=>rw[e2]at s;exact s.elim|some ys =>rw[e2]at s;obtain⟨a,vs,rfl,sx,r1⟩:=BL rx e1;obtain⟨a',ws,rfl,sy,r2⟩:=BL ry e2;simp only[eqB]at s;cases e3:Js (eqT 60) xs ys with|none=>rw[e3]at s;exact s.elim|some b =>rw[e3]at s;exact⟨_,Uj hu e3 sx sy r1 r2,s F H _ Le.refl (RR.of ok rfl)⟩
 |none =>rw[e1]at s;cases e2:Dm fs x with|none=>rw[e2]at s;exact s.elim|some xs =>rw[e2]at s;cases e3:Dm fs y with|none=>rw[e3]at s;exact s.elim|some ys =>rw[e3]at s;obtain⟨a,vs,rfl,sx,r1⟩:=Bg ok rx e2;obtain⟨a',ws,rfl,sy,r2⟩:=Bg ok ry e3;simp only[eqB]at s;cases e4:Js (eqT 60) xs ys with|none=>rw[e4]at s;exact s.elim|some b =>rw[e4]at s;exact⟨_,Uk hu e4 sx sy r1 r2,s F H _ Le.refl (RR.of ok rfl)⟩
section
variable{X:Cx}{Z:Xp}{a b:Expr}{fa fb:FS->Out Rv}{pos:Pos}
end
noncomputable def itD(f:FS->Out Rv):FS->Out (List T):=λfs=>(f fs).bnd λr fs=>match r with
 |.n i=>match fs[i]? with|some (some (.own (.l ks ts)))=>.ok (ks.map Mn) (fs.set i (some (.val (.l ks ts))))|_=>.bad
 |.t (.dF ks ts)=>.ok (ks.map Mn) fs
 |_=>.bad
theorem Okk.JbR{K:Fg}{F:Wd}{B:Nat->Option V}{H:Hp}{fs:FS}{U:St}{i:Nat}{ks:List Key}{ts:List T}{u:V}(h:Okk K F B H fs U)(e:U[i]?=some (some u))(es:fs[i]?=some (some (.own (.l ks ts)))) :
  ∃a kvs,u=.ref a/\H a=some (.l kvs)/\kvs.map (·.1)=ks/\∀o,Le F H (Hh F [a]) (upd H a (.frz o (.l kvs)))/\Okk K (Hh F [a]) B (upd H a (.frz o (.l kvs))) (fs.set i (some (.val (.l ks ts)))) U:=by
 obtain⟨L,o1⟩:=h;obtain⟨v,L1,L2,L3,e1,rfl,h1,h2⟩:=o1.sl.pick es;obtain⟨w,rfl,q2⟩:=h1;rw[e1]at e;have eu:w=u:=by simpa using e
 subst eu;have q3:=q2;simp only[Ap]at q3;obtain⟨a,kvs,rfl,hd,rfl,q,rfl⟩:=q3;refine⟨a,kvs,rfl,hd,rfl,λob=>?_⟩;have nd1:=o1.nd;have na:∀b∈L1++L3,b≠a:=λb hb z=>by
  subst z;rw[ah]at nd1;rcases av.mp hb with m|m
  .exact nd1.2.2 b m b (by simp) rfl
  .exact(ah.mp nd1.2.1).2.2 b (by simp) b m rfl
 have l2:Le F H (Hh F [a]) (upd H a (.frz ob (.l kvs))):=⟨λb f=>⟨.inl f,Ai λz=>o1.nf b (by subst z;simp) f⟩,λb f=>⟨f,Ai λz=>o1.pl b (by subst z;simp) f⟩⟩
 have r2:Ar K (Hh F [a]) (upd H a (.frz ob (.l kvs))) (.l (kvs.map (·.1)) ts) (.ref a):=by simp only[Ar];exact⟨a,kvs,rfl,.inr (by simp),.inr ⟨ob,Ak⟩,rfl,q.le l2⟩
 refine⟨l2,L1++([]++L3),?_⟩;have h3:=h2 (Hh F [a]) (upd H a (.frz ob (.l kvs))) (some (.val (.l (kvs.map (·.1)) ts))) (some (.ref a)) [] l2 (λb hb=>Ai (na b hb)) ⟨.ref a,rfl,r2,rfl⟩;rw[A6 e1]at h3;refine⟨h3,BO nd1 aW (λ_ m=>nomatch m),λb m z=>?_,λb z=>?_,?_,λb z=>?_,λb z=>?_,λb m=>o1.pl b ?_⟩
 .have m':b∈L1\/b∈L3:=by simpa using m
  rcases z with z|z
  .exact o1.nf b (by rcases m' with m|m<;>simp[m]) z
  .exact na b (by rcases m' with m|m<;>simp[m]) (by simpa using z)
 .rcases z with z|z
  .rw[Ai λy=>o1.nf b (by subst y;simp) z];exact o1.fd b z
  .have:b=a:=by simpa using z
   subst this;rw[Ak];exact λy=>nomatch y
 .have:=EM.put (i:=i) (s:=some (.val (.l (kvs.map (·.1)) ts))) (v:=some (.ref a)) o1.bo (λo eo=>by cases eo) o1.sl.len;rwa[A6 e1]at this
 .rw[Ai λy=>o1.pl b (by subst y;simp) z];exact o1.pd b z
 .rcases z with z|z
  .exact o1.pf b z
  .have:b=a:=by simpa using z
   subst this;exact o1.pl b (by simp)
 .have m':b∈L1\/b∈L3:=by simpa using m
  rcases m' with m|m<;>simp[m]
theorem KU{K:Fg}{F:Wd}{H:Hp}{a:Addr}{o:Obj}{kvs:List (Key×V)}(f:F a)(e:H a=some (.frz o (.l kvs))):JOk K F H (Itd a o kvs) ((kvs.map (·.1)).map Mn):=by
 intro F' H' l _ i;have e':H' a=some (.frz o (.l kvs)):=(l a f).2.trans e;refine⟨λt et=>?_,λhl=>⟨e',by simpa using hl⟩⟩;have hi:i<kvs.length:=by have:=(ak.mp et).1;simpa using this
 refine⟨⟨e',hi⟩,λx H'' hy=>stays hy.1 ?_⟩;obtain⟨k,ek,rfl⟩:=hy.2;rw[aP,ek]at et;cases et;cases k<;>rfl
theorem T7{X:Cx}{Z:Xp}{tg l:Expr}{f:FS->Out Rv}(hl:FE X Z l f):FI X Z tg l (itD f):=by
 refine Iv (Pc hl) λU H Q hpt => ?_
 obtain⟨F,B,fs,ok,s⟩:= hpt;refine⟨F,B,fs,ok,Az s λr fs1 F1 H1 u l ok1 rx s1=>?_⟩;split at s1
 .rename_i i;split at s1
  next ks ts es=>obtain⟨a,kvs,rfl,hd,rfl,k⟩:=ok1.JbR rx es;refine⟨a,kvs,rfl,.inl ⟨hd,λo=>?_⟩⟩;obtain⟨l2,ok2⟩:=k o;exact s1 _ _ (Itd a o kvs) l2 ⟨ok2,KU (.inr (by simp)) Ak⟩
  .exact s1.elim
 .simp only[BQ,Ar]at rx;obtain⟨a,kvs,rfl,f,⟨o,hd⟩,rfl,r⟩:=rx;exact⟨a,kvs,rfl,.inr ⟨o,hd,s1 _ _ (Itd a o kvs) Le.refl ⟨ok1,KU f hd⟩⟩⟩
 .exact s1.elim
noncomputable def Up(fs:FS):Rv->Option (List Key×List T)
 |.t (.l ks ts)=>some (ks,ts)
 |.t (.dF ks ts)=>some (ks,ts)
 |.n i=>match AE fs i with|some (.l ks ts)=>some (ks,ts)|_=>none
 |_=>none
theorem Qs{K:Fg}{B:Nat->Option V}{F:Wd}{H:Hp}{U:St}{fs:FS}{x:Rv}{u:V}{ks:List Key}{ts:List T}(h:Okk K F B H fs U)(rx:BQ K F H U x u)(e:Up fs x=some (ks,ts)) :
  ∃a kvs,u=.ref a/\Rd H a (.l kvs)/\kvs.map (·.1)=ks/\Ac K F H ts (kvs.map (·.2)):=by
 unfold Up at e;split at e
 .cases e;simp only[BQ,Ar]at rx;obtain⟨a,kvs,rfl,f,hd,rfl,r⟩:=rx;exact⟨a,kvs,rfl,hd,rfl,r⟩
 .cases e;simp only[BQ,Ar]at rx;obtain⟨a,kvs,rfl,f,⟨ob,hd⟩,rfl,r⟩:=rx;exact⟨a,kvs,rfl,.inr ⟨ob,hd⟩,rfl,r⟩
 .rename_i i;have e2:U[i]?=some (some u):=rx;split at e
  .rename_i eo;cases e;obtain⟨v,L2,e1,q,_⟩:=h.own eo;rw[e1]at e2;have e3:v=u:=by simpa using e2
   subst e3;simp only[Ap]at q;obtain⟨a,kvs,rfl,hd,rfl,r,_⟩:=q;exact⟨a,kvs,rfl,.inl hd,rfl,r⟩
  .cases e
 .cases e
section
variable{X:Cx}{Z:Xp}{a b:Expr}{fa fb:FS->Out Rv}{pos:Pos}
end
theorem Z1{A:Around}{k:Nat}(hr:DA k A):A.units+61<cLine:=by have:=hr.units;lia
section
variable{X:Cx}{Z:Xp}{a b:Expr}{fa fb:FS->Out Rv}{pos:Pos}
end
section
variable{K:Fg}{Z:Xp}
noncomputable def IS:List Rv->FS->Out Rv
 | [x],fs=>match Up fs x with|some p=>.ok (.nw (.l p.1 p.2)) fs|none=>.bad
 |_,_=>.bad
theorem QB:C4 K Z (λxs H Q=>∃a kvs,xs=[.ref a]/\Rd H a (.l kvs)/\∀l,H l=none->Q (.ref l) (upd H l (.l kvs))) IS:=by
 intro F B H U fs rs vs Q ok q s;unfold IS at s;split at s
 .obtain⟨v,rfl,qq⟩:=Bm q;split at s
  next p e=>obtain⟨a,kvs,rfl,hd,ek,r⟩:=Qs (ks:=p.1) (ts:=p.2) ok qq e;refine⟨a,kvs,rfl,hd,λl hl=>s F _ (.ref l) (AJ ok hl) (RR.alloc ok hl ?_)⟩;simp only[Ap];exact⟨l,kvs,rfl,Ak,ek,r.le (AJ ok hl),rfl⟩
  .exact s.elim
 .exact s.elim
end
section
variable{X:Cx}{Z:Xp}{a:Expr}{f:FS->Out Rv}{fa:FS->Out (List Rv)}{p p1 p2 pos pos1 pos2:Pos}
theorem Qn(hm:X.mg "dict"=none)(ha:FA X Z [a] fa)(hg:Gl X "dict":=by rfl)(he:starEach [a] X.env=[(false,eval a X.env)]:=by rfl):FE X Z (.Call (.Name "dict" p) [a] [] pos) (Af IS fa) :=
 Ej QB Mh hm boot_dict ha (hg:=hg) (he:=he)
end
noncomputable def fzD(f:FS->Out Rv):FS->Out Rv:=λfs=>(f fs).bnd λr fs=>match r with
 |.n i=>match fs[i]? with|some (some (.own (.l ks ts)))=>.ok (.t (.dF ks ts)) (fs.set i (some (.val (.dF ks ts))))|_=>.bad
 |_=>.bad
theorem Okk.JbQ{K:Fg}{F:Wd}{B:Nat->Option V}{H:Hp}{fs:FS}{U:St}{i:Nat}{ks:List Key}{ts:List T}{u:V}(h:Okk K F B H fs U)(e:U[i]?=some (some u))(es:fs[i]?=some (some (.own (.l ks ts)))) :
  ∃a kvs,u=.ref a/\H a=some (.l kvs)/\kvs.map (·.1)=ks/\∀o,Le F H (Hh F [a]) (upd H a (.frz o (.l kvs)))/\Okk K (Hh F [a]) B (upd H a (.frz o (.l kvs))) (fs.set i (some (.val (.dF ks ts)))) U/\Ar K (Hh F [a]) (upd H a (.frz o (.l kvs))) (.dF ks ts) (.ref a):=by
 obtain⟨L,o1⟩:=h;obtain⟨v,L1,L2,L3,e1,rfl,h1,h2⟩:=o1.sl.pick es;obtain⟨w,rfl,q2⟩:=h1;rw[e1]at e;have eu:w=u:=by simpa using e
 subst eu;have q3:=q2;simp only[Ap]at q3;obtain⟨a,kvs,rfl,hd,rfl,q,rfl⟩:=q3;refine⟨a,kvs,rfl,hd,rfl,λob=>?_⟩;have nd1:=o1.nd;have na:∀b∈L1++L3,b≠a:=λb hb z=>by
  subst z;rw[ah]at nd1;rcases av.mp hb with m|m
  .exact nd1.2.2 b m b (by simp) rfl
  .exact(ah.mp nd1.2.1).2.2 b (by simp) b m rfl
 have l2:Le F H (Hh F [a]) (upd H a (.frz ob (.l kvs))):=⟨λb f=>⟨.inl f,Ai λz=>o1.nf b (by subst z;simp) f⟩,λb f=>⟨f,Ai λz=>o1.pl b (by subst z;simp) f⟩⟩
 have r2:Ar K (Hh F [a]) (upd H a (.frz ob (.l kvs))) (.dF (kvs.map (·.1)) ts) (.ref a):=by simp only[Ar];exact⟨a,kvs,rfl,.inr (by simp),⟨ob,Ak⟩,rfl,q.le l2⟩
 refine⟨l2,⟨L1++([]++L3),?_⟩,r2⟩;have h3:=h2 (Hh F [a]) (upd H a (.frz ob (.l kvs))) (some (.val (.dF (kvs.map (·.1)) ts))) (some (.ref a)) [] l2 (λb hb=>Ai (na b hb)) ⟨.ref a,rfl,r2,rfl⟩;rw[A6 e1]at h3;refine⟨h3,BO nd1 aW (λ_ m=>nomatch m),λb m z=>?_,λb z=>?_,?_,λb z=>?_,λb z=>?_,λb m=>o1.pl b ?_⟩
 .have m':b∈L1\/b∈L3:=by simpa using m
  rcases z with z|z
  .exact o1.nf b (by rcases m' with m|m<;>simp[m]) z
  .exact na b (by rcases m' with m|m<;>simp[m]) (by simpa using z)
 .rcases z with z|z
  .rw[Ai λy=>o1.nf b (by subst y;simp) z];exact o1.fd b z
  .have:b=a:=by simpa using z
   subst this;rw[Ak];exact λy=>nomatch y
 .have:=EM.put (i:=i) (s:=some (.val (.dF (kvs.map (·.1)) ts))) (v:=some (.ref a)) o1.bo (λo eo=>by cases eo) o1.sl.len;rwa[A6 e1]at this
 .rw[Ai λy=>o1.pl b (by subst y;simp) z];exact o1.pd b z
 .rcases z with z|z
  .exact o1.pf b z
  .have:b=a:=by simpa using z
   subst this;exact o1.pl b (by simp)
 .have m':b∈L1\/b∈L3:=by simpa using m
  rcases m' with m|m<;>simp[m]
theorem Xt{X:Cx}{Z:Xp}{e:Expr}{f:FS->Out Rv}(h:FE X Z e f):FE X Z e (fzD f):=by
 refine AI (VZ h) λU H Q hpt => ?_
 obtain⟨F,B,fs,ok,s⟩:= hpt;refine⟨F,B,fs,ok,Az s λr fs1 F1 H1 u l ok1 rx s1=>?_⟩;split at s1
 .rename_i i;split at s1
  next ks ts es=>obtain⟨a,kvs,rfl,hd,rfl,k⟩:=ok1.JbQ rx es;refine⟨a,kvs,rfl,hd,λo=>?_⟩;obtain⟨l2,ok2,r2⟩:=k o;exact s1 _ _ (.ref a) l2 (RR.of ok2 r2)
  .exact s1.elim
 .exact s1.elim
def EZ(K:Fg)(Z:Xp):XE:=λcv U H=>∃F B fs c C,C0 K c=some C/\cv=.ref C/\Okk K F B H fs U/\Z.p F B H c fs
def Lks(X:Cx)(Z:Xp):Prop:=Lk X (EZ X.K Z)
theorem Lks.no{X:Cx}:Lks X Xp.no:=λ_ _ _ _ _ _ _ ⟨_,_,_,_,_,_,_,_,_,_,_,⟨_,_,_,_,_,_,_,_,z⟩⟩=>z.elim
structure LkD(X:Cx)(Z:Xp):Prop where
 d:OD X
 k:∀e s,XW X (EZ X.K Z) e s->X.xe e s
 own:PassesOwn (model X.prog X.w) X.A X.env X.xe
theorem LkD.lk{X:Cx}{Z:Xp}(l:LkD X Z):Lks X Z:=Lk.of l.d.ex l.k
noncomputable def Zd(K:Fg)(E:XK):Xp:=⟨λF B H c fs=>∀C,C0 K c=some C->∀F' H' σ',Le F H F' H'->Okk K F' B H' fs σ'->E (.ref C) none H',λh l C hC F' H' σ' l' k=>h C hC F' H' σ' (l.trans l') k⟩
def spX(K:Fg)(p:Nat)(Fn:FS->Out Rv):Sp:=λvs H Q E=>vs.length=p/\∃F fs0,Okk K F (Bof (vs.map some)) H fs0 (vs.map some)/\match Fn fs0 with|.ok r τ=>∀F' H' u σ',Le F H F' H'->RR K (Bof (vs.map some)) σ' F' H' τ r u->Q u H'|.exc c τ=>∀C,C0 K c=some C->∀F' H' σ',Le F H F' H'->Okk K F' (Bof (vs.map some)) H' τ σ'->E (.ref C) none H'|.bad=>False
def GS0(X:Cx)(Z:Xp)(st:Stmt)(g:FS->SO):Prop:=PS0 X st (tSt X.K Z g)
def Yh(X:Cx)(Z:Xp)(sts:List Stmt)(g:FS->SO):Prop:=QM X sts (tSt X.K Z g)
section
variable{X:Cx}{Z:Xp}{st:Stmt}{rest:List Stmt}{g h:FS->SO}
theorem GS.zero(q:GS X Z st g):GS0 X Z st g:=PS.zero q
theorem GSs.zero(q:GSs X Z rest g):Yh X Z rest g:=PSs.zero q
theorem IP(h1:GS0 X Z st g)(h2:Yh X Z rest h):Yh X Z (st::rest) (Am g h):=by
 intro s0 U H D I q;refine MU h1 h2 s0 U H D I ?_;obtain⟨F,B,fs,ok,s⟩:=q;refine⟨F,B,fs,ok,?_⟩;unfold Am at s;cases e:g fs with
 |nx fs1 =>rw[e]at s;exact λF1 H1 σ1 l k=>⟨F1,B,fs1,k,GJ.le s l⟩
 |ret r fs1=>rw[e]at s;exact s
 |brk fs1=>rw[e]at s;exact s
 |cnt fs1=>rw[e]at s;exact s
 |exc c fs1=>rw[e]at s;exact s
 |bad=>rw[e]at s;exact s
end
section
variable{P:Program}{w:World}{K:Fg}{mg:Str->Option Value}{base:Heap}
theorem FV{x qual:Str}{st:Stmt}{f:Addr}{fd:FuncData}{N ps:List Str}{k:Nat}{g:FS->SO}(Fu:Fun K x qual st f fd)(S:H0 N ps (Bk st))(p n:Nat)(hp:ps.length=p)(hn:N.length=p+n)
  (hb:∀cdv (A:Around) outer (s:Shared) H E E' (Z:Xp),DA k (A.deeper (envOfC qual (Bk st) s.heap.objs.size f cdv))->LkD ((Mf (CX1 P w) P w K mg base N qual (Bk st) f cdv A outer s H E).Fj E') Z ->
   Yh ((Mf (CX1 P w) P w K mg base N qual (Bk st) f cdv A outer s H E).Fj E') Z (DX st) g):DS P w K mg base (CX1 P w) (k+1) f fd ps (spX K p (Bl n g)):=by
 refine Fu.ok0 S (λvs H Q E h=>by rw[h.1,hp]) (λcdv A outer s H vs Q E hr h=>⟨_,hb cdv A outer s H E _ (Zd K E) hr ⟨⟨rfl,rfl,rfl,rfl⟩,λe s q=>?_,XW.own XM⟩,?_⟩)
 .refine XW.imp (XW.Fj q) λc U H z=>?_
  obtain⟨F,B,fs,c,C,hC,rfl,ok,z⟩:=z;exact z C hC F H U Le.refl ok
 obtain⟨hl,F,fs0,⟨L,ok⟩,h⟩:=h;have hfl:fs0.length=p:=by rw[<- ok.sl.len,ar];exact hl
 have es:L2.start N vs=vs.map some++List.replicate n none:=by unfold L2.start;rw[hl,hn,Nat.add_sub_cancel_left]
 rw[es];refine⟨F,Bof (vs.map some),fs0++List.replicate n none,⟨L,ok.more n⟩,?_⟩;unfold Bl at h;cases e:g (fs0++List.replicate n none)with
 |nx τ =>rw[e]at h;intro F' H' σ' l k;exact h F' H' .v (σ'.take fs0.length) l (RR.take (RR.of (r:=.t .v) k rfl) _ (λi z=>nomatch z))
 |ret r τ =>
  rw[e]at h;intro F' H' σ' u l k;cases r with
  |t t=>exact h F' H' u (σ'.take fs0.length) l (RR.take k _ (λi z=>nomatch z))
  |nw o=>exact h F' H' u (σ'.take fs0.length) l (RR.take k _ (λi z=>nomatch z))
  |n i =>
   dsimp only at h;split at h
   .rename_i r' τ' e2;split at e2
    next o eo=>cases e2;exact h F' H' u (σ'.take fs0.length) l (RR.take (RR.mv k eo) _ (λi z=>nomatch z))
    .cases e2
   .rename_i c τ' e2;split at e2
    .cases e2
    .cases e2
   .exact h.elim
 |brk τ=>rw[e]at h;exact h.elim
 |cnt τ=>rw[e]at h;exact h.elim
 |exc c τ =>rw[e]at h;intro C hC F' H' σ' l k;exact h C hC F' H' (σ'.take fs0.length) l (RR.take (RR.of (r:=.t .v) k rfl) _ (λi z=>nomatch z)).ok
 |bad=>rw[e]at h;exact h.elim
end
noncomputable def Hc(Fn:FS->Out Rv)(rs:List Rv)(fs:FS):Out Rv :=
 if(Dj fs (rs.map A1)).Nodup then(match Fn (Ce fs (rs.map A1))with|.ok (.t t) τ=>(match D1 (rs.map A1) τ fs with|some fs'=>.ok (.t t) fs'|none=>.bad)|.ok (.nw o) τ=>(match D1 (rs.map A1) τ fs with|some fs'=>.ok (.nw o) fs'|none=>.bad)|.exc c τ=>(match D1 (rs.map A1) τ fs with|some fs'=>.exc c fs'|none=>.bad)|_=>.bad)else .bad
noncomputable def Ah(p:Nat)(Fn:FS->Out Rv):List Rv->FS->Out Rv:=λrs fs=>if rs.length=p then Hc Fn rs fs else .bad
section
variable{K:Fg}{F F':Wd}{H H':Hp}{B:Nat->Option V}{fs:FS}{U:St}{rs:List Rv}{vs:List V}{Z:Xp}{Q:VK}{Fn:FS->Out Rv}
theorem Ji(q:RAn K B U F H fs rs vs)(s:sat Z B (RR K B U) F H (Hc Fn rs fs) Q):spX K rs.length Fn vs H Q λc _ H'=>EZ K Z c U H':=by
 unfold Hc at s;split at s
 .rename_i nd;obtain⟨L9,μ,ok,hμ,hl,hi⟩:=NF q;obtain⟨Pp,p1,p2,p3,p4⟩:=lend ok hl hi nd hμ;refine⟨q.len,⟨F.f,Pp⟩,Ce fs (rs.map A1),p2,?_⟩;split at s
  .rename_i t τ e;rw[e];split at s
   next fs' eb=>intro F' H' u σ' l k;obtain⟨Li,L',o1,⟨_,r⟩,_⟩:=k;obtain⟨le,L,o2,_⟩:=p4 F' H' τ σ' Li fs' l o1 eb;exact s ⟨F'.f,F.p⟩ H' u le (RR.of ⟨L,o2⟩ (Ar.wp r))
   .exact s.elim
  .rename_i o τ e;rw[e];split at s
   .rename_i fs' eb;intro F' H' u σ' l k;obtain⟨Li,L',o1,r,nd,nf⟩:=k;obtain⟨le,L,o2,sub⟩:=p4 F' H' τ σ' Li fs' l o1 eb;refine s ⟨F'.f,F.p⟩ H' u le ⟨L,L',o2,Ap.wp r,?_,λa m=>⟨(nf a m).1,λp=>(nf a m).2 (l.p a (p1 a p)).1⟩⟩;rw[ah]at nd ⊢;refine⟨o2.nd,nd.2.1,λa ha b hb e=>?_⟩;rcases sub a ha with z|z
    .exact nd.2.2 a z b hb e
    .exact(nf b hb).2 (l.p b (e▸z)).1
   .exact s.elim
  .rename_i c τ e;rw[e];split at s
   next fs' eb=>intro C hC F' H' σ' l k;obtain⟨Li,o1⟩:=k;obtain⟨le,L,o2,_⟩:=p4 F' H' τ σ' Li fs' l o1 eb;exact⟨⟨F'.f,F.p⟩,B,fs',c,C,hC,rfl,⟨L,o2⟩,Z.mono s le⟩
   .exact s.elim
  .exact s.elim
 .exact s.elim
end
section
variable{X:Cx}{Z:Xp}{x:Str}{k p:Nat}{ps:List Str}{Fn:FS->Out Rv}{e:Expr}{es:List Expr}{fa:FS->Out (List Rv)}{pp pos np cpos:Pos}{C:Addr}
theorem Rw(G:FnAt X.prog X.w X.K X.mg X.base (CX1 X.prog X.w) x k ps (spX X.K p Fn))(hr:DA k X.A)(lk:Lks X Z)(ha:FAn X Z (e::es) fa)(hg:Gl X x:=by rfl)(hdb:(x==("__debug__":Str))=false:=by decide)
  (he:starEach (e::es) X.env=(false,eval e X.env)::starEach es X.env:=by rfl) (hpl:(backTo pos (starEach es X.env)).any (·.1)=false:=by rfl):FE X Z (.Call (.Name x pp) (e::es) [] pos) (Af (Ah p Fn) fa):=by
 refine AI (V1 G hr lk ha hg hdb he hpl) λU H Q hpt => ?_
 obtain⟨F,B,fs,ok,s⟩:= hpt;refine⟨F,B,fs,ok,Ay s λrs fs1 F1 H1 us l q s1=>?_⟩;unfold Ah at s1;split at s1
 next hp=>rw[<- hp];exact Ji q s1
 .exact s1.elim
structure Yi(K:Fg)(mg:Str->Option Value)(x:Str):Prop where
 ex:∃C,mg x=some (.ref C)/\C0 K x=some C/\excIn K C UM "ValueError.__new__"=true
noncomputable def Q0(c:Str)(fa:FS->Out (List Rv)):FS->SO:=λfs=>SO.of (fa fs) λrs fs=>if rs.length<=1000 then .exc c fs else .bad
theorem PV(c:Yi X.K X.mg x)(l:LkD X Z)(hc:X.calm=true)(ha:FA X Z (e::es) fa)(hg:Gl X x:=by rfl)(hdb:(x==("__debug__":Str))=false:=by decide)
  (he:starEach (e::es) X.env=(false,eval e X.env)::starEach es X.env:=by rfl) (hpl:(backTo cpos (starEach es X.env)).any (·.1)=false:=by rfl) :
  GS X Z (.Raise (some (.Call (.Name x np) (e::es) [] cpos)) none pos) (Q0 x fa):=by
 obtain⟨C,h1,h2,h3⟩:=c.ex;refine Cb (Hs (C:=C) (Z:=EZ X.K Z) ⟨h1,h3⟩ l.d.ex hc l.k ha hg hdb he hpl) λD U H hpt => ?_
 obtain⟨F,B,fs,ok,s⟩:= hpt;refine⟨F,B,fs,ok,Bz s λrs fs1 F1 H1 us l q s1=>?_⟩;split at s1
 next hl=>exact⟨by rw[q.2.len];exact hl,F1,B,fs1,x,C,h2,rfl,q.1,s1⟩
 .exact s1.elim
end
noncomputable def UI(i:Nat)(okc:Str->Bool)(h:FS->SO)(c:Str)(fs:FS):SO:=if okc c=true then(match JB i (.t (.zK c)) fs with|some fs=>(match h fs with|.nx fs=>(match fs[i]? with|some (some (.val _))=>.nx (fs.set i none)|_=>.bad)|.ret (.t t) fs=>.ret (.t t) fs|_=>.bad)|none=>.bad)else .bad
noncomputable def UH(i:Nat)(okc:Str->Bool)(g h:FS->SO):FS->SO:=λfs=>match g fs with|.exc c fs=>UI i okc h c fs|o=>o
section
variable{X:Cx}{Z:Xp}{K:Fg}{B:Nat->Option V}{F:Wd}{H:Hp}{U:St}{fs:FS}
theorem Okk.forget{i:Nat}{t:T}(h:Okk K F B H fs U)(e:fs[i]?=some (some (.val t))):Okk K F B H (fs.set i none) (U.set i none):=by
 obtain⟨L,ok⟩:=h;obtain⟨v,L1,L2,L3,e1,rfl,h1,h2⟩:=ok.sl.pick e;have e2:L2=[]:=by obtain⟨u,rfl,q,z⟩:=h1;exact z
 subst e2;exact⟨L1++([]++L3),h2 F H none none [] Le.refl (λ_ _=>rfl) rfl,ok.nd,ok.nf,ok.fd,EM.put ok.bo (λo eo=>by cases eo) ok.sl.len,ok.pd,ok.pf,ok.pl⟩
noncomputable def JbU(K:Fg)(Z:Xp)(i:Nat)(okc:Str->Bool)(h:FS->SO)(D:Ends):Xp:=⟨λF B H c fs=>GJ K Z B F H (UI i okc h c fs) D,λq l=>GJ.le q l⟩
theorem TJ{x n:Str}{C:Addr}{i:Nat}{np pos hpos:Pos}{body suite:List Stmt}{b₀:Stmt}{g h:FS->SO}(okc:Str->Bool)(i:Nat)(l:LkD X Z)(hC:X.mg x=some (.ref C))(hN:X.N.Nodup)(hk:∀c C',okc c=true->C0 X.K c=some C'->exmOne X.K (.ref C') (.ref C)=some true)
  (hb:∀E' Z',LkD (X.Fj E') Z'->GSs (X.Fj E') Z' body g) (hs:∀a,GSs (X.hand a) Xp.no (b₀::suite) h) (hi:X.N[i]?=some n:=by rfl) (hl:X.env.scope.names.lookup n=some .local:=by rfl) (hg:Gl X x:=by rfl) (hdb:(x==("__debug__":Str))=false:=by decide) :
  GS0 X Z (.Try body [.ExceptHandler (some (.Name x np)) (some n) (b₀::suite) hpos] [] [] pos) (UH i okc g h):=by
 have key:=Sv (X:=X) (C:=C) (x:=x) (n:=n) (i:=i) (np:=np) (pos:=pos) (hpos:=hpos) (body:=body) (b₀:=b₀) (suite:=suite) (th:=tSt X.K Xp.no h) (tb:=λD=>tSt X.K (JbU X.K Z i okc h D) g) l.d hC hN (λD=>?_) hs hi hl hg hdb
 .intro s0 U H D I q;refine key s0 U H D I ?_;obtain⟨F,B,fs,ok,s⟩:=q;refine⟨F,B,fs,ok,?_⟩;unfold UH at s;cases e:g fs with|nx fs1=>rw[e]at s;exact s|ret r fs1=>rw[e]at s;exact s|brk fs1=>rw[e]at s;exact s|cnt fs1=>rw[e]at s;exact s|exc c fs1=>rw[e]at s;exact s|bad=>rw[e]at s;exact s
 .refine hb _ _ ⟨⟨l.d.pn,l.d.ex,l.d.st,l.d.fr⟩,λe s q=>XW.imp (XW.Fj q) λcv U H z=>?_,XW.own l.d⟩;obtain⟨F,B,fs,c,C',hC',rfl,ok,z⟩:=z;have z:GJ X.K Z B F H (UI i okc h c fs) D:=z;unfold UI at z;split at z
  .rename_i hoc;refine⟨hk c C' hoc hC',λa ha=>?_⟩;split at z
   .rename_i fs2 e2;have ok2:Okk X.K (OB F a) B (upd H a (exO (.ref C') a)) fs2 (U.set i (some (.ref a))):=JA (RR.of (r:=.t (.zK c)) (u:=.ref a) (Okk.alloc ok ha) (by simp only[BQ,Ar];exact⟨a,C',rfl,.inr rfl,Ak,hC'⟩)) e2;have le2:Le F H (OB F a) (upd H a (exO (.ref C') a)):=AS ok ha;refine⟨OB F a,B,fs2,ok2,?_⟩;cases eh:h fs2 with
    |nx fs3 =>
     rw[eh]at z;dsimp only at z;split at z
     next t et=>exact λF' H' σ' l k=>z F' H' _ (le2.trans l) (k.forget et)
     .exact z.elim
    |ret r fs3 =>rw[eh]at z;cases r with|t t =>intro F' H' σ' u l k;exact z F' H' σ' u (le2.trans l) k|nw o=>exact z.elim|n j=>exact z.elim
    |brk fs3=>rw[eh]at z;exact z.elim
    |cnt fs3=>rw[eh]at z;exact z.elim
    |exc c fs3=>rw[eh]at z;exact z.elim
    |bad=>rw[eh]at z;exact z.elim
   .exact z.elim
  .exact z.elim
end
noncomputable def Uh(K:Fg)(ds:List Str)(tab:Str->Str->Bool)(c:Str):Bool:=match C0 K c with
 |some C=>excIn K C UM "ValueError.__new__"&&(findIn K (.ref C) "__getattribute__"==some (some (.builtin "BaseException.__getattribute__")))&&(findIn K (.ref C) "__getattr__"==some none) &&
  (findIn K (.ref C) "__class__"==some (some (.builtin "object.__class__")))&&(specialIn K (.builtin "object.__class__") "__get__"==some (some (.builtin "getset_descriptor.__get__")))&&(takesIn K (.builtin "object.__class__")==some true) &&
  (mroIn K C (.type "object")==some true)&&(mroIn K C (.type "BaseException")==some true)&&(clsIn K C).isSome&&(kitOne K (.ref C) (.type "ValueError")==some true) &&
  ds.all λd=>match C0 K d with|some D=>(kitOne K (.ref C) (.ref D)==some (tab c d))&&(!tab c d||exmOne K (.ref C) (.ref D)==some true)|none=>false
 |none=>false
noncomputable def XG(K:Fg)(rs ds:List Str)(tab:Str->Str->Bool):Bool:=rs.all (Uh K ds tab)&&ds.all λd=>(C0 K d).isSome
structure Jq(K:Fg)(mg:Str->Option Value)(rs ds:List Str)(tab:Str->Str->Bool):Prop where
 k:∀c∈rs,∀C,C0 K c=some C->PySem.W.ExK K C/\(clsIn K C).isSome=true
 own:∀c∈rs,∀d∈ds,∀C D,C0 K c=some C->C0 K d=some D->kitOne K (.ref C) (.ref D)=some (tab c d)/\(tab c d=true->exmOne K (.ref C) (.ref D)=some true)
 ve:∀c∈rs,∀C,C0 K c=some C->kitOne K (.ref C) (.type "ValueError")=some true
 at_:∀c∈rs,∃C,mg c=some (.ref C)/\C0 K c=some C/\excIn K C UM "ValueError.__new__"=true
 yN:∀d∈ds,∃D,mg d=some (.ref D)/\C0 K d=some D
theorem RI{K:Fg}{h:Heap}{mg:Str->Option Value}{c:Str}{C:Addr}(X:K.In h)(G:h.Ns mainGlobals mg)(e:C0 K c=some C):mg c=some (.ref C):=by
 unfold C0 at e;split at e
 next D q=>cases e;exact mg_of X G q
 .cases e
theorem Jq.of{K:Fg}{h:Heap}{mg:Str->Option Value}{rs ds:List Str}{tab:Str->Str->Bool}(X:K.In h)(G:h.Ns mainGlobals mg)(e:XG K rs ds tab=true):Jq K mg rs ds tab:=by
 unfold XG at e;rw[aL]at e;obtain⟨e1,e2⟩:=e;have one:∀c∈rs,∀C,C0 K c=some C->excIn K C UM "ValueError.__new__"=true/\PySem.W.ExK K C/\(clsIn K C).isSome=true/\kitOne K (.ref C) (.type "ValueError")=some true /\
   ∀d∈ds,∀D,C0 K d=some D->kitOne K (.ref C) (.ref D)=some (tab c d)/\(tab c d=true->exmOne K (.ref C) (.ref D)=some true):=λc hc C hC=>by
  have q:=bx.mp e1 c hc;unfold Uh at q;rw[hC]at q;simp only[aL,beq_iff_eq]at q;obtain⟨⟨⟨⟨⟨⟨⟨⟨⟨⟨q1,q2⟩,q3⟩,q4⟩,q5⟩,q6⟩,q7⟩,q8⟩,q9⟩,q10⟩,q11⟩:=q;refine⟨q1,⟨q2,q3,q4,q5,q6,q7,q8⟩,q9,q10,λd hd D hD=>?_⟩;have z:=bx.mp q11 d hd;rw[hD]at z;simp only[aL,beq_iff_eq]at z;refine⟨z.1,λht=>?_⟩;have z2:=z.2;rw[ht]at z2;simpa using z2
 refine⟨λc hc C hC=>⟨(one c hc C hC).2.1,(one c hc C hC).2.2.1⟩,λc hc d hd C D hC hD=>(one c hc C hC).2.2.2.2 d hd D hD,λc hc C hC=>(one c hc C hC).2.2.2.1,λc hc=>?_,λd hd=>?_⟩
 .have q:=bx.mp e1 c hc;unfold Uh at q;cases hC:C0 K c with|none=>rw[hC]at q;cases q|some C=>exact⟨C,RI X G hC,rfl,(one c hc C hC).1⟩
 .obtain⟨D,hD⟩:=bM.mp (bx.mp e2 d hd);exact⟨D,RI X G hD,hD⟩
theorem Jq.t1{K:Fg}{mg:Str->Option Value}{rs ds:List Str}{tab:Str->Str->Bool}(t:Jq K mg rs ds tab){c:Str}(h:c∈rs):Yi K mg c:=⟨t.at_ c h⟩
noncomputable def isX(cs:List Str)(tab:Str->Str->Bool)(d:Str)(f:FS->Out Rv):FS->Out Rv:=λfs=>(f fs).bnd λr fs=>match r with|.t (.zK c)=>if cs.contains c=true then okT (.o (tab c d)) fs else .bad|_=>.bad
section
variable{X:Cx}{Z:Xp}{a:Expr}{f:FS->Out Rv}{p p2 pos:Pos}{x:Str}{cs ds:List Str}{tab:Str->Str->Bool}
theorem Xq(t:Jq X.K X.mg cs ds tab)(hm:X.mg "isinstance"=none)(hx:x∈ds)(ha:FE X Z a f)(hg:Gl X "isinstance":=by rfl)(hg2:Gl X x:=by rfl)(hdb:(x==("__debug__":Str))=false:=by decide)
  (hs:starEach [a,.Name x p2] X.env=(false,eval a X.env)::starEach [.Name x p2] X.env:=by rfl) (hs2:starEach [.Name x p2] X.env=[(false,eval (.Name x p2) X.env)]:=by rfl) (hpl:(backTo pos (starEach [.Name x p2] X.env)).any (·.1)=false:=by rfl) :
  FE X Z (.Call (.Name "isinstance" p) [a,.Name x p2] [] pos) (isX cs tab x f):=by
 obtain⟨D,h1,h2⟩:=t.yN x hx;have hD:PE X (.Name x p2) (tC (.ref D)):=λpins s U H Q I h=>EB I hg2 h1 ⟨.ref D,H,I,rfl,h⟩ hdb
 refine AI (E7 Hb hg hm boot_isinstance (BN ha (BN hD D8 hs2) hs) (by decide) (by decide) hs hpl) λU H Q hpt=>?_
 obtain⟨F,B,fs,ok,s⟩:= hpt;refine⟨F,B,fs,ok,Az s λr fs1 F1 H1 u l1 ok1 rx s1=>?_⟩;split at s1
 .rename_i c;split at s1
  .rename_i hc;have hc:c∈cs:=by simpa using hc
   simp only[BQ,Ar]at rx;obtain⟨b,C,rfl,fb,hb,hC⟩:=rx;exact⟨b,C,.ref D,.ref D,_,rfl,(λu z=>z),hb,(t.k c hc C hC).1,(t.k c hc C hC).2,(t.own c hc x hx C D hC h2).1,s1 F1 H1 _ Le.refl (RR.of ok1 rfl)⟩
  .exact s1.elim
 .exact s1.elim
noncomputable def isV(cs:List Str)(f:FS->Out Rv):FS->Out Rv:=λfs=>(f fs).bnd λr fs=>match r with|.t (.zK c)=>if cs.contains c=true then okT (.o true) fs else .bad|_=>.bad
theorem Xr(t:Jq X.K X.mg cs ds tab)(hm:X.mg "isinstance"=none)(hm2:X.mg "ValueError"=none)(ha:FE X Z a f)(hg:Gl X "isinstance":=by rfl)(hg2:Gl X "ValueError":=by rfl)
  (hs:starEach [a,.Name "ValueError" p2] X.env=(false,eval a X.env)::starEach [.Name "ValueError" p2] X.env:=by rfl) (hs2:starEach [.Name "ValueError" p2] X.env=[(false,eval (.Name "ValueError" p2) X.env)]:=by rfl) (hpl:(backTo pos (starEach [.Name "ValueError" p2] X.env)).any (·.1)=false:=by rfl) :
  FE X Z (.Call (.Name "isinstance" p) [a,.Name "ValueError" p2] [] pos) (isV cs f):=by
 refine AI (E7 Hb hg hm boot_isinstance (BN ha (BN (M6 (v:=.ty "ValueError") hg2 hm2 PyProof.Rows.Boot.«ValueError» rfl) D8 hs2) hs) (by decide) (by decide) hs hpl) λU H Q hpt=>?_
 obtain⟨F,B,fs,ok,s⟩:= hpt;refine⟨F,B,fs,ok,Az s λr fs1 F1 H1 u l1 ok1 rx s1=>?_⟩;split at s1
 .rename_i c;split at s1
  .rename_i hc;have hc:c∈cs:=by simpa using hc
   simp only[BQ,Ar]at rx;obtain⟨b,C,rfl,fb,hb,hC⟩:=rx;exact⟨b,C,.ty "ValueError",.type "ValueError",_,rfl,(λu z=>z),hb,(t.k c hc C hC).1,(t.k c hc C hC).2,t.ve c hc C hC,s1 F1 H1 _ Le.refl (RR.of ok1 rfl)⟩
  .exact s1.elim
 .exact s1.elim
end
theorem P1{X:Cx}{Z:Xp}{x n:Str}{np pos hpos:Pos}{body suite:List Stmt}{b₀:Stmt}{g h:FS->SO}{rs ds:List Str}{tab:Str->Str->Bool}(t:Jq X.K X.mg rs ds tab)(hx:x∈ds)(i:Nat)(l:LkD X Z)(hN:X.N.Nodup)
  (hb:∀E' Z',LkD (X.Fj E') Z'->GSs (X.Fj E') Z' body g) (hs:∀a,GSs (X.hand a) Xp.no (b₀::suite) h) (hi:X.N[i]?=some n:=by rfl) (hl:X.env.scope.names.lookup n=some .local:=by rfl) (hg:Gl X x:=by rfl) (hdb:(x==("__debug__":Str))=false:=by decide) :
  GS0 X Z (.Try body [.ExceptHandler (some (.Name x np)) (some n) (b₀::suite) hpos] [] [] pos) (UH i (λc=>rs.contains c&&tab c x) g h):=by
 obtain⟨C,h1,h2⟩:=t.yN x hx;refine TJ (i:=i) _ i l h1 hN (λc C' ho hc=>?_) hb hs hi hl hg hdb;rw[aL]at ho;exact(t.own c (by simpa using ho.1) x hx C' C hc h2).2 ho.2
noncomputable def Jaa:Rv->List Rv->FS->Out Rv
 |x,[.t (.o true)],fs=>match(Dm fs x).bind Dn with
  |some bs=>match bs.findIdx? id with|some j=>okT (.int ((j:Nat):Int)) fs|none=>.bad
  |none=>.bad
 |_,_,_=>.bad
section
variable{K:Fg}{Z:Xp}
theorem Pu:MtF K Z (λx vs H Q=>∃(l:Addr)(bs:List Bool)(j:Nat),x=.ref l/\vs=[.o true]/\SqL K H l (bs.map V.o)/\bs[j]?=some true/\(∀m,m<j->bs[m]?=some false)/\Q (.int ((j:Nat):Int)) H) Jaa:=by
 intro F B H U fs x rs u vs Q ok rx q s;unfold Jaa at s;split at s
 .obtain⟨v,rfl,qq⟩:=Bm q;have q':v=V.o true:=by simpa only[BQ,Ar]using qq
  subst q';split at s
  .rename_i bs e;rw[ba]at e;obtain⟨ts,e1,e2⟩:=e;obtain⟨a,us,rfl,hs,r⟩:=Bg ok rx e1;rw[Fh e2]at r;rw[Ac.bls r]at hs;split at s
   next j ej=>obtain⟨hj,h1,h2⟩:=List.findIdx?_eq_some_iff_getElem.mp ej;refine⟨a,bs,j,rfl,rfl,hs,by rw[ag hj];exact congrArg some h1,λm hm=>?_,s F H _ Le.refl (RR.of ok rfl)⟩;have:=h2 m hm;rw[ag (bW hm hj)];simpa using this
   .exact s.elim
  .exact s.elim
 .exact s.elim
end
theorem Vj{K:Fg}{p:Nat}{Fn:FS->Out Rv}{vs:List V}{H:Hp}{Q:VK}{E E':XK}(h:spF K p Fn vs H Q E):spX K p Fn vs H Q E':=by obtain⟨h1,F,fs0,ok,h⟩:=h;refine⟨h1,F,fs0,ok,?_⟩;cases e:Fn fs0 with|ok r τ=>rw[e]at h;exact h|exc c τ=>rw[e]at h;exact h.elim|bad=>rw[e]at h;exact h.elim
section
variable{X:Cx}{Z:Xp}{x:Str}{k p:Nat}{ps:List Str}{Fn:FS->Out Rv}{e o:Expr}{es:List Expr}{fa:FS->Out (List Rv)}{fo f:FS->Out Rv}{pp pos apos np cpos cp fp jp:Pos}{C:Addr}{m:Str}{v:Expr}{a:Str}{j:Nat}
noncomputable def CW(C:Addr)(m:Str)(p:Nat)(Fn:FS->Out Rv)(fo:FS->Out Rv)(fa:FS->Out (List Rv)):FS->Out Rv:=λfs=>(fo fs).bnd λx fs=>if EC C m fs x=true then(fa fs).bind λrs fs=>Ah p Fn (x::rs) fs else .bad
theorem N0{pl:Sem Bool}(G:UN X.prog X.w X.K X.mg X.base (CX1 X.prog X.w) C m k ps (spX X.K p Fn))(hr:DA k X.A)(lk:Lks X Z)(ho:FE X Z o fo)(ha:FAn X Z (e::es) fa)
  (hst:starEach (e::es) X.env=(false,eval e X.env)::starEach es X.env:=by rfl) (hpl:(backTo pos (starEach es X.env)).any (·.1)=false:=by rfl)
  (ht:eval (.Call (.Attribute o m apos) (e::es) [] pos) X.env=(do
   let ov <- eval o X.env
   standAt apos.atName
   let(f,first) <- holding [ov] (getMethod ov m pl)
   callWith pos f first (backTo pos (starEach (e::es) X.env)) (backToKw pos (keywordEach [] X.env))):=by rfl) :
  FE X Z (.Call (.Attribute o m apos) (e::es) [] pos) (CW C m p Fn fo fa):=by
 refine AI (VW G hr lk ho ha hst hpl ht) λU H Q hpt => ?_
 obtain⟨F,B,fs,ok,s⟩:= hpt;refine⟨F,B,fs,ok,Az s λr fs1 F1 H1 u l ok1 rx s1=>?_⟩;split at s1
 .rename_i hi;obtain⟨a,dx,kvs,rfl,hd,hn⟩:=KY ok1 rx hi;refine⟨a,dx,kvs,rfl,hd,hn,F1,B,fs1,ok1,Ay s1 λrs fs2 F2 H2 us l2 q s2=>?_⟩;unfold Ah at s2;split at s2
  next hp=>rw[<- hp];obtain⟨L9,M9,o9,q9,nd9,nf9⟩:=q;refine Ji (rs:=r::rs) (vs:=.ref a::us) ⟨L9,M9,o9,⟨_,us,[],M9,rfl,?_,q9,rfl⟩,nd9,nf9⟩ s2;have rx2:=rx.le l2;cases r with|t t=>exact⟨rfl,rx2⟩|nw o=>exact rx2.elim|n i=>exact⟨rfl,rx2⟩
  .exact s2.elim
 .exact s1.elim
theorem T9(G:UN X.prog X.w X.K X.mg X.base (CX1 X.prog X.w) C m k ps (spX X.K p Fn))(hr:DA k X.A)(ho:FE X Z o fo)
  (h:∀{ta:TE},PE X o ta->PE X (.Call (.Attribute o m apos) [] [] pos) (Sb C m (spX X.K p Fn) [] E0 ta X7)):FE X Z (.Call (.Attribute o m apos) [] [] pos) (HD C m p Fn fo Aj):=by
 refine AI (h ho) λU H Q hpt => ?_
 obtain⟨F,B,fs,ok,s⟩:= hpt;refine⟨F,B,fs,ok,Az s λr fs1 F1 H1 u l ok1 rx s1=>?_⟩;split at s1
 .rename_i hi;obtain⟨a,dx,kvs,rfl,hd,hn⟩:=KY ok1 rx hi;refine⟨a,dx,kvs,rfl,hd,hn,?_⟩;have s2:sat Z B (RR X.K B U) F1 H1 (Ov p Fn [r] fs1) Q:=s1;unfold Ov at s2;split at s2
  next hp=>show spX X.K p Fn (.ref a::([]++[])) H1 Q E0;rw[<- hp];obtain⟨L9,o9⟩:=ok1;refine Vj (E:=E0) (QF (rs:=[r]) (vs:=[.ref a]) ⟨L9,[],o9,⟨_,[],[],[],rfl,?_,⟨rfl,rfl⟩,rfl⟩,by simpa using o9.nd,(λ_ m=>nomatch m)⟩ s2);cases r with|t t=>exact⟨rfl,rx⟩|nw o=>exact rx.elim|n i=>exact⟨rfl,rx⟩
  .exact s2.elim
 .exact s1.elim
theorem Xm(G:Yg X.prog X.w X.K X.mg X.base (CX1 X.prog X.w) x C k ps (spX X.K p Fn))(hr:DA (k+1) X.A)(ha:FAn X Z (e::es) fa)(hg:Gl X x:=by rfl)(hdb:(x==("__debug__":Str))=false:=by decide)
  (he:starEach (e::es) X.env=(false,eval e X.env)::starEach es X.env:=by rfl) (hpl:(backTo pos (starEach es X.env)).any (·.1)=false:=by rfl):FE X Z (.Call (.Name x pp) (e::es) [] pos) (Af (EA C p Fn) fa):=by
 refine AI (ZH G hr V4 ha hg hdb he hpl) λU H Q hpt => ?_
 obtain⟨F,B,fs,ok,s⟩:= hpt;refine⟨F,B,fs,ok,Ay s λrs fs1 F1 H1 us l q s1=>?_⟩;intro a dx h1 h2 h3;rw[bj];exact Vj (E:=E0) (Py q s1 h1 h2 h3)
theorem W5{a b:Expr}{fa fb:FS->Out Rv}(hu:X.A.units+61<cLine)(ha:FE X Z a fa)(hb:FE X Z b fb):FT X Z (.Compare a [.NotEq] [b] pos) (asB (Ag (L7 true) fa fb)):=Eh (Rb true hu) V8 ha hb (D9 _)
noncomputable def GK(c:Str)(f:FS->Out Rv):FS->SO:=λfs=>SO.of (f fs) λr fs=>match r with|.t (.str z)=>if C7 z=true then .exc c fs else .bad|_=>.bad
theorem NN(c:Yi X.K X.mg x)(l:LkD X Z)(hc:X.calm=true)(ha:FE X Z v f)(hl:a.length<=1000:=by decide)(hg:Gl X x:=by rfl)(hdb:(x==("__debug__":Str))=false:=by decide)
  (he:starEach [(.JoinedStr [.Constant (.str a) j cp,.FormattedValue v 114 none fp] jp:Expr)] X.env=[(false,eval (.JoinedStr [.Constant (.str a) j cp,.FormattedValue v 114 none fp] jp) X.env)]:=by rfl) :
  GS X Z (.Raise (some (.Call (.Name x np) [.JoinedStr [.Constant (.str a) j cp,.FormattedValue v 114 none fp] jp] [] cpos)) none pos) (GK x f):=by
 obtain⟨C,h1,h2,h3⟩:=c.ex;refine Cb (Hs (C:=C) (Z:=EZ X.K Z) ⟨h1,h3⟩ l.d.ex hc l.k (BN (ZL ha hl) D8 he) hg hdb he rfl) λD U H hpt => ?_
 obtain⟨F,B,fs,ok,s⟩:= hpt;refine⟨F,B,fs,ok,Bz s λr fs1 F1 H1 u l q s1=>?_⟩;split at s1
 .rename_i z;split at s1
  next hz=>have z9:=q.ok;obtain⟨L,L',_,⟨_,qu⟩,_⟩:=q;have eu:u=.str z:=qu;subst eu;exact⟨z,rfl,hz,λr'=>⟨by simp,F1,B,fs1,x,C,h2,rfl,z9,s1⟩⟩
  .exact s1.elim
 .exact s1.elim
end
section
variable{K:Fg}{B:Nat->Option V}{F F':Wd}{H H':Hp}{U:St}{fs:FS}{i:Nat}{ob:FO}
theorem Aq.app:∀{os:List FO}{o:FO}{vs:List V}{v:V}{L1 L2:List Addr},Aq K F H os vs L1->Ap K F H o v L2->Aq K F H (os++[o]) (vs++[v]) (L1++L2)
 | [],o,vs,v,L1,L2,h,g=>by
  obtain⟨rfl,rfl⟩:=(show vs=[]/\L1=[] by simpa only[Aq]using h)
  simp only[bN,Aq];exact⟨v,[],L2,[],rfl,g,⟨rfl,rfl⟩,by simp⟩
 |x::os,o,vs,v,L1,L2,h,g=>by simp only[Aq]at h;obtain⟨w,r,M1,M2,rfl,h1,h2,rfl⟩:=h;simp only[cf,Aq];exact⟨w,r++[v],M1,M2++L2,rfl,h1,Aq.app h2 g,by simp⟩
end
noncomputable def UK:List Rv->FS->Out Rv
 | [x],fs=>match(Dm fs x).bind Dn with|some ns=>okT (.o (ns.any id)) fs|none=>.bad
 |_,_=>.bad
theorem XU{K:Fg}{Z:Xp}:C4 K Z (λxs H Q=>∃(l:Addr)(bs:List Bool),xs=[.ref l]/\SqL K H l (bs.map V.o)/\Q (.o (bs.any id)) H) UK:=by
 intro F B H U fs rs vs Q ok q s;unfold UK at s;split at s
 .obtain⟨v,rfl,qq⟩:=Bm q;have q:=qq;split at s
  next ns e=>rw[ba]at e;obtain⟨ts,e1,e2⟩:=e;obtain⟨a,us,rfl,hs,r⟩:=Bg ok q e1;rw[Fh e2]at r;rw[Ac.bls r]at hs;exact⟨a,ns,rfl,hs,s F H _ Le.refl (RR.of ok rfl)⟩
  .exact s.elim
 .exact s.elim
section
variable{X:Cx}{Z:Xp}{x:Str}{e a:Expr}{es:List Expr}{f:FS->Out Rv}{fa:FS->Out (List Rv)}{p pos pos':Pos}
theorem Xy(hm:X.mg "any"=none)(ha:FA X Z (e::es) fa)(hc:X.calm=true:=by rfl)(hg:Gl X "any":=by rfl)(he:starEach (e::es) X.env=(false,eval e X.env)::starEach es X.env:=by rfl)(hpl:(backTo pos (starEach es X.env)).any (·.1)=false:=by rfl) :
  FE X Z (.Call (.Name "any" p) (e::es) [] pos) (Af UK fa):=Fc XU (QD hc) hm boot_any ha hg (by decide) (by decide) he hpl
end
section
variable{X:Cx}{Z:Xp}{v v1 v2:Expr}{es:List Expr}{f:FS->Out Rv}{gs:List (FS->Out Rv)}{fp jp:Pos}
end
section
variable{X:Cx}{Z:Xp}{a:Expr}{x:Str}{ts:List Str}{f:FS->Out Rv}{p pos:Pos}
end
end FL
namespace FL
open PySem PySem.Spec L2 PyProof.Rows
section
variable{X:Cx}{Z:Xp}{a b:Expr}{x:Str}{tab:List (Str×List Str)}{fa fb:FS->Out Rv}{p p2 pos:Pos}
end
theorem Xv{X:Cx}{Z:Xp}{a b:Expr}{fa fb:FS->Out Rv}{pos:Pos}(hu:X.A.units+61<cLine)(ha:FE X Z a fa)(hb:FE X Z b fb):FE X Z (.Compare a [.Eq] [b] pos) (Ag (L7 false) fa fb):=K2 (Rb false hu) Wb ha hb (D9 _)
end FL
namespace FL
open PySem PySem.Spec L2
noncomputable def X2:T->Bool
 |.v=>true
 |.o _=>true
 |.int _=>true
 |.str _=>true
 |_=>false
section
variable{K:Fg}{F F':Wd}{H:Hp}
theorem Ar.atom:∀{t:T}{v:V},X2 t=true->Ar K F H t v->Ar K F' H t v/\∀b,v≠.ref b
 |.v,_,_,h=>by cases h;exact⟨rfl,λ_=>nofun⟩
 |.o _,_,_,h=>by cases h;exact⟨rfl,λ_=>nofun⟩
 |.int _,_,_,h=>by cases h;exact⟨rfl,λ_=>nofun⟩
 |.str _,_,_,h=>by cases h;exact⟨rfl,λ_=>nofun⟩
 |.tup _,_,e,_=>by cases e
 |.lst _,_,e,_=>by cases e
 |.z0 _,_,e,_=>by cases e
 |.l _ _,_,e,_=>by cases e
 |.dT _ _,_,e,_=>by cases e
 |.ins _ _ _,_,e,_=>by cases e
 |.dF _ _,_,e,_=>by cases e
 |.zK _,_,e,_=>by cases e
end
section
variable{K:Fg}{F:Wd}{H:Hp}{B:Nat->Option V}
end
section
variable{K:Fg}{X:Cx}{Z:Xp}{a b e:Expr}{es:List Expr}{fa fb:FS->Out Rv}{fl:FS->Out (List Rv)}{p pos:Pos}
end
section
variable{X:Cx}{Z:Xp}{x a a2:Str}{v w:Expr}{f g:FS->Out Rv}{j j2:Nat}{np cpos cp fp cp2 fp2 jp pos:Pos}
noncomputable def Fp(c:Str)(f g:FS->Out Rv):FS->SO:=λfs=>SO.of (f fs) λr fs=>match r with
 |.t (.str z)=>if C7 z=true then SO.of (g fs) λr fs=>(match r with|.t (.str z)=>if C7 z=true then .exc c fs else .bad|_=>.bad)else .bad
 |_=>.bad
end
section
variable{X:Cx}{Z:Xp}{a b:Expr}{fa fb:FS->Out Rv}{pos:Pos}
end
section
variable{K:Fg}{F:Wd}{H:Hp}{B:Nat->Option V}{fs:FS}{U:St}
theorem J8{f:Str}{o:FO}:∀{kvs:List (Str×V)}{os:List FO}{L:List Addr},Aq K F H os (kvs.map (·.2)) L->Bn (kvs.map (·.1)) os f=some o ->
  ∃v L1 A Z,kvs.lookup f=some v/\Ap K F H o v L1/\L=A++(L1++Z)/\∀H' o' L1',(∀a∈A++Z,H' a=H a)->Le F H F H'->Ap K F H' o' v L1'->Aq K F H' (BK (kvs.map (·.1)) os f o') (kvs.map (·.2)) (A++(L1'++Z))
 | [],os,L,r,e=>by cases os<;>simp[Bn]at e
 |(g,x)::kvs,os,L,r,e=>by
  cases os with
  |nil=>simp[Bn]at e
  |cons o1 os =>
   simp only[aj,Aq]at r;obtain⟨v,w,L1,L2,ee,r1,r2,rfl⟩:=r;cases ee;simp only[aj,Bn]at e;rw[br];cases hb:f==g with
   |true =>rw[hb]at e;cases e;refine⟨x,L1,[],L2,rfl,r1,rfl,λH' o' L1' k l ro=>?_⟩;simp only[aj,BK,hb,if_true,Aq];exact⟨x,_,L1',L2,rfl,ro,Aq.le l (λa m=>k a (by simpa using m)) r2,rfl⟩
   |false =>
    rw[hb]at e;obtain⟨v,M,A,Z,h1,h2,rfl,h3⟩:=J8 r2 (by simpa using e);refine⟨v,M,L1++A,Z,h1,h2,by simp,λH' o' L1' k l ro=>?_⟩;have:=h3 H' o' L1' (λa m=>k a (by
     rcases av.mp m with m|m
     .simp[m]
     .simp[m])) l ro
    simp only[aj,BK,hb,Aq];exact⟨x,_,L1,_,rfl,r1.le l λa m=>k a (by simp[m]),this,by simp⟩
theorem Okk.fld{i:Nat}{C:Addr}{gs:List Str}{os:List FO}{f:Str}{o:FO}(ok:Okk K F B H fs U)(e:AE fs i=some (.ins C gs os))(ef:Bn gs os f=some o) :
  ∃a dx kvs v L1,U[i]?=some (some (.ref a))/\H a=some (.ins C dx kvs)/\kvs.map (·.1)=gs/\kvs.lookup f=some v/\Ap K F H o v L1/\a∉L1/\(∀b∈L1,¬F b/\¬F.p b)/\L1.Nodup /\
   ∀o' H',(∀b,b∉L1->H b≠none->H' b=H b)->Ap K F H' o' v L1->Okk K F B H' (putAt fs i (.ins C gs (BK gs os f o'))) U/\Le F H F H':=by
 obtain⟨v,L2,a1,a2,a3,a4,a5⟩:=ok.own e;have d2:=Ap.def a2;simp only[Ap]at a2;obtain⟨a,dx,kvs,L3,rfl,hd,rfl,ro,rfl⟩:=a2;obtain⟨v,L1,A,Z,e1,r1,rfl,bk⟩:=J8 ro ef;have nd:=bh.mp a4;have nd2:=ah.mp nd.2;have nd3:=ah.mp nd2.2.1;have m1:∀b∈L1,b∈a::(A++(L1++Z)):=λb m=>by simp[m]
 refine⟨a,dx,kvs,v,L1,a1,hd,rfl,e1,r1,λm=>nd.1 (by simp[m]),λb m=>a3 b (m1 b m),nd3.1,λo' H' k ro'=>?_⟩;have l:Le F H F H':=by obtain⟨L,o9⟩:=ok;exact⟨λb f=>⟨f,k b (λm=>(a3 b (m1 b m)).1 f) (o9.fd b f)⟩,λb f=>⟨f,k b (λm=>(a3 b (m1 b m)).2 f) (o9.pd b f)⟩⟩
 have q:=bk H' o' L1 (λb m=>k b (λm1=>by
   rcases av.mp m with m|m
   .exact nd2.2.2 b m b (aB _ m1) rfl
   .exact nd3.2.2 b m1 b m rfl) (d2 b (by
   rcases av.mp m with m|m
   .simp[m]
   .simp[m]))) l ro'
 exact a5 _ H' (λb hb hn=>k b (λm=>hb (m1 b m)) hn) (by simp only[Ap];exact⟨a,dx,kvs,_,rfl,by rw[k a (λm=>nd.1 (by simp[m])) (d2 a (by simp))];exact hd,rfl,q,rfl⟩)
end
section
variable{X:Cx}{Z:Xp}{x f:Str}{e:Expr}{fe:FS->Out Rv}{C:Addr}{p1 p2 apos cpos pos:Pos}
end
section
variable{X:Cx}{Z:Xp}{x f:Str}{e:Expr}{fe:FS->Out Rv}{C:Addr}{p1 p2 p3 p4 p5 p6 apos cpos pos:Pos}{j:Nat}
noncomputable def X3:FO->Option (List Key×List FO)
 |.l [] []=>some ([],[])
 |.dO ks os=>some (ks,os)
 |_=>none
theorem QL{K:Fg}{F:Wd}{H:Hp}{o:FO}{ks:List Key}{os:List FO}{v:V}{L:List Addr}(e:X3 o=some (ks,os))(r:Ap K F H o v L) :
  ∃a kvs L',v=.ref a/\H a=some (.l kvs)/\kvs.map (·.1)=ks/\Aq K F H os (kvs.map (·.2)) L'/\L=a::L':=by
 unfold X3 at e;split at e
 .cases e;simp only[Ap,Ac]at r;obtain⟨a,kvs,rfl,hd,hk,_,rfl⟩:=r;have:kvs=[]:=by simpa using hk
  subst this;exact⟨a,[],[],rfl,hd,rfl,⟨rfl,rfl⟩,rfl⟩
 .cases e;simp only[Ap]at r;exact r
 .cases e
noncomputable def Kc(C:Addr)(f:Str)(i jy:Nat):FS->SO:=λfs=>match AE fs i,fs[jy]? with|some (.ins C' gs os),some (some (.val y))=>if C'=C then(match Bn gs os f,Gm y with|some o,some k=>(match X3 o with|some (ks,ds)=>if ks.length<big/\(ks.any λq=>decide (q=k))=false then .nx (putAt fs i (.ins C gs (BK gs os f (.dO (ks++[k]) (ds++[.l [] []])))))else .bad|none=>.bad)|_,_=>.bad)else .bad|_,_=>.bad
theorem O2{kvs:List (Key×V)}{k:Key}{v:V}(h:k∉kvs.map (·.1)):putK kvs k v=kvs++[(k,v)]:=by unfold putK;rw[if_neg];intro z;obtain⟨q,hq,e⟩:=cS.mp z;exact h (aI.mpr ⟨q,hq,aO e⟩)
theorem PY{y:Str}(hu:X.A.units+1<cLine)(c:Cls X.K C)(n:Bi X.K C f)(i jy:Nat)(hx:PE X (.Name x p1) (OE i))(hy:PE X (.Name y p3) (OE jy))(hb1:attributeBase (.Name x p1) f X.env (eval (.Name x p1) X.env)=eval (.Name x p1) X.env:=by rfl)
  (hs:swapsWith (.Dict [] [] p5) (some (.Subscript (.Attribute (.Name x p1) f p2) (.Name y p3) p4)) pos.line X.env=pure false:=by rfl) :
  GS X Z (.Assign [.Subscript (.Attribute (.Name x p1) f p2) (.Name y p3) p4] (.Dict [] [] p5) pos) (Kc C f i jy):=by
 refine Cb (JF hu (KH (f:=f) hx hb1) hy KI hs) λD U H hpt=>?_
 obtain⟨F,B,fs,ok,s⟩:= hpt;unfold Kc at s;split at s
 .rename_i C' gs os y' eo ey;split at s
  .rename_i hC;subst hC;split at s
   .rename_i o k ef ek;split at s
    .rename_i ks ds ed;split at s
     .rename_i hk;intro p hp;have q:RR X.K B U F (upd H p (.l [])) fs (.nw (.l [] [])) (.ref p):=RR.alloc ok hp (by simp only[Ap,Ac];exact⟨p,[],rfl,Ak,rfl,rfl,rfl⟩);have l0:Le F H F (upd H p (.l [])):=AJ ok hp;obtain⟨v,L2,L',a1,a2,a3,a4,a5,a6⟩:=RR.put q eo;have d2:=Ap.def a2;simp only[Ap]at a2;obtain⟨a,dx,kvs,L3,rfl,hd,rfl,ro,rfl⟩:=a2;obtain⟨v1,M1,A,Zz,e1,r1,rfl,bk⟩:=J8 ro ef;obtain⟨b,dkvs,M2,rfl,hdb,rfl,rod,rfl⟩:=QL ed r1;have eL:L'=[p]:=by have a3:Ap X.K F (upd H p (.l [])) (.l [] []) (.ref p) L':=a3;simp only[Ap]at a3;obtain⟨_,_,z,_,_,_,rfl⟩:=a3;cases z;rfl
      subst eL;have ok1:=q.ok;obtain⟨L9,o9⟩:=id ok1;obtain⟨w,N1,N2,N3,e6,_,h1,_⟩:=o9.sl.pick ey;obtain⟨uy,rfl,ry,_⟩:=h1;have:=C5 ek ry;subst this;have nb:=a5 b (by simp);have mb:b∈a::(A++((b::M2)++Zz)):=by simp
      have ndall:=ah.mp a4;have nd1:=bh.mp ndall.1;have nd2:=ah.mp nd1.2;have nd3:=ah.mp nd2.2.1;have nd4:=bh.mp nd3.1;have hab:a≠b:=λz=>nd1.1 (by rw[z];simp)
      have hpb:p≠b:=λz=>ndall.2.2 b mb p (by simp) z.symm
      have np:∀z∈a::(A++((b::M2)++Zz)),z≠p:=λz hz e=>ndall.2.2 z hz p (by simp) e
      have l1:Le F (upd H p (.l [])) F (upd (upd H p (.l [])) b (.l (dkvs++[(k,.ref p)]))):=⟨λz f=>⟨f,Ai λq=>nb.1 (q▸f)⟩,λz f=>⟨f,Ai λq=>nb.2 (q▸f)⟩⟩
      have rdo:Ap X.K F (upd (upd H p (.l [])) b (.l (dkvs++[(k,.ref p)]))) (.dO (dkvs.map (·.1)++[k]) (ds++[.l [] []])) (.ref b) (b::(M2++[p])):=by simp only[Ap];refine⟨b,dkvs++[(k,.ref p)],M2++[p],rfl,Ak,by simp,?_,rfl⟩;rw[aq];refine Aq.app (Aq.le l1 (λz m=>Ai λq=>nd4.1 (q▸m)) rod) ?_;simp only[Ap,Ac];exact⟨p,[],rfl,by rw[Ai hpb];exact Ak,rfl,rfl,rfl⟩
      have q5:=bk (upd (upd H p (.l [])) b (.l (dkvs++[(k,.ref p)]))) _ _ (λz m=>Ai λq=>by
       subst q;rcases av.mp m with m|m
       .exact nd2.2.2 z m z (by simp) rfl
       .exact nd3.2.2 z (by simp) z m rfl) l1 rdo
      have mem:∀z,z∈a::(A++((b::(M2++[p]))++Zz))->z∈a::(A++((b::M2)++Zz))\/z∈[p]:=λz hz=>by
       simp only[aH,av,cf,aZ,or_false]at hz ⊢;rcases hz with h|h|h|(h|h)|h
       .exact .inl (.inl h)
       .exact .inl (.inr (.inl h))
       .exact .inl (.inr (.inr (.inl h)))
       .exact .inl (.inr (.inr (.inr (.inl h))))
       .exact .inr h
       .exact .inl (.inr (.inr (.inr (.inr h))))
      obtain⟨ok',l'⟩:=a6 (.ins C' (kvs.map (·.1)) (BK (kvs.map (·.1)) os f (.dO (dkvs.map (·.1)++[k]) (ds++[.l [] []])))) (upd (upd H p (.l [])) b (.l (dkvs++[(k,.ref p)]))) (a::(A++((b::(M2++[p]))++Zz))) (λz hz _=>Ai λq=>hz (by rw[q];exact mb)) (by
       simp only[Ap];exact⟨a,dx,kvs,_,rfl,by rw[Ai hab];exact hd,rfl,q5,rfl⟩) (by
       have pm:(a::(A++((b::(M2++[p]))++Zz))).Perm ((a::(A++((b::M2)++Zz)))++[p]):=by simp only[cf,bu,bN];refine List.Perm.cons _ (List.Perm.append_left _ (List.Perm.cons _ (List.Perm.append_left _ ?_)));exact(List.perm_append_comm (l₁:=[p]) (l₂:=Zz))
       exact pm.nodup_iff.mpr a4) mem
      have hkk:k∉dkvs.map (·.1):=λm=>by have:=cO.mp hk.2 k m;simp at this
      have e6':U[jy]?=some (some (kV k)):=e6;refine⟨_,a1,a,C',dx,kvs,.ref b,rfl,hd,c,n,e1,kV k,e6',b,_,rfl,Mq.k hdb (by have:=hk.1;rw[ar]at this;exact bW this Gd),?_⟩;rw[O2 hkk];exact s F _ U (l0.trans l') ok'
     .exact s.elim
    .exact s.elim
   .exact s.elim
  .exact s.elim
 .exact s.elim
end
noncomputable def Me(fa:FS->Out (List Rv)):FS->Out Rv:=λfs=>(fa fs).bind λrs fs=>match rs with| [.t x,.t y]=>(match Jr x,Jr y with|some xs,some ys=>(match Gp xs with|some ks=>if ks.Nodup/\ks.length=ys.length then .ok (.nw (.l ks ys)) fs else .bad|none=>.bad)|_,_=>.bad)|_=>.bad
noncomputable def Rk(x:T):List T->Option Bool
 | []=>some false
 |y::ys=>(eqT 9 y x).bind λb=>(Rk x ys).map (b||·)
noncomputable def L5:Rv->Rv->FS->Out Rv:=λx y fs=>match x with|.t x=>(match(Dm fs y).bind (Rk x)with|some b=>okT (.o !b) fs|none=>.bad)|_=>.bad
noncomputable def AD(fs:FS):FS:=fs.map λs=>match s with|some (.val t)=>some (.val t)|_=>none
noncomputable def JG(j:Nat)(f:FS->Out Rv):FS->Out Rv:=λfs=>match AE fs j with|some o=>(match f ((AD fs).set j (some (.val (toT o))))with|.ok (.t t) _=>if X2 t=true then .ok (.t t) fs else .bad|_=>.bad)|none=>.bad
noncomputable def Hk:List Key->List FO->Key->Option FO
 |k::ks,o::os,j=>if k=j then some o else Hk ks os j
 |_,_,_=>none
noncomputable def Hr:List Key->List FO->Key->FO->List FO
 |k::ks,o::os,j,x=>if k=j then x::os else o::Hr ks os j x
 |_,os,_,_=>os
noncomputable def dput2(C:Addr)(f:Str)(i jy jz:Nat)(fv:FS->Out Rv):FS->SO:=λfs=>SO.of (fv fs) λr fs=>match r,AE fs i,fs[jy]?,fs[jz]? with|.t t,some (.ins C' gs os),some (some (.val y)),some (some (.val z))=>if C'=C then(match Bn gs os f,Gm y,Gm z with|some (.dO ks ds),some k,some k2=>(match Hk ks ds k with|some (.l ks2 ts2)=>if ks2.length<big then .nx (putAt fs i (.ins C gs (BK gs os f (.dO ks (Hr ks ds k (.l (Ew ks2 ts2 k2 t).1 (Ew ks2 ts2 k2 t).2))))))else .bad|_=>.bad)|_,_,_=>.bad)else .bad|_,_,_,_=>.bad
end FL
namespace L2
open PySem PySem.Spec
end L2
namespace FL
open PySem PySem.Spec L2
section
variable{X:Cx}{Z:Xp}{tg l o a b e:Expr}{f fa fb:FS->Out Rv}{g:FS->Out (List Rv)}{p1 p2 pos pos1 pos2 apos cpos tpos kp cp:Pos}{elts:List Expr}{k0 j:Nat}{d:Int}
theorem ML{K:Fg}{F:Wd}{H:Hp}{ys:List T}{vs:List V}{ks:List Key}(r:Ac K F H ys vs)(h:ks.length=ys.length):(ks.zip vs).map (·.1)=ks/\(ks.zip vs).map (·.2)=vs:=by have hl:=r.len;exact⟨b8 (by lia),List.map_snd_zip (by lia)⟩
theorem Mc(hc:X.calm=true)(hm1:X.mg "dict"=none)(hm2:X.mg "zip"=none)(ha:FA X Z [a,b] g)(hg1:Gl X "dict":=by rfl)(hg2:Gl X "zip":=by rfl)
  (he:starEach [(.Call (.Name "zip" p2) [a,b] [] pos2:Expr)] X.env=[(false,eval (.Call (.Name "zip" p2) [a,b] [] pos2) X.env)]:=by rfl) (hs:starEach [a,b] X.env=[(false,eval a X.env),(false,eval b X.env)]:=by rfl) (hs2:starEach [b] X.env=[(false,eval b X.env)]:=by rfl) :
  FE X Z (.Call (.Name "dict" p1) [.Call (.Name "zip" p2) [a,b] [] pos2] [] pos1) (Me g):=by
 refine AI (LM hc hm1 hm2 ha hg1 hg2 he hs hs2) λU H Q hpt => ?_
 obtain⟨F,B,fs,ok,s⟩:= hpt;refine⟨F,B,fs,ok,Ay s λrs fs1 F1 H1 us l q s1=>?_⟩;split at s1
 .rename_i x y;split at s1
  .rename_i xs ys e1 e2;split at s1
   .rename_i ks ek;split at s1
    next hk=>obtain⟨ok1,u,w,rfl,rx,u2,w2,rfl,ry,rfl⟩:=q;obtain⟨b1,a1,vs,rfl,q1,h1⟩:=Fo rx e1;obtain⟨b2,a2,ws,rfl,q2,h2⟩:=Fo ry e2;have ev:=D6 ek q1;subst ev;obtain⟨z1,z2⟩:=ML q2 hk.2;refine⟨b1,a1,b2,a2,ks,ws,rfl,h1 F1 H1 λ_ f=>⟨f,rfl⟩,h2 F1 H1 λ_ f=>⟨f,rfl⟩,hk.1,by rw[q2.len];exact hk.2,λd hd=>?_⟩;refine s1 F1 _ (.ref d) (AJ ok1 hd) (RR.alloc ok1 hd ?_);simp only[Ap];exact⟨d,ks.zip ws,rfl,Ak,z1,by rw[z2];exact q2.le (AJ ok1 hd),rfl⟩
    .exact s1.elim
   .exact s1.elim
  .exact s1.elim
 .exact s1.elim
end
section
variable{X:Cx}{Z:Xp}{a b e:Expr}{f fa fb:FS->Out Rv}{pos p1 p2 cp1 cp2:Pos}{j1 j2:Nat}{x1 x2 k1 k2:Str}
def JaB(X:Cx)(H:Hp)(x y:V)(b:Bool):Prop:=∀(pins:List (Addr×Obj))(U:St)(s:Shared)(u w:Value),Inv X pins U H s->RelV x u->RelV y w->∀(Q:Value->Shared->Prop),Q (.bool !b) s->wpAny (model X.prog X.w) X.A (compareOp .NotIn u w) Q X.xe s
theorem SS:OpR X (compareOp .NotIn) (λx y H Q=>∃b,JaB X H x y b/\Q (.o !b) H):=by intro pins s U H x y v u Q I rx ry ⟨b,h,q⟩;exact h pins U s v u I rx ry _ ⟨.o !b,H,I,rfl,q⟩
theorem NG{x:T}:∀{ys:List T}{b:Bool},Rk x ys=some b->(∀(i:Nat)(y:T),ys[i]?=some y->∃c,eqT 9 y x=some c)/\(b=true↔∃(i:Nat)(y:T),ys[i]?=some y/\eqT 9 y x=some true)
 | [],b,e=>by cases e;exact⟨λi y h=>by simp at h,by simp⟩
 |y::ys,b,e=>by
  simp only[Rk,ba,aA]at e;obtain⟨c,e1,d,e2,rfl⟩:=e;obtain⟨h1,h2⟩:=NG e2;refine⟨λi z h=>?_,?_⟩
  .cases i with|zero=>simp at h;subst h;exact⟨c,e1⟩|succ i=>exact h1 i z (by simpa using h)
  .rw[bY,h2];constructor
   .rintro(h|⟨i,z,h,h'⟩)
    .exact⟨0,y,rfl,by rw[e1,h]⟩
    .exact⟨i+1,z,by simpa using h,h'⟩
   .rintro⟨i,z,h,h'⟩
    cases i with|zero=>simp at h;subst h;rw[e1]at h';cases h';exact .inl rfl|succ i=>exact .inr ⟨i,z,by simpa using h,h'⟩
open Classical in
theorem Pn{F:Wd}{H:Hp}{p:Addr}{x:T}{v:V}{ys:List T}{vs:List V}{b:Bool}(hu:X.A.units+61<cLine)(e:Rk x ys=some b)(rx:Ar X.K F H x v)(sy:SqL X.K H p vs)(ry:Ac X.K F H ys vs):JaB X H v (.ref p) b:=by
 intro pins U s u w I qx qy Q q;cases qy;obtain⟨its,vy,pl,hz⟩:=I.list sy;obtain⟨h1,h2⟩:=NG e;have key:∀(i:Nat)(z:T),ys[i]?=some z->∃w',its[i]?=some w'/\∀c,eqT 9 z x=some c->SeqAt.EqAt X.A.in1 s w' u c:=λi z hz'=>by obtain⟨v1,e1,r1⟩:=ry.at hz';obtain⟨w1,e2,r2⟩:=vy.get e1;exact⟨w1,e2,λc hc=>K4 I (n:=9) (A:=X.A.in1) (by show X.A.units+1+9<_;lia) hc r1 rx r2 qx⟩
 have ln:its.length=ys.length:=by rw[<- vy.length,ry.len]
 let ee:Value->Bool:=λw'=>decide (∃(i:Nat)(z:T),ys[i]?=some z/\its[i]?=some w'/\eqT 9 z x=some true)
 refine SeqAt.notIn_listAt ee pl.isList (λw' hw=>?_) ?_
 .have hw':w'∈its:=by simpa using hw
  obtain⟨i,hi,ei⟩:=cj hw';have ei':its[i]?=some w':=by rw[ag hi,ei]
  by_cases h:∃(i:Nat)(z:T),ys[i]?=some z/\its[i]?=some w'/\eqT 9 z x=some true
  .obtain⟨i,z,g1,g2,g3⟩:=id h;obtain⟨w1,f1,f2⟩:=key i z g1;rw[g2]at f1;cases f1;rw[show ee w'=true from aV h];exact f2 true g3
  .have gy:ys[i]?=some (ys[i]'(by lia)):=ag (by lia);obtain⟨c,ec⟩:=h1 i _ gy;obtain⟨w1,f1,f2⟩:=key i _ gy;rw[ei']at f1;cases f1;rw[show ee w'=false from aT h];cases c with|true=>exact(h ⟨i,_,gy,ei',ec⟩).elim|false=>exact f2 false ec
 .have:its.toArray.any ee=b:=by
   rw[bO,h2];simp only[List.any_toArray,cS];constructor
   .rintro⟨w',_,h⟩
    obtain⟨i,z,g1,_,g3⟩:=aO h;exact⟨i,z,g1,g3⟩
   .rintro⟨i,z,g1,g3⟩
    obtain⟨w1,f1,_⟩:=key i z g1;exact⟨w1,bq f1,aV ⟨i,z,g1,f1,g3⟩⟩
  rw[this];exact q
theorem S3(hu:X.A.units+61<cLine):OpF X.K Z (λx y H Q=>∃b,JaB X H x y b/\Q (.o !b) H) L5:=by
 intro F B H U fs x y u w Q ok rx ry s;unfold L5 at s;split at s
 .rename_i t;split at s
  next b e=>rw[ba]at e;obtain⟨ys,e1,e2⟩:=e;obtain⟨p,vs,rfl,hq,r⟩:=Bg ok ry e1;exact⟨b,Pn hu e2 rx hq r,s F H _ Le.refl (RR.of ok rfl)⟩
  .exact s.elim
 .exact s.elim
theorem TV(hu:X.A.units+61<cLine)(ha:FE X Z a fa)(hb:FE X Z b fb)(hm:behindInMarks .NotIn b=false:=by rfl):FT X Z (.Compare a [.NotIn] [b] pos) (asB (Ag L5 fa fb)):=Eh (S3 hu) SS ha hb hm
end
end FL
namespace FL
open PySem PySem.Spec L2
section
variable{K:Fg}{F:Wd}{H:Hp}
theorem Ao.vals:∀{fs:FS}{U:St}{L:List Addr},Ao K F H fs U L->Ao K F H (AD fs) U []
 | [],U,L,h=>by simp only[Ao]at h;exact⟨h.1,rfl⟩
 |s::r,U,L,h=>by
  obtain⟨v,σ',L1,L2,rfl,h1,h2,rfl⟩:=h.GG;have ih:=Ao.vals h2
  match s,h1 with|Option.none,h1=>exact Ao.cons (L1:=[]) (by exact rfl) ih|some (.val t),h1 =>obtain⟨u,rfl,q,_⟩:=h1;exact Ao.cons (L1:=[]) (by exact⟨u,rfl,q,rfl⟩) ih|some (.own o),h1=>exact Ao.cons (L1:=[]) (by exact rfl) ih|some (.bor o),h1=>exact Ao.cons (L1:=[]) (by exact rfl) ih
theorem T8{X:Cx}{Z:Xp}{e:Expr}{f:FS->Out Rv}(j:Nat)(he:FE X Z e f):FE X Z e (JG j f):=by
 refine AI he λU H Q hpt=>?_
 obtain⟨F,B,fs,⟨L,ok⟩,s⟩:= hpt;unfold JG at s;split at s
 .rename_i o eo;obtain⟨sl,es,ho⟩:∃sl,fs[j]?=some (some sl)/\(sl=.own o\/sl=.bor o):=by
   unfold AE at eo;split at eo
   next o' es=>cases eo;exact⟨_,es,.inl rfl⟩
   next o' es=>cases eo;exact⟨_,es,.inr rfl⟩
   .cases eo
  obtain⟨v,L1,Lj,L3,e1,rfl,h1,_⟩:=ok.sl.pick es;obtain⟨u,rfl,q⟩:∃u,v=some u/\Ap X.K F H o u Lj:=by
   rcases ho with rfl|rfl
   .exact h1
   .exact h1
  have nd:=ok.nd;have dis:∀a∈L1++L3,a∉Lj:=λa ha hb=>by
   rw[ah]at nd;rcases av.mp ha with ha|ha
   .exact nd.2.2 a ha a (aB _ hb) rfl
   .exact(ah.mp nd.2.1).2.2 a hb a ha rfl
  have mL:∀a,a∈L1++(Lj++L3)->a∈L1++L3\/a∈Lj:=λa h=>by
   simp only[av]at h ⊢;rcases h with h|h|h
   .exact .inl (.inl h)
   .exact .inr h
   .exact .inl (.inr h)
  have mO:∀a,a∈L1++L3->a∈L1++(Lj++L3):=λa h=>by rcases av.mp h with h|h<;>simp[h]
  have lF:Le F H ⟨λa=>F a\/a∈Lj,F.p⟩ H:=⟨λa f=>⟨.inl f,rfl⟩,λa f=>⟨f,rfl⟩⟩
  have rt:Ar X.K ⟨λa=>F a\/a∈Lj,λa=>F.p a\/a∈L1++L3⟩ H (toT o) u:=Ar.wp (Ap.frz lF (λa m=>.inr m) q);have hj:j<fs.length:=(ak.mp es).1;have ev:(AD fs)[j]?=some none:=by unfold AD;rw[aP,es];rcases ho with rfl|rfl<;>rfl
  have ok1:Ok X.K ⟨λa=>F a\/a∈Lj,λa=>F.p a\/a∈L1++L3⟩ B H ((AD fs).set j (some (.val (toT o)))) U []:=by
   have h0:Ao X.K ⟨λa=>F a\/a∈Lj,λa=>F.p a\/a∈L1++L3⟩ H (AD fs) U []:=by have:=(Ao.vals ok.sl).le lF (by simp);exact Ao.wp this
   obtain⟨v',M1,M2,M3,z1,z2,z3,z4⟩:=h0.pick ev;have zM:M1=[]/\M2=[]/\M3=[]:=by simpa using z2.symm
   obtain⟨rfl,rfl,rfl⟩:=zM;have z5:=z4 _ H (some (.val (toT o))) (some u) [] Le.refl (λ_ m=>nomatch m) ⟨u,rfl,rt,rfl⟩;rw[A6 e1]at z5;refine⟨z5,aW,(λ_ m=>nomatch m),λa f=>?_,λi ob e=>?_,λa f=>?_,λa f z=>?_,(λ_ m=>nomatch m)⟩
   .rcases f with f|f
    .exact ok.fd a f
    .exact Ap.def q a f
   .exfalso;by_cases hij:j=i
    .subst hij;rw[bp (by unfold AD;rw[ar];exact hj)]at e;cases e
    .rw[bw hij]at e;unfold AD at e;rw[aP,aA]at e;obtain⟨x,_,ex⟩:=e;split at ex<;>cases ex
   .rcases f with f|f
    .exact ok.pd a f
    .exact ok.sl.def a (mO a f)
   .rcases f with f|f
    .rcases z with z|z
     .exact ok.pf a f z
     .exact ok.nf a (mO a z) f
    .rcases z with z|z
     .exact ok.pl a (by simp[f]) z
     .exact dis a z f
  refine⟨_,B,_,⟨[],ok1⟩,?_⟩;cases ef:f ((AD fs).set j (some (.val (toT o))))with
  |exc c τ=>rw[ef]at s;exact s.elim
  |bad=>rw[ef]at s;exact s.elim
  |ok r τ =>
   rw[ef]at s;cases r with
   |nw t=>exact s.elim
   |n t=>exact s.elim
   |t t =>
    dsimp only at s;split at s
    .rename_i ha;intro F2 H2 w l2 q2;obtain⟨_,_,_,⟨_,rv⟩,_⟩:=q2;have kL:∀a∈L1++(Lj++L3),H2 a=H a:=λa m=>by
      rcases mL a m with m|m
      .exact(l2.p a (.inr m)).2
      .exact(l2.f a (.inr m)).2
     have lq:Le F H F H2:=⟨λa f=>⟨f,(l2.f a (.inl f)).2⟩,λa f=>⟨f,(l2.p a (.inl f)).2⟩⟩
     refine s F H2 w lq (RR.of ⟨L1++(Lj++L3),ok.sl.le lq kL,ok.nd,ok.nf,λa f=>by rw[(lq.f a f).2];exact ok.fd a f,ok.bo,λa f=>by rw[(lq.p a f).2];exact ok.pd a f,ok.pf,ok.pl⟩ (Ar.atom ha rv).1)
    .exact s.elim
 .exact s.elim
end
section
variable{K:Fg}{F:Wd}{H:Hp}
theorem Nt{k:Key}{o:FO}:∀{kvs:List (Key×V)}{os:List FO}{L:List Addr},Aq K F H os (kvs.map (·.2)) L->Hk (kvs.map (·.1)) os k=some o ->
  ∃v L1 A Z,Jw kvs k=some v/\Ap K F H o v L1/\L=A++(L1++Z)/\∀H' o' L1',(∀a∈A++Z,H' a=H a)->Le F H F H'->Ap K F H' o' v L1'->Aq K F H' (Hr (kvs.map (·.1)) os k o') (kvs.map (·.2)) (A++(L1'++Z))
 | [],os,L,r,e=>by cases os<;>simp[Hk]at e
 |(g,x)::kvs,os,L,r,e=>by
  cases os with
  |nil=>simp[Hk]at e
  |cons o1 os =>
   simp only[aj,Aq]at r;obtain⟨v,w,L1,L2,ee,r1,r2,rfl⟩:=r;cases ee;simp only[aj,Hk]at e;by_cases hb:g=k
   .rw[if_pos hb]at e;cases e;refine⟨x,L1,[],L2,D3 hb,r1,rfl,λH' o' L1' kk l ro=>?_⟩;simp only[aj,Hr,hb,if_true,Aq];exact⟨x,_,L1',L2,rfl,ro,Aq.le l (λa m=>kk a (by simpa using m)) r2,rfl⟩
   .rw[if_neg hb]at e;obtain⟨v,M,A,Z,h1,h2,rfl,h3⟩:=Nt r2 e;refine⟨v,M,L1++A,Z,by rw[D4 (p:=(g,x)) hb];exact h1,h2,by simp,λH' o' L1' kk l ro=>?_⟩;have:=h3 H' o' L1' (λa m=>kk a (by
     rcases av.mp m with m|m
     .simp[m]
     .simp[m])) l ro
    simp only[aj,Hr,hb,if_false,Aq];exact⟨x,_,L1,_,rfl,r1.le l λa m=>kk a (by simp[m]),this,by simp⟩
end
section
variable{X:Cx}{Z:Xp}{x y z f:Str}{v:Expr}{fv:FS->Out Rv}{C:Addr}{p1 p2 p3 p4 p5 p6 pos:Pos}
theorem P0(hu:X.A.units+1<cLine)(c:Cls X.K C)(n:Bi X.K C f)(i jy jz:Nat)(hx:PE X (.Name x p1) (OE i))(hy:PE X (.Name y p3) (OE jy))(hz:PE X (.Name z p5) (OE jz))(hv:FE X Z v fv)(hb1:attributeBase (.Name x p1) f X.env (eval (.Name x p1) X.env)=eval (.Name x p1) X.env:=by rfl)
  (hs:swapsWith v (some (.Subscript (.Subscript (.Attribute (.Name x p1) f p2) (.Name y p3) p4) (.Name z p5) p6)) pos.line X.env=pure false:=by rfl) (hn:JaA (.Name y p3):=by exact λ_ _=>rfl) :
  GS X Z (.Assign [.Subscript (.Subscript (.Attribute (.Name x p1) f p2) (.Name y p3) p4) (.Name z p5) p6] v pos) (dput2 C f i jy jz fv):=by
 refine Cb (JF hu (SK hu (KH (f:=f) hx hb1) hy hn) hz hv hs) λD U H hpt => ?_
 obtain⟨F,B,fs,ok,s⟩:= hpt;refine⟨F,B,fs,ok,Bz s λr fs1 F1 H1 u l q s1=>?_⟩;split at s1
 .rename_i t C' gs os yt zt eo ey ez;split at s1
  .rename_i hC;subst hC;split at s1
   .rename_i ks ds k k2 ef ek ek2;split at s1
    .rename_i ks2 ts2 ed;split at s1
     .rename_i hl2;have ok1:=q.ok;have rt:Ar X.K F1 H1 t u:=by obtain⟨_,_,_,⟨_,rt⟩,_⟩:=q;exact rt
      obtain⟨a,dx,kvs,w,L1,a1,hd,rfl,e1,r1,na,nf,ndL,bk⟩:=ok1.fld eo ef;simp only[Ap]at r1;obtain⟨b,dkvs,M2,rfl,hdb,rfl,rod,rfl⟩:=r1;obtain⟨v2,N,A,Zz,e2,r2,rfl,bk2⟩:=Nt rod ed;simp only[Ap]at r2;obtain⟨c2,kvs2,rfl,hc2,rfl,rts,rfl⟩:=r2;obtain⟨L9,o9⟩:=id ok1;have slot:∀{j:Nat}{t':T}{kk:Key},fs1[j]?=some (some (.val t'))->Gm t'=some kk->U[j]?=some (some (kV kk)):=λ{j t' kk} ej et=>by obtain⟨w,_,_,_,e6,_,h1,_⟩:=o9.sl.pick ej;obtain⟨uy,rfl,ry,_⟩:=h1;have:=C5 et ry;subst this;exact e6
      have ndb:=bh.mp ndL;have nda:=ah.mp ndb.2;have ndz:=ah.mp nda.2.1;have hbc:b≠c2:=λzz=>ndb.1 (by rw[zz];simp)
      have fc:=nf c2 (by simp);have lq:Le F1 H1 F1 (upd H1 c2 (.l (putK kvs2 k2 u))):=⟨λa f=>⟨f,Ai λq=>fc.1 (q▸f)⟩,λa f=>⟨f,Ai λq=>fc.2 (q▸f)⟩⟩
      obtain⟨p1',p2'⟩:=E6 (j:=k2) rt rts;have ro2:Ap X.K F1 (upd H1 c2 (.l (putK kvs2 k2 u))) (.l (Ew (kvs2.map (·.1)) ts2 k2 t).1 (Ew (kvs2.map (·.1)) ts2 k2 t).2) (.ref c2) [c2]:=by simp only[Ap];exact⟨c2,putK kvs2 k2 u,rfl,Ak,p1',Ac.le lq p2',rfl⟩
      have rO:=bk2 (upd H1 c2 (.l (putK kvs2 k2 u))) _ _ (λa m=>Ai λq=>by
       subst q;rcases av.mp m with m|m
       .exact nda.2.2 a m a (by simp) rfl
       .exact ndz.2.2 a (by simp) a m rfl) lq ro2
      obtain⟨ok',l'⟩:=bk (.dO (dkvs.map (·.1)) (Hr (dkvs.map (·.1)) ds k (.l (Ew (kvs2.map (·.1)) ts2 k2 t).1 (Ew (kvs2.map (·.1)) ts2 k2 t).2))) (upd H1 c2 (.l (putK kvs2 k2 u))) (λa hb _=>Ai λq=>hb (by rw[q];simp)) (by simp only[Ap];exact⟨b,dkvs,_,rfl,by rw[Ai hbc];exact hdb,rfl,rO,rfl⟩);exact⟨_,a1,a,C',dx,kvs,.ref b,rfl,hd,c,n,e1,kV k,slot ey ek,b,.ref c2,rfl,by rw[<- e2];exact Ju.k hdb,kV k2,slot ez ek2,c2,_,rfl,Mq.k hc2 (by rw[ar]at hl2;exact bW hl2 Gd),s1 F1 _ U l' ok'⟩
     .exact s1.elim
    .exact s1.elim
   .exact s1.elim
  .exact s1.elim
 .exact s1.elim
end
end FL
namespace FL
open PySem PySem.Spec L2 PyProof.Rows
section
variable{X:Cx}{Z:Xp}{x:Str}{k p:Nat}{ps:List Str}{Fn:FS->Out Rv}{e o:Expr}{es:List Expr}{fa:FS->Out (List Rv)}{fo f:FS->Out Rv}{pp pos apos np cpos cp fp jp:Pos}{C:Addr}{m:Str}{v:Expr}{a:Str}{j:Nat}
end
noncomputable def JaP:Rv->Option Int->Option Int->FS->Out Rv:=λx lo hi fs=>match x with|.t (.str z)=>if(Txt.slice z lo hi).length<=big then okT (.str (Txt.slice z lo hi)) fs else .bad|_=>.bad
noncomputable def slS(f:FS->Out Rv)(l h:FS->Out (Option Int)):FS->Out Rv:=λfs=>(f fs).bnd λx fs=>(l fs).bind λlo fs=>(h fs).bind λhi fs=>JaP x lo hi fs
section
variable{X:Cx}{Z:Xp}{e:Expr}{lo hi:Option Expr}{f:FS->Out Rv}{l h:FS->Out (Option Int)}{pos p2:Pos}
theorem Xh(he:FE X Z e f)(hl:FP X Z lo l)(hu:FP X Z hi h):FE X Z (.Subscript e (.Slice lo hi none p2) pos) (slS f l h):=by
 refine AI (KG Vl he hl hu) λU H Q hpt => ?_
 obtain⟨F,B,fs,ok,s⟩:= hpt;refine⟨F,B,fs,ok,Az s λx fs1 F1 H1 u l1 ok1 rx s1=>⟨F1,B,fs1,ok1,Ay s1 λlo fs2 F2 H2 lo' l2 q2 s2=>?_⟩⟩;obtain⟨ok2,rfl⟩:=q2;refine⟨F2,B,fs2,ok2,Ay s2 λhi fs3 F3 H3 hi' l3 q3 s3=>?_⟩;obtain⟨ok3,rfl⟩:=q3;have rx3:=(rx.le l2).le l3;unfold JaP at s3;split at s3
 .rename_i z;split at s3
  next hz=>have eu:u=.str z:=rx3;subst eu;exact⟨z,rfl,by rw[sizeLine_eq];exact aR hz (by decide),s3 F3 H3 _ Le.refl (RR.of ok3 rfl)⟩
  .exact s3.elim
 .exact s3.elim
end
end FL
namespace FL
open PySem PySem.Spec L2
noncomputable def Eo:Int->List T->List T
 |_,[]=>[]
 |i,t::ts=>.tup [.int i,t]::Eo (i+1) ts
noncomputable def itE(f:FS->Out Rv):FS->Out (List T):=λfs=>(f fs).bnd λr fs=>match r with
 |.t x=>match Jr x with|some xs=>.ok (Eo 0 xs) fs|none=>.bad
 |_=>.bad
noncomputable def NQ:Rv->List Rv->FS->Out Rv
 |.n i,[],fs=>match AE fs i with|some (.lst ts)=>.ok (.t .v) (putAt fs i (.lst ts.reverse))|_=>.bad
 |_,_,_=>.bad
noncomputable def LA(n:Nat)(h:List T->FS->Option FS):T->FS->Option FS:=λt fs=>match t with|.lst ts=>if ts.length=n then h ts fs else none|_=>none
theorem WM{X:Cx}{es:List Expr}{h:List T->FS->Option FS}{pos:Pos}{k n:Nat}(hc:X.calm=true)(h1:GTs X es h)(hn:(assignEach es X.env).length=n:=by rfl)(hst:(assignEach es X.env).findIdx? (·.1)=none:=by rfl):GT X (.Tuple es k pos) (LA n h):=by
 refine MZ (VQ hc h1 hn hst) λv U H Q hpt=>?_
 obtain⟨F,B,fs,t,ok,r,s⟩:= hpt;unfold LA at s;split at s
 .rename_i fs' e;split at e
  .rename_i ts;split at e
   next hl=>simp only[Ar]at r;obtain⟨a,vs,rfl,_,hs,r⟩:=r;refine⟨a,vs,rfl,.inl (.inl hs),by rw[r.len];exact hl,F,B,fs,ts,ok,r,?_⟩;rw[e];exact s
   .cases e
  .cases e
 .exact s.elim
section
variable{X:Cx}{Z:Xp}{x a a2:Str}{v w:Expr}{f g:FS->Out Rv}{j j2:Nat}{np cpos cp fp cp2 fp2 jp pos:Pos}
theorem LZ(c:Yi X.K X.mg x)(l:LkD X Z)(hc:X.calm=true)(ha:FE X Z v f)(hb:FE X Z w g)(hl:a.length<=1000:=by decide)(hg:Gl X x:=by rfl)(hdb:(x==("__debug__":Str))=false:=by decide)
  (he:starEach [(.JoinedStr [.FormattedValue v 114 none fp,.Constant (.str a) j cp,.FormattedValue w 114 none fp2] jp:Expr)] X.env=[(false,eval (.JoinedStr [.FormattedValue v 114 none fp,.Constant (.str a) j cp,.FormattedValue w 114 none fp2] jp) X.env)]:=by rfl) :
  GS X Z (.Raise (some (.Call (.Name x np) [.JoinedStr [.FormattedValue v 114 none fp,.Constant (.str a) j cp,.FormattedValue w 114 none fp2] jp] [] cpos)) none pos) (Fp x f g):=by
 obtain⟨C,h1,h2,h3⟩:=c.ex;refine Cb (Hs (C:=C) (Z:=EZ X.K Z) ⟨h1,h3⟩ l.d.ex hc l.k (BN (V0 ha hb hl) D8 he) hg hdb he rfl) λD U H hpt => ?_
 obtain⟨F,B,fs,ok,s⟩:= hpt;refine⟨F,B,fs,ok,Bz s λr fs1 F1 H1 u l q s1=>?_⟩;split at s1
 .rename_i z;split at s1
  .rename_i hz;have z9:=q.ok;obtain⟨L,L',_,⟨_,qu⟩,_⟩:=q;have eu:u=.str z:=qu;subst eu;refine⟨z,rfl,hz,F1,B,fs1,z9,Bz s1 λr2 fs2 F2 H2 u2 l2 q2 s2=>?_⟩;split at s2
   .rename_i z2;split at s2
    next hz2=>have hok2:=q2.ok;obtain⟨_,_,_,⟨_,qu2⟩,_⟩:=q2;have eu2:u2=.str z2:=qu2;subst eu2;exact⟨z2,rfl,hz2,λr'=>⟨by simp,F2,B,fs2,x,C,h2,rfl,hok2,s2⟩⟩
    .exact s2.elim
   .exact s2.elim
  .exact s1.elim
 .exact s1.elim
end
noncomputable def Qb:Rv->Rv->FS->Out Rv:=gI λi j fs=>if 0<j/\j.natAbs.log2<9000 then okT (.int (i/j)) fs else .bad
theorem Pj{X:Cx}:OpR X (binaryOp .FloorDiv) (rI (λ_ j=>0<j/\j.natAbs.log2<9000) λi j=>.int (i/j)):=opI λi j _ _ _ _ _ hc q=>by have h1:(0:Int)<j:=hc.1;exact PyProof.Rows.floordiv_int (by lia) (by rw[Int.fdiv_eq_ediv_of_nonneg i (by lia)];exact q) (.inl (PyProof.noPylong_of_log2 hc.2))
theorem S7{K:Fg}{Z:Xp}:OpF K Z (rI (λ_ j=>0<j/\j.natAbs.log2<9000) λi j=>.int (i/j)) Qb:=M7 (t:=λi j=>.int (i/j)) (λ_ _ _ _ _=>rfl) λi j fs=>by
 by_cases h:0<j/\j.natAbs.log2<9000
 .exact .inr ⟨h,if_pos h⟩
 .exact .inl (if_neg h)
theorem Ud{X:Cx}{Z:Xp}{a b:Expr}{fa fb:FS->Out Rv}{pos:Pos}(ha:FE X Z a fa)(hb:FE X Z b fb):FE X Z (.BinOp a .FloorDiv b pos) (Ag Qb fa fb):=J9 S7 Pj ha hb
mutual
noncomputable def noD:T->Bool
 |.v=>true
 |.o _=>true
 |.int _=>true
 |.str _=>true
 |.tup ts=>OF ts
 |_=>false
noncomputable def OF:List T->Bool
 | []=>true
 |t::ts=>noD t&&OF ts
end
noncomputable def Lz(j:Nat)(f:FS->Out Rv):FS->Out Rv:=λfs=>match fs[j]? with|some (some (.own (.l ks ts)))=>(match f ((AD fs).set j (some (.val (.dF ks ts))))with|.ok (.t t) _=>if noD t=true then .ok (.t t) fs else .bad|_=>.bad)|_=>.bad
section
variable{K:Fg}{F F':Wd}{H H':Hp}
mutual
theorem Ar.noD(hF:∀a vs,F a->H a=some (.tup vs)->F' a/\H' a=some (.tup vs)):∀{t:T}{v:V},noD t=true->Ar K F H t v->Ar K F' H' t v
 |.v,_,_,h=>h
 |.o _,_,_,h=>h
 |.int _,_,_,h=>h
 |.str _,_,_,h=>h
 |.tup ts,_,e,h=>by simp only[FL.noD]at e;simp only[Ar]at h ⊢;obtain⟨a,vs,rfl,s,r⟩:=h;exact⟨a,vs,rfl,⟨rfl,hF a vs s.2.1 s.2.2⟩,Ac.noD hF e r⟩
 |.lst _,_,e,_=>by simp[FL.noD]at e
 |.z0 _,_,e,_=>by simp[FL.noD]at e
 |.l _ _,_,e,_=>by simp[FL.noD]at e
 |.dT _ _,_,e,_=>by simp[FL.noD]at e
 |.ins _ _ _,_,e,_=>by simp[FL.noD]at e
 |.dF _ _,_,e,_=>by simp[FL.noD]at e
 |.zK _,_,e,_=>by simp[FL.noD]at e
theorem Ac.noD(hF:∀a vs,F a->H a=some (.tup vs)->F' a/\H' a=some (.tup vs)):∀{ts:List T}{vs:List V},OF ts=true->Ac K F H ts vs->Ac K F' H' ts vs
 | [],_,_,h=>h
 |t::ts,_,e,h=>by simp only[OF,aL]at e;simp only[Ac]at h ⊢;obtain⟨v,r,rfl,h1,h2⟩:=h;exact⟨v,r,rfl,Ar.noD hF e.1 h1,Ac.noD hF e.2 h2⟩
end
end
theorem Qk{X:Cx}{Z:Xp}{e:Expr}{f:FS->Out Rv}(j:Nat)(he:FE X Z e f):FE X Z e (Lz j f):=by
 refine AI (SH he) λU H Q hpt=>?_
 obtain⟨F,B,fs,⟨L,ok⟩,s⟩:= hpt;unfold Lz at s;split at s
 .rename_i ks ts es;obtain⟨v,L1,Lj,L3,e1,rfl,h1,_⟩:=ok.sl.pick es;obtain⟨u,rfl,q⟩:=h1;simp only[Ap]at q;obtain⟨a,kvs,rfl,ha,hk,rts,rfl⟩:=q;have nd:=ok.nd;have ma:a∈L1++([a]++L3):=by simp
  have dis:∀b∈L1++L3,b≠a:=λb hb z=>by
   subst z;rw[ah]at nd;rcases av.mp hb with hb|hb
   .exact nd.2.2 b hb b (by simp) rfl
   .exact(ah.mp nd.2.1).2.2 b (by simp) b hb rfl
  have mL:∀b,b∈L1++([a]++L3)->b∈L1++L3\/b=a:=λb h=>by
   simp only[av,aG]at h ⊢;rcases h with h|h|h
   .exact .inl (.inl h)
   .exact .inr h
   .exact .inl (.inr h)
  have mO:∀b,b∈L1++L3->b∈L1++([a]++L3):=λb h=>by rcases av.mp h with h|h<;>simp[h]
  have fa:∀b,F b->b≠a:=λb f z=>ok.nf b (by rw[z];exact ma) f
  have pa:∀b,F.p b->b≠a:=λb f z=>ok.pl b (by rw[z];exact ma) f
  refine⟨a,kvs,ha,λo=>?_⟩;have un:∀b,b≠a->upd H a (.frz o (.l kvs)) b=H b:=λb z=>by unfold upd;rw[if_neg z]
  have lF:Le F H ⟨λb=>F b\/b=a,F.p⟩ (upd H a (.frz o (.l kvs))):=⟨λb f=>⟨.inl f,un b (fa b f)⟩,λb f=>⟨f,un b (pa b f)⟩⟩
  have rt:Ar X.K ⟨λb=>F b\/b=a,λb=>F.p b\/b∈L1++L3⟩ (upd H a (.frz o (.l kvs))) (.dF ks ts) (.ref a):=by simp only[Ar];exact⟨a,kvs,rfl,.inr rfl,⟨o,Ak⟩,hk,Ac.wp (F:=⟨λb=>F b\/b=a,F.p⟩) (Ac.le lF rts)⟩
  have hj:j<fs.length:=(ak.mp es).1;have ev:(AD fs)[j]?=some none:=by unfold AD;rw[aP,es];rfl
  have ok1:Ok X.K ⟨λb=>F b\/b=a,λb=>F.p b\/b∈L1++L3⟩ B (upd H a (.frz o (.l kvs))) ((AD fs).set j (some (.val (.dF ks ts)))) U []:=by
   have h0:Ao X.K ⟨λb=>F b\/b=a,λb=>F.p b\/b∈L1++L3⟩ (upd H a (.frz o (.l kvs))) (AD fs) U []:=by have:=(Ao.vals ok.sl).le lF (by simp);exact Ao.wp this
   obtain⟨v',M1,M2,M3,z1,z2,z3,z4⟩:=h0.pick ev;have zM:M1=[]/\M2=[]/\M3=[]:=by simpa using z2.symm
   obtain⟨rfl,rfl,rfl⟩:=zM;have z5:=z4 _ (upd H a (.frz o (.l kvs))) (some (.val (.dF ks ts))) (some (.ref a)) [] Le.refl (λ_ m=>nomatch m) ⟨_,rfl,rt,rfl⟩;rw[A6 e1]at z5;refine⟨z5,aW,(λ_ m=>nomatch m),λb f=>?_,λi ob e=>?_,λb f=>?_,λb f z=>?_,(λ_ m=>nomatch m)⟩
   .rcases f with f|f
    .rw[un b (fa b f)];exact ok.fd b f
    .rw[f,Ak];exact nofun
   .exfalso;by_cases hij:j=i
    .subst hij;rw[bp (by unfold AD;rw[ar];exact hj)]at e;cases e
    .rw[bw hij]at e;unfold AD at e;rw[aP,aA]at e;obtain⟨x,_,ex⟩:=e;split at ex<;>cases ex
   .rcases f with f|f
    .rw[un b (pa b f)];exact ok.pd b f
    .rw[un b (dis b f)];exact ok.sl.def b (mO b f)
   .rcases f with f|f
    .rcases z with z|z
     .exact ok.pf b f z
     .exact ok.nf b (mO b z) f
    .rcases z with z|z
     .exact pa b z f
     .exact dis b z f
  refine⟨_,B,_,⟨[],ok1⟩,?_⟩;cases ef:f ((AD fs).set j (some (.val (.dF ks ts))))with
  |exc c τ=>rw[ef]at s;exact s.elim
  |bad=>rw[ef]at s;exact s.elim
  |ok r τ =>
   rw[ef]at s;cases r with
   |nw t=>exact s.elim
   |n t=>exact s.elim
   |t t =>
    dsimp only at s;split at s
    .rename_i hn;intro F2 H2 w l2 q2;obtain⟨_,_,o2,⟨_,rv⟩,_⟩:=q2;have h2a:H2 a=some (.frz o (.l kvs)):=(l2.f a (.inr rfl)).2.trans Ak;have un2:∀b,b≠a->upd H2 a (.l kvs) b=H2 b:=λb z=>by unfold upd;rw[if_neg z]
     have kL:∀b∈L1++([a]++L3),upd H2 a (.l kvs) b=H b:=λb m=>by
      rcases mL b m with m|m
      .rw[un2 b (dis b m),(l2.p b (.inr m)).2,un b (dis b m)]
      .rw[m,Ak,ha]
     have lq:Le F H ⟨λb=>F2 b/\b≠a,F.p⟩ (upd H2 a (.l kvs)):=⟨λb f=>⟨⟨(l2.f b (.inl f)).1,fa b f⟩,by rw[un2 b (fa b f),(l2.f b (.inl f)).2,un b (fa b f)]⟩,λb f=>⟨f,by rw[un2 b (pa b f),(l2.p b (.inl f)).2,un b (pa b f)]⟩⟩
     refine⟨h2a,s ⟨λb=>F2 b/\b≠a,F.p⟩ (upd H2 a (.l kvs)) w lq (RR.of ⟨L1++([a]++L3),ok.sl.le lq kL,nd,λb m f=>?_,λb f=>by rw[un2 b f.2];exact o2.fd b f.1,ok.bo,λb f=>by rw[(lq.p b f).2];exact ok.pd b f,λb f z=>o2.pf b f.1 (l2.p b (.inl z)).1,ok.pl⟩ (Ar.noD (F:=F2) (H:=H2) (λb vs f z=>?_) hn rv))⟩
     .rcases mL b m with m|m
      .exact o2.pf b f.1 (l2.p b (.inr m)).1
      .exact f.2 m
     .have hb:b≠a:=λx=>by rw[x,h2a]at z;cases z
      exact⟨⟨f,hb⟩,(un2 b hb).trans z⟩
    .exact s.elim
 .exact s.elim
noncomputable def IY(fk fv:FS->Out Rv):FS->Out Rv:=λfs=>match fk fs with|.ok (.t x) fs1=>(match fv fs1 with|.ok (.t y) fs2=>(match Gm x with|some k=>.ok (.nw (.l [k] [y])) fs2|none=>.bad)|_=>.bad)|_=>.bad
theorem Qm{X:Cx}{Z:Xp}{k v:Expr}{fk fv:FS->Out Rv}{pos:Pos}(hk:FE X Z k fk)(hv:FE X Z v fv):FE X Z (.Dict [some k] [v] pos) (IY fk fv):=by
 refine AI (SJ (O7 hk hv Sw) rfl rfl (by simp) (by simp)) λU H Q ⟨F,B,fs,⟨L,ok⟩,s⟩ p hp=>?_
 unfold IY at s;cases ek:fk fs with
 |bad=>rw[ek]at s;exact s.elim
 |exc c τ=>rw[ek]at s;exact s.elim
 |ok r fs1 =>
  rw[ek]at s;cases r with
  |nw o=>exact s.elim
  |n i=>exact s.elim
  |t x =>
   dsimp only at s;cases ev:fv fs1 with
   |bad=>rw[ev]at s;exact s.elim
   |exc c τ=>rw[ev]at s;exact s.elim
   |ok r fs2 =>
    rw[ev]at s;cases r with
    |nw o=>exact s.elim
    |n i=>exact s.elim
    |t y =>
     dsimp only at s;split at s
     .rename_i k hk;have un:∀b,b≠p->upd H p (.l []) b=H b:=λb z=>by unfold upd;rw[if_neg z]
      have fp:∀b,F b->b≠p:=λb f z=>ok.fd b f (by rw[z];exact hp)
      have pp:∀b,F.p b->b≠p:=λb f z=>ok.pd b f (by rw[z];exact hp)
      have Lp:∀b∈L,b≠p:=λb m z=>ok.sl.def b m (by rw[z];exact hp)
      have l0:Le F H F (upd H p (.l [])):=⟨λb f=>⟨f,un b (fp b f)⟩,λb f=>⟨f,un b (pp b f)⟩⟩
      have ok0:Ok X.K ⟨F.f,λb=>F.p b\/b=p⟩ B (upd H p (.l [])) fs U L:=by
       refine⟨Ao.wp (ok.sl.le l0 λb m=>un b (Lp b m)),ok.nd,ok.nf,λb f=>?_,ok.bo,λb f=>?_,λb f z=>?_,λb m z=>?_⟩
       .rw[un b (fp b f)];exact ok.fd b f
       .rcases f with f|f
        .rw[un b (pp b f)];exact ok.pd b f
        .rw[f,Ak];exact nofun
       .rcases z with z|z
        .exact ok.pf b f z
        .exact fp b f z
       .rcases z with z|z
        .exact ok.pl b m z
        .exact Lp b m z
      refine⟨_,B,fs,⟨L,ok0⟩,?_⟩;rw[ek];intro F1 H1 u1 l1 q1;obtain⟨M1,_,o1,⟨_,r1⟩,_⟩:=q1;refine⟨F1,B,fs1,⟨M1,o1⟩,?_⟩;rw[ev];intro F2 H2 u2 l2 q2;obtain⟨M2,_,o2,⟨_,r2⟩,_⟩:=q2;have p1:=l1.p p (.inr rfl);have p2:=l2.p p p1.1;have h2p:H2 p=some (.l []):=by rw[p2.2,p1.2,Ak]
      refine⟨h2p,[(k,u2)],by rw[C5 hk r1];rfl,by simp,?_⟩;have un2:∀b,b≠p->upd H2 p (.l (Ec [] [(k,u2)])) b=H2 b:=λb z=>by unfold upd;rw[if_neg z]
      have f2:∀b,F2 b->b≠p:=λb f z=>o2.pf b f (by rw[z];exact p2.1)
      have m2:∀b∈M2,b≠p:=λb m z=>o2.pl b m (by rw[z];exact p2.1)
      have l3:Le ⟨F2.f,F.p⟩ H2 ⟨F2.f,F.p⟩ (upd H2 p (.l (Ec [] [(k,u2)]))):=⟨λb f=>⟨f,un2 b (f2 b f)⟩,λb f=>⟨f,un2 b (pp b f)⟩⟩
      have lq:Le F H ⟨F2.f,F.p⟩ (upd H2 p (.l (Ec [] [(k,u2)]))):=⟨λb f=>by
       have a1:=l1.f b f;have a2:=l2.f b a1.1;exact⟨a2.1,by rw[un2 b (fp b f),a2.2,a1.2,un b (fp b f)]⟩,λb f=>by
       have a1:=l1.p b (.inl f);have a2:=l2.p b a1.1;exact⟨f,by rw[un2 b (pp b f),a2.2,a1.2,un b (pp b f)]⟩⟩
      refine s ⟨F2.f,F.p⟩ _ (.ref p) lq ⟨M2,[p],⟨(Ao.wp o2.sl).le l3 λb m=>un2 b (m2 b m),o2.nd,o2.nf,λb f=>?_,o2.bo,λb f=>?_,λb f z=>?_,λb m z=>?_⟩,?_,?_,?_⟩
      .rw[un2 b (f2 b f)];exact o2.fd b f
      .rw[(lq.p b f).2];exact ok.pd b f
      .exact o2.pf b f ((l2.p b (l1.p b (.inl z)).1).1)
      .exact o2.pl b m ((l2.p b (l1.p b (.inl z)).1).1)
      .show Ap X.K ⟨F2.f,F.p⟩ (upd H2 p (.l (Ec [] [(k,u2)]))) (.l [k] [y]) (.ref p) [p];simp only[Ap,Ac];exact⟨p,_,rfl,Ak,rfl,⟨u2,[],rfl,Ar.le l3 (Ar.wp r2),rfl⟩,rfl⟩
      .rw[ah];refine⟨o2.nd,by simp,λa m b mb z=>?_⟩;rw[aG.mp mb]at z;exact m2 a m z
      .intro b m;rw[aG.mp m];exact⟨λf=>f2 p f rfl,λf=>pp p f rfl⟩
     .exact s.elim
mutual
noncomputable def noS:T->Bool
 |.tup ts=>Gy ts
 |.lst ts=>Gy ts
 |.z0 _=>false
 |.l _ ts=>Gy ts
 |.dT _ ts=>Gy ts
 |.ins _ _ ts=>Gy ts
 |.dF _ ts=>Gy ts
 |_=>true
noncomputable def Gy:List T->Bool
 | []=>true
 |t::ts=>noS t&&Gy ts
end
mutual
noncomputable def IG:FO->Bool
 |.val t=>noS t
 |.lst ts=>Gy ts
 |.l _ ts=>Gy ts
 |.dT _ ts=>Gy ts
 |.ins _ _ os=>FF os
 |.zm os=>FF os
 |.zj os=>FF os
 |.dO _ os=>FF os
 |.la _ ts=>Gy ts
noncomputable def FF:List FO->Bool
 | []=>true
 |o::os=>IG o&&FF os
end
noncomputable def Ly(j:Nat)(f:FS->Out Rv):FS->Out Rv:=λfs=>match fs[j]? with|some (some (.own (.lst ts)))=>(match f ((AD fs).set j (some (.val (.z0 ts))))with|.ok (.nw o) _=>if IG o=true then .ok (.nw o) fs else .bad|_=>.bad)|_=>.bad
section
variable{K:Fg}{F F':Wd}{H H':Hp}{xs:List V}
mutual
theorem Ar.noS(hF:∀b u,H b=some u->(∀x,u≠.frz x (.lst xs))->F b->F' b)(hH:∀b u,H b=some u->(∀x,u≠.frz x (.lst xs))->H' b=some u):∀{t:T}{v:V},noS t=true->Ar K F H t v->Ar K F' H' t v
 |.v,_,_,h=>h
 |.o _,_,_,h=>h
 |.int _,_,_,h=>h
 |.str _,_,_,h=>h
 |.tup ts,_,e,h=>by simp only[FL.noS]at e;simp only[Ar]at h ⊢;obtain⟨a,vs,rfl,s,r⟩:=h;exact⟨a,vs,rfl,⟨rfl,hF a _ s.2.2 (λ_=>nofun) s.2.1,hH a _ s.2.2 (λ_=>nofun)⟩,Ac.noS hF hH e r⟩
 |.lst ts,_,e,h=>by simp only[FL.noS]at e;simp only[Ar]at h ⊢;obtain⟨a,vs,rfl,f,s,r⟩:=h;exact⟨a,vs,rfl,hF a _ s (λ_=>nofun) f,hH a _ s (λ_=>nofun),Ac.noS hF hH e r⟩
 |.z0 _,_,e,_=>by simp[FL.noS]at e
 |.l ks ts,_,e,h=>by
  simp only[FL.noS]at e;simp only[Ar]at h ⊢;obtain⟨a,kvs,rfl,f,s,k,r⟩:=h;rcases s with s|⟨o,s⟩
  .exact⟨a,kvs,rfl,hF a _ s (λ_=>nofun) f,.inl (hH a _ s (λ_=>nofun)),k,Ac.noS hF hH e r⟩
  .exact⟨a,kvs,rfl,hF a _ s (λ_=>nofun) f,.inr ⟨o,hH a _ s (λ_=>nofun)⟩,k,Ac.noS hF hH e r⟩
 |.dT ks ts,_,e,h=>by simp only[FL.noS]at e;simp only[Ar]at h ⊢;obtain⟨a,kvs,rfl,f,s,k,r⟩:=h;exact⟨a,kvs,rfl,hF a _ s (λ_=>nofun) f,hH a _ s (λ_=>nofun),k,Ac.noS hF hH e r⟩
 |.ins C fs ts,_,e,h=>by simp only[FL.noS]at e;simp only[Ar]at h ⊢;obtain⟨a,dx,kvs,rfl,f,s,k,r⟩:=h;exact⟨a,dx,kvs,rfl,hF a _ s (λ_=>nofun) f,hH a _ s (λ_=>nofun),k,Ac.noS hF hH e r⟩
 |.dF ks ts,_,e,h=>by simp only[FL.noS]at e;simp only[Ar]at h ⊢;obtain⟨a,kvs,rfl,f,⟨o,s⟩,k,r⟩:=h;exact⟨a,kvs,rfl,hF a _ s (λ_=>nofun) f,⟨o,hH a _ s (λ_=>nofun)⟩,k,Ac.noS hF hH e r⟩
 |.zK c,_,e,h=>by simp only[Ar]at h ⊢;obtain⟨a,C,rfl,f,s,k⟩:=h;exact⟨a,C,rfl,hF a _ s (λ_=>by unfold exO;nofun) f,hH a _ s (λ_=>by unfold exO;nofun),k⟩
theorem Ac.noS(hF:∀b u,H b=some u->(∀x,u≠.frz x (.lst xs))->F b->F' b)(hH:∀b u,H b=some u->(∀x,u≠.frz x (.lst xs))->H' b=some u):∀{ts:List T}{vs:List V},Gy ts=true->Ac K F H ts vs->Ac K F' H' ts vs
 | [],_,_,h=>h
 |t::ts,_,e,h=>by simp only[Gy,aL]at e;simp only[Ac]at h ⊢;obtain⟨v,r,rfl,h1,h2⟩:=h;exact⟨v,r,rfl,Ar.noS hF hH e.1 h1,Ac.noS hF hH e.2 h2⟩
end
mutual
theorem Ap.noS(hF:∀b u,H b=some u->(∀x,u≠.frz x (.lst xs))->F b->F' b)(hH:∀b u,H b=some u->(∀x,u≠.frz x (.lst xs))->H' b=some u):∀{o:FO}{v:V}{L:List Addr},IG o=true->Ap K F H o v L->Ap K F' H' o v L
 |.val t,_,_,e,h=>by simp only[IG]at e;simp only[Ap]at h ⊢;exact⟨h.1,Ar.noS hF hH e h.2⟩
 |.lst ts,_,_,e,h=>by simp only[IG]at e;simp only[Ap]at h ⊢;obtain⟨a,vs,rfl,s,r,z⟩:=h;exact⟨a,vs,rfl,hH a _ s (λ_=>nofun),Ac.noS hF hH e r,z⟩
 |.l ks ts,_,_,e,h=>by simp only[IG]at e;simp only[Ap]at h ⊢;obtain⟨a,vs,rfl,s,k,r,z⟩:=h;exact⟨a,vs,rfl,hH a _ s (λ_=>nofun),k,Ac.noS hF hH e r,z⟩
 |.dT ks ts,_,_,e,h=>by simp only[IG]at e;simp only[Ap]at h ⊢;obtain⟨a,vs,rfl,s,k,r,z⟩:=h;exact⟨a,vs,rfl,hH a _ s (λ_=>nofun),k,Ac.noS hF hH e r,z⟩
 |.ins C fs os,_,_,e,h=>by simp only[IG]at e;simp only[Ap]at h ⊢;obtain⟨a,dx,kvs,L',rfl,s,k,r,z⟩:=h;exact⟨a,dx,kvs,L',rfl,hH a _ s (λ_=>nofun),k,Aq.noS hF hH e r,z⟩
 |.zm os,_,_,e,h=>by simp only[IG]at e;simp only[Ap]at h ⊢;obtain⟨a,vs,L',rfl,s,r,z⟩:=h;exact⟨a,vs,L',rfl,hH a _ s (λ_=>nofun),Aq.noS hF hH e r,z⟩
 |.zj os,_,_,e,h=>by simp only[IG]at e;simp only[Ap]at h ⊢;obtain⟨a,vs,L',rfl,s,r,z⟩:=h;exact⟨a,vs,L',rfl,hH a _ s (λ_=>nofun),Aq.noS hF hH e r,z⟩
 |.dO ks os,_,_,e,h=>by simp only[IG]at e;simp only[Ap]at h ⊢;obtain⟨a,kvs,L',rfl,s,k,r,z⟩:=h;exact⟨a,kvs,L',rfl,hH a _ s (λ_=>nofun),k,Aq.noS hF hH e r,z⟩
 |.la p ts,_,_,e,h=>by simp only[IG]at e;simp only[Ap]at h ⊢;obtain⟨vs,rfl,s,r,z⟩:=h;exact⟨vs,rfl,hH p _ s (λ_=>nofun),Ac.noS hF hH e r,z⟩
theorem Aq.noS(hF:∀b u,H b=some u->(∀x,u≠.frz x (.lst xs))->F b->F' b)(hH:∀b u,H b=some u->(∀x,u≠.frz x (.lst xs))->H' b=some u):∀{os:List FO}{vs:List V}{L:List Addr},FF os=true->Aq K F H os vs L->Aq K F' H' os vs L
 | [],_,_,_,h=>h
 |o::os,_,_,e,h=>by simp only[FF,aL]at e;simp only[Aq]at h ⊢;obtain⟨v,r,L1,L2,rfl,h1,h2,z⟩:=h;exact⟨v,r,L1,L2,rfl,Ap.noS hF hH e.1 h1,Aq.noS hF hH e.2 h2,z⟩
end
end
theorem Qj{X:Cx}{Z:Xp}{e:Expr}{f:FS->Out Rv}(j:Nat)(he:FE X Z e f):FE X Z e (Ly j f):=by
 refine AI (Pd he) λU H Q hpt=>?_
 obtain⟨F,B,fs,⟨L,ok⟩,s⟩:= hpt;unfold Ly at s;split at s
 .rename_i ts es;obtain⟨v,L1,Lj,L3,e1,rfl,h1,_⟩:=ok.sl.pick es;obtain⟨u,rfl,q⟩:=h1;simp only[Ap]at q;obtain⟨a,kvs,rfl,ha,rts,rfl⟩:=q;have nd:=ok.nd;have ma:a∈L1++([a]++L3):=by simp
  have dis:∀b∈L1++L3,b≠a:=λb hb z=>by
   subst z;rw[ah]at nd;rcases av.mp hb with hb|hb
   .exact nd.2.2 b hb b (by simp) rfl
   .exact(ah.mp nd.2.1).2.2 b (by simp) b hb rfl
  have mL:∀b,b∈L1++([a]++L3)->b∈L1++L3\/b=a:=λb h=>by
   simp only[av,aG]at h ⊢;rcases h with h|h|h
   .exact .inl (.inl h)
   .exact .inr h
   .exact .inl (.inr h)
  have mO:∀b,b∈L1++L3->b∈L1++([a]++L3):=λb h=>by rcases av.mp h with h|h<;>simp[h]
  have fa:∀b,F b->b≠a:=λb f z=>ok.nf b (by rw[z];exact ma) f
  have pa:∀b,F.p b->b≠a:=λb f z=>ok.pl b (by rw[z];exact ma) f
  refine⟨a,kvs,ha,λo=>?_⟩;have un:∀b,b≠a->upd H a (.frz o (.lst kvs)) b=H b:=λb z=>by unfold upd;rw[if_neg z]
  have lF:Le F H ⟨λb=>F b\/b=a,F.p⟩ (upd H a (.frz o (.lst kvs))):=⟨λb f=>⟨.inl f,un b (fa b f)⟩,λb f=>⟨f,un b (pa b f)⟩⟩
  have rt:Ar X.K ⟨λb=>F b\/b=a,λb=>F.p b\/b∈L1++L3⟩ (upd H a (.frz o (.lst kvs))) (.z0 ts) (.ref a):=by simp only[Ar];exact⟨a,kvs,rfl,.inl ⟨.inr rfl,.inr ⟨o,Ak⟩⟩,Ac.wp (F:=⟨λb=>F b\/b=a,F.p⟩) (Ac.le lF rts)⟩
  have hj:j<fs.length:=(ak.mp es).1;have ev:(AD fs)[j]?=some none:=by unfold AD;rw[aP,es];rfl
  have ok1:Ok X.K ⟨λb=>F b\/b=a,λb=>F.p b\/b∈L1++L3⟩ B (upd H a (.frz o (.lst kvs))) ((AD fs).set j (some (.val (.z0 ts)))) U []:=by
   have h0:Ao X.K ⟨λb=>F b\/b=a,λb=>F.p b\/b∈L1++L3⟩ (upd H a (.frz o (.lst kvs))) (AD fs) U []:=by have:=(Ao.vals ok.sl).le lF (by simp);exact Ao.wp this
   obtain⟨v',M1,M2,M3,z1,z2,z3,z4⟩:=h0.pick ev;have zM:M1=[]/\M2=[]/\M3=[]:=by simpa using z2.symm
   obtain⟨rfl,rfl,rfl⟩:=zM;have z5:=z4 _ (upd H a (.frz o (.lst kvs))) (some (.val (.z0 ts))) (some (.ref a)) [] Le.refl (λ_ m=>nomatch m) ⟨_,rfl,rt,rfl⟩;rw[A6 e1]at z5;refine⟨z5,aW,(λ_ m=>nomatch m),λb f=>?_,λi ob e=>?_,λb f=>?_,λb f z=>?_,(λ_ m=>nomatch m)⟩
   .rcases f with f|f
    .rw[un b (fa b f)];exact ok.fd b f
    .rw[f,Ak];exact nofun
   .exfalso;by_cases hij:j=i
    .subst hij;rw[bp (by unfold AD;rw[ar];exact hj)]at e;cases e
    .rw[bw hij]at e;unfold AD at e;rw[aP,aA]at e;obtain⟨x,_,ex⟩:=e;split at ex<;>cases ex
   .rcases f with f|f
    .rw[un b (pa b f)];exact ok.pd b f
    .rw[un b (dis b f)];exact ok.sl.def b (mO b f)
   .rcases f with f|f
    .rcases z with z|z
     .exact ok.pf b f z
     .exact ok.nf b (mO b z) f
    .rcases z with z|z
     .exact pa b z f
     .exact dis b z f
  refine⟨_,B,_,⟨[],ok1⟩,?_⟩;cases ef:f ((AD fs).set j (some (.val (.z0 ts))))with
  |exc c τ=>rw[ef]at s;exact s.elim
  |bad=>rw[ef]at s;exact s.elim
  |ok r τ =>
   rw[ef]at s;cases r with
   |n t=>exact s.elim
   |nw t =>
    dsimp only at s;split at s
    .rename_i hn;intro F2 H2 w l2 q2;obtain⟨M,L',o2,rv,nd2,fr⟩:=q2;have rv:Ap X.K F2 H2 t w L':=rv;have h2a:H2 a=some (.frz o (.lst kvs)):=(l2.f a (.inr rfl)).2.trans Ak;have un2:∀b,b≠a->upd H2 a (.lst kvs) b=H2 b:=λb z=>by unfold upd;rw[if_neg z]
     have kL:∀b∈L1++([a]++L3),upd H2 a (.lst kvs) b=H b:=λb m=>by
      rcases mL b m with m|m
      .rw[un2 b (dis b m),(l2.p b (.inr m)).2,un b (dis b m)]
      .rw[m,Ak,ha]
     have lq:Le F H ⟨λb=>F2 b/\b≠a,F.p⟩ (upd H2 a (.lst kvs)):=⟨λb f=>⟨⟨(l2.f b (.inl f)).1,fa b f⟩,by rw[un2 b (fa b f),(l2.f b (.inl f)).2,un b (fa b f)]⟩,λb f=>⟨f,by rw[un2 b (pa b f),(l2.p b (.inl f)).2,un b (pa b f)]⟩⟩
     have hne:∀{b:Addr}{u:HO},H2 b=some u->(∀x,u≠.frz x (.lst kvs))->b≠a:=λ{b u} z q x=>by rw[x,h2a]at z;cases z;exact q _ rfl
     refine⟨h2a,s ⟨λb=>F2 b/\b≠a,F.p⟩ (upd H2 a (.lst kvs)) w lq ⟨L1++([a]++L3),L',⟨ok.sl.le lq kL,nd,λb m f=>?_,λb f=>by rw[un2 b f.2];exact o2.fd b f.1,ok.bo,λb f=>by rw[(lq.p b f).2];exact ok.pd b f,λb f z=>o2.pf b f.1 (l2.p b (.inl z)).1,ok.pl⟩,Ap.noS (F:=F2) (F':=⟨λb=>F2 b/\b≠a,F.p⟩) (H:=H2) (H':=upd H2 a (.lst kvs)) (xs:=kvs) (λb u z q f=>⟨f,hne z q⟩) (λb u z q=>(un2 b (hne z q)).trans z) hn rv,?_,λb m=>⟨λf=>(fr b m).1 f.1,λz=>(fr b m).2 (l2.p b (.inl z)).1⟩⟩⟩
     .rcases mL b m with m|m
      .exact o2.pf b f.1 (l2.p b (.inr m)).1
      .exact f.2 m
     .rw[ah];refine⟨nd,(ah.mp nd2).2.1,λb hb c hc e=>?_⟩;subst e;rcases mL b hb with m|m
      .exact(fr b hc).2 (l2.p b (.inr m)).1
      .exact(fr b hc).1 (by rw[m];exact(l2.f a (.inr rfl)).1)
    .exact s.elim
   |t t=>exact s.elim
 .exact s.elim
theorem Ob:∀{xs:List T}{k:Int}{i:Nat}{t:T},(Eo k xs)[i]?=some t->∃x,xs[i]?=some x/\t=.tup [.int (k+i),x]
 | [],k,i,t,h=>by simp[Eo]at h
 |x::xs,k,0,t,h=>by
  have:T.tup [.int k,x]=t:=by simpa[Eo]using h
  exact⟨x,rfl,by rw[<- this];simp⟩
 |x::xs,k,i+1,t,h=>by
  have h:(Eo (k+1) xs)[i]?=some t:=by simpa[Eo]using h
  obtain⟨y,h1,h2⟩:=Ob h;exact⟨y,by simpa using h1,by rw[h2,show k+1+(i:Int)=k+((i+1:Nat):Int) by lia]⟩
theorem K7:∀(xs:List T)(k:Int),(Eo k xs).length=xs.length
 | [],_=>rfl
 |_::xs,k=>by simp[Eo,K7 xs]
theorem PH{K:Fg}{F:Wd}{H:Hp}{b:Bool}{a:Addr}{vs:List V}{xs:List T}(h1:∀(F':Wd)(H':Hp),(∀a,F a->F' a/\H' a=H a)->SqB b K H' a vs)
  (r1:Ac K F H xs vs):JOk K F H (Ite K b a) (Eo 0 xs):=by
 intro F' H' l ⟨B,fs,U,ok⟩ i;have q1:=Ac.lf l r1;refine⟨λt et=>?_,λhl=>⟨vs,h1 F' H' l,by rw[r1.len];rw[K7]at hl;exact hl⟩⟩;obtain⟨x,ex,rfl⟩:=Ob et;obtain⟨v,ev,rv⟩:=q1.at ex;refine⟨⟨vs,v,h1 F' H' l,ev⟩,λz H'' hy=>?_⟩;obtain⟨T,vx,hn,rfl,rfl,g1⟩:=hy;have e1:=g1 vs (h1 F' H' l);rw[ev]at e1;cases e1;refine⟨OB F' T,⟨AS ok hn,λB fs U k=>k.alloc hn⟩,?_⟩;simp only[Ar];exact⟨T,[.int i,v],rfl,⟨rfl,.inr rfl,Ak⟩,by simp only[Ac];exact⟨.int i,[v],rfl,by simp[Ar],v,[],rfl,rv.le (AS ok hn),rfl⟩⟩
theorem T6{X:Cx}{Z:Xp}{a:Expr}{fa:FS->Out Rv}{p pos tpos:Pos}{elts:List Expr}{k0:Nat}(hm:X.mg "enumerate"=none)(ha:FE X Z a fa)(hg:Gl X "enumerate":=by rfl)
  (hs:starEach [a] X.env=[(false,eval a X.env)]:=by rfl):FI X Z (.Tuple elts k0 tpos) (.Call (.Name "enumerate" p) [a] [] pos) (itE fa):=by
 refine Iv (SD hg hm (BN ha D8 hs) hs) λU H Q hpt=>?_
 obtain⟨F,B,fs,ok,s⟩:= hpt;refine⟨F,B,fs,ok,Az s λr fs1 F1 H1 u l1 ok1 rx s1=>?_⟩;split at s1
 .rename_i x;split at s1
  next xs e1=>obtain⟨b1,a1,vs,rfl,q1,h1⟩:=Fo rx e1;exact⟨b1,a1,rfl,⟨vs,h1 F1 H1 λ_ f=>⟨f,rfl⟩⟩,s1 F1 H1 _ Le.refl ⟨ok1,PH h1 q1⟩⟩
  .exact s1.elim
 .exact s1.elim
theorem Tf{K:Fg}{Z:Xp}:MtF K Z Ky NQ:=by
 intro F B H U fs x rs u vs Q ok rx q s;unfold NQ at s;split at s
 .have:vs=[]:=q;subst this;split at s
  next ts e=>obtain⟨a,us,rfl,hs,r,k⟩:=ok.list rx e;obtain⟨ok',l⟩:=k _ _ r.rev;exact⟨a,us,rfl,rfl,hs,s F _ _ l (RR.of ok' rfl)⟩
  .exact s.elim
 .exact s.elim
end FL
namespace Sy
open PySem PySem.Spec L2 FL
abbrev xrs:List Str:=["BadCount","NoFunction","NoMaker"]
abbrev xds:List Str:=["BadCount","BadKind","BadName","BadText","Groundless","NoFunction","NoKind","NoMaker","NoName","NoPlace","NoSaying","NotLess","NotShown","SayError","TooLong","Twice"]
noncomputable def Hi(c d:Str):Bool:=c==d||d == "SayError"
noncomputable def top(i:Nat):Stmt:=PySem.Challenge.pw_stairsay_k12_rows_told.main.body.getD i (.Pass ⟨0,0,0,0⟩)
structure Tx(K:Fg)(mg:Str->Option Value)(cProgram:Addr)(cScope:Addr)(cStock:Addr):Prop where
 zw:mg "ValueError"=none
 yT:mg "all"=none
 yS:mg "any"=none
 ze:mg "dict"=none
 zp:mg "enumerate"=none
 yR:mg "int"=none
 zT:mg "isinstance"=none
 yQ:mg "len"=none
 zd:mg "list"=none
 y0:mg "range"=none
 yP:mg "sum"=none
 yZ:mg "tuple"=none
 yY:mg "zip"=none
 zf:∃t,mg "LETTERS"=some (.str ("abcdefghijklmnopqrstuvwxyz":Str) t)
 zU:∃t,mg "MOST_ARGUMENTS"=some (.int 3 t)
 zI:∃t,mg "MOST_KINDS"=some (.int 4 t)
 zO:∃t,mg "MOST_LETTERS"=some (.int 12 t)
 zJ:∃t,mg "MOST_MAKERS"=some (.int 4 t)
 zH:∃t,mg "MOST_PARTS"=some (.int 2 t)
 zV:Cls K cProgram
 zr:Cls K cScope
 zq:Cls K cStock
 zF:Bi K cProgram "heads"
 z6:Bi K cProgram "rows_by_function"
 zE:Bi K cProgram "stock"
 zC:Bi K cScope "heads"
 zQ:Bi K cScope "kinds_by_name"
 zD:Bi K cScope "lessers"
 zv:Bi K cScope "own"
 zB:Bi K cScope "stock"
 zP:Bi K cStock "home_by_maker"
 zS:Bi K cStock "makers_by_kind"
 zR:Bi K cStock "parts_by_maker"
 xt:Jq K mg xrs xds Hi
noncomputable def Oy:FS->SO :=
  (Am (ifS (Lq (asB (Ag (gEq false) (Ag Dw (Aa 0) (gc (.int 2))) (gc (.int 1)))) (asB (Ag gGt (Aa 0) (Ag J2 (gc (.int 10)) (gc (.int 30)))))) (retS (Ag Fb (Aa 0) (gc (.int 2)))) nxS)
  (Am (AK 2 (Ag Dw (Aa 0) (Ag J2 (gc (.int 10)) (gc (.int 60)))))
  (Am (AK 2 (Ag Dw (Ag Bq (Ag AG (Ag AG (Ag Bq (Aa 2) (Aa 2)) (Ag Bq (Ag Bq (gc (.int 40503)) (Aa 1)) (Aa 1))) (gc (.int 7919))) (gc (.int 1812433253982451697))) (Ag AG (Ag J2 (gc (.int 10)) (gc (.int 18))) (gc (.int 9)))))
  (retS (Ag Dw (Ag Bq (Ag AG (Ag Bq (Aa 2) (Aa 2)) (Aa 1)) (gc (.int 739108512309184756019283746561))) (Ag AG (Ag J2 (gc (.int 10)) (gc (.int 40))) (gc (.int 121))))))))
noncomputable def Cs:FS->Out Rv:=Bl 1 (Oy)
noncomputable def Hg:FS->SO :=
  (Am (AK 2 (gc (.str ("":Str))))
  (Am (Dk (Mo (Ab (Aa 1) Aj)) (tgN 3) (Am (AK 2 (Ag AG (Aa 2) (Ag AZ (gc (.str ("abcdefghijklmnopqrstuvwxyz":Str))) (Ag Dw (Aa 0) (gc (.int 26))))))
  (AK 0 (Ag Fb (Aa 0) (gc (.int 26))))))
  (retS (Aa 2))))
noncomputable def CZ:FS->Out Rv:=Bl 2 (Hg)
noncomputable def Ll:FS->SO :=
  (Am (AK 2 (Ag Dw (Aa 0) (gc (.int 8))))
  (Am (AK 3 (Aw Eg Aj))
  (Am (Dk (Mo (Ab (Aa 1) Aj)) (tgN 4) (Am (AK 5 (Ag AG (Ag Fb (Aa 0) (gc (.int 8))) (Ag Bq (Ag Bq (Ag AG (Ag Bq (Aa 4) (Aa 4)) (gc (.int 1))) (Ag J2 (gc (.int 7919)) (gc (.int 4)))) (Af HK (Ab (Ag gGt (Ag Dw (Aa 0) (gc (.int 3))) (gc (.int 0))) Aj)))))
  (Am (AK 6 (fz (Af (Ah 2 CZ) (Ae (fz (Aa 5)) (Ae (Ag AG (Ag AG (Aa 2) (gc (.int 1))) (Ag Dw (Ag Fb (Aa 0) (gc (.int 24))) (Ag J1 (gc (.int 12)) (Aa 2)))) Aj)))))
  (Am (AK 7 (Ag AZ (gc (.str ("abcdefghijklmnopqrstuvwxyz":Str))) (Ag Dw (Ag AG (Aa 4) (Aa 0)) (gc (.int 26)))))
  (AM (Bv E1 (Aa 3) (Ab (Ag AG (Ag AG (slS (Aa 6) noP (Dl (Aa 2))) (Aa 7)) (slS (Aa 6) (Dl (Ag AG (Aa 2) (gc (.int 1)))) noP)) Aj)))))))
  (retS (Aa 3)))))
noncomputable def BD:FS->Out Rv:=Bl 6 (Ll)
noncomputable def DJ:FS->SO :=
  (Am (ifS (asB (Ag gLt (Aa 1) (Af Be (Ab (Aa 0) Aj)))) (retS (Ag AZ (Aa 0) (fz (Aa 1)))) nxS)
  (retS (gc (.int 0))))
noncomputable def AR:FS->Out Rv:=Bl 0 (DJ)
noncomputable def Ln:FS->SO :=
  (Am (AK 1 (Ag AG (gc (.int 1)) (Ag Dw (fz (Af (Ah 2 Cs) (Ae (fz (Af (Ah 2 AR) (Ae (fz (Aa 0)) (Ae (gc (.int 1)) Aj)))) (Ae (gc (.int 1)) Aj)))) (gc (.int 3)))))
  (Am (AK 2 (fz (Af (Ah 2 BD) (Ae (fz (Af (Ah 2 Cs) (Ae (fz (Af (Ah 2 AR) (Ae (fz (Aa 0)) (Ae (gc (.int 2)) Aj)))) (Ae (gc (.int 2)) Aj)))) (Ae (fz (Aa 1)) Aj)))))
  (Am (AK 3 (fz (Af (Ah 2 BD) (Ae (fz (Af (Ah 2 Cs) (Ae (fz (Af (Ah 2 AR) (Ae (fz (Aa 0)) (Ae (gc (.int 2)) Aj)))) (Ae (gc (.int 3)) Aj)))) (Ae (gc (.int 16)) Aj)))))
  (Am (AK 4 (Aw Eg Aj))
  (Am (Dk (Mo (Ab (Aa 1) Aj)) (tgN 5) (Am (AK 6 (fz (Af (Ah 2 Cs) (Ae (fz (Af (Ah 2 AR) (Ae (fz (Aa 0)) (Ae (Ag AG (gc (.int 3)) (Aa 5)) Aj)))) (Ae (gc (.int 4)) Aj)))))
  (Am (AK 7 (Aw Eg Aj))
  (Am (Dk (Mo (Ab (Ag AG (gc (.int 2)) (Ag Dw (Aa 6) (gc (.int 3)))) Aj)) (tgN 8) (Am (AK 6 (Ag Fb (Aa 6) (gc (.int 3))))
  (Am (AK 9 (Aw Eg Aj))
  (Am (Dk (Mo (Ab (Ag Bq (Ag Dw (Aa 6) (gc (.int 3))) (Af HK (Ab (orV (Ag gGt (Aa 5) (gc (.int 0))) (Ag gGt (Aa 8) (gc (.int 0)))) Aj))) Aj)) (tgN 10) (Am (AK 6 (Ag Fb (Aa 6) (gc (.int 3))))
  (AM (Bv E1 (Aa 9) (Ab (Ag AZ (Aa 2) (Ag Dw (Aa 6) (Ag AZ (Aw Dc (Ab (fz (Aa 1)) (Ab (fz (Aa 5)) Aj))) (Af HK (Ab (Ag (gEq false) (Aa 8) (gc (.int 0))) Aj))))) Aj)))))
  (Am (AK 6 (Ag Fb (Aa 6) (gc (.int 3))))
  (AM (Bv E1 (Aa 7) (Ab (Aw Bp (Ab (Ag AZ (Aa 3) (Ag AG (Ag Bq (gc (.int 4)) (Aa 5)) (Aa 8))) (Ab (Af A9 (Ab (Aa 9) Aj)) Aj))) Aj))))))))
  (AM (Bv E1 (Aa 4) (Ab (Aw Bp (Ab (Ag AZ (Aa 2) (fz (Aa 5))) (Ab (fz (Aa 7)) Aj))) Aj)))))))
  (retS (Aa 4)))))))
noncomputable def Em:FS->Out Rv:=Bl 10 (Ln)
noncomputable def Gi:FS->SO :=
  (Am (AK 5 (Aw Eg Aj))
  (Am (Dk (itZ (Aa 4) (Aa 3)) (AA 2 (Ad (tgN 6) (Ad (tgN 7) Av))) (ifS (asB (Ag (gEq false) (Aa 7) (Aa 1))) (AM (Bv E1 (Aa 5) (Ab (Aw Bp (Ab (gc (.str ("call":Str))) (Ab (fz (Aa 0)) (Ab (Aw Bp (Ab (Aw Bp (Ab (gc (.str ("name":Str))) (Ab (fz (Aa 6)) Aj))) Aj)) Aj)))) Aj))) (AM (Bv E1 (Aa 5) (Ab (Aw Bp (Ab (gc (.str ("name":Str))) (Ab (fz (Aa 6)) Aj))) Aj)))))
  (retS (Aw Bp (Ab (Af A9 (Ab (slF (Aa 4) noP (Dl (Af Be (Ab (Aa 3) Aj)))) Aj)) (Ab (Aw Bp (Ab (gc (.str ("make":Str))) (Ab (fz (Aa 2)) (Ab (Af A9 (Ab (Aa 5) Aj)) Aj)))) Aj))))))
noncomputable def Df:FS->Out Rv:=Bl 3 (Gi)
noncomputable def Jo:FS->SO :=
  (Am (Dk (itU (fz (Aa 0))) (AA 2 (Ad (tgN 2) (Ad (tgN 3) Av))) (ifS (asB (Ag (gEq false) (Aa 2) (Aa 1))) (retS (Aa 3)) nxS))
  (retS (Aw Dc Aj)))
noncomputable def B3:FS->Out Rv:=Bl 2 (Jo)
noncomputable def Jn(rec:FS->Out Rv):FS->SO :=
  (Am (ifS (asB (Ag (gEq false) (Ag AZ (Aa 0) (gc (.int 0))) (gc (.str ("name":Str))))) (retS (Ag AZ (Aw Dc (Ab (fz (Aa 0)) (Ab (fz (Aa 2)) Aj))) (Af HK (Ab (Ag (gEq false) (Ag AZ (Aa 0) (gc (.int 1))) (Aa 1)) Aj)))) nxS)
  (retS (Aw Bp (Ab (Ag AZ (Aa 0) (gc (.int 0))) (Ab (Ag AZ (Aa 0) (gc (.int 1))) (Ab (Af A9 (Ab (Bs false [none,some 1,some 2] (itU (Ag AZ (Aa 0) (gc (.int 2)))) (tgN 0) DK (fz (Af (Ah 3 rec) (Ae (fz (Aa 0)) (Ae (fz (Aa 1)) (Ae (fz (Aa 2)) Aj)))))) Aj)) Aj))))))
noncomputable def ET:Nat->FS->Out Rv
 |0=>λ_=>.bad
 |n+1=>Bl 0 (Jn (ET n))
noncomputable def HW(rec:FS->Out Rv):FS->SO :=
  (Am (HX (Ag AZ (fz (Af (Ah 2 B3) (Ae (fz (Aa 0)) (Ae (fz (Aa 1)) Aj)))) (gc (.int 0))) (AA 2 (Ad (tgN 2) (Ad (tgN 3) Av))))
  (retS (Aw Bp (Ab (gc (.str ("make":Str))) (Ab (fz (Aa 2)) (Ab (Af A9 (Ab (Bs false [none,some 0] (itU (fz (Aa 3))) (tgN 0) DK (fz (Af (Ah 2 rec) (Ae (fz (Aa 1)) (Ae (fz (Aa 0)) Aj))))) Aj)) Aj))))))
noncomputable def CM:Nat->FS->Out Rv
 |0=>λ_=>.bad
 |n+1=>Bl 2 (HW (CM n))
noncomputable def Gg(rec:FS->Out Rv):FS->SO :=
  (Am (AK 6 (Bs false [none,some 3,some 1] (itD (Aa 1)) (tgN 0) (asB (Ag (gEq false) (Ag AZ (Aa 2) (fz (Aa 0))) (Aa 1))) (fz (Aa 0))))
  (Am (AK 7 (Bs false [none,some 3,some 2] (itD (Aa 2)) (tgN 0) (asB (Ag (gEq false) (Ag AZ (Ag AZ (Aa 2) (fz (Aa 0))) (gc (.int 1))) (Aa 1))) (fz (Aa 0))))
  (Am (AK 8 (Ag Dw (Aa 4) (gc (.int 5))))
  (Am (AK 4 (Ag Fb (Aa 4) (gc (.int 5))))
  (Am (ifS (Lq (asB (Ag gGt (Af Be (Ab (Aa 6) Aj)) (gc (.int 0)))) (orT (asB (Ag gLe (Aa 5) (gc (.int 1)))) (asB (Ag gLt (Aa 8) (gc (.int 2)))))) (retS (Aw Dc (Ab (Aw Bp (Ab (gc (.str ("name":Str))) (Ab (Ag AZ (Aa 6) (Ag Dw (Aa 4) (Af Be (Ab (Aa 6) Aj)))) Aj))) (Ab (Ag Fb (Aa 4) (Af Be (Ab (Aa 6) Aj))) Aj)))) nxS)
  (Am (ifS (asB (Ag gLe (Aa 5) (gc (.int 1)))) (retS (Aw Dc (Ab (fz (Af (Ah 2 (CM 8)) (Ae (fz (Aa 0)) (Ae (fz (Aa 3)) Aj)))) (Ab (fz (Aa 4)) Aj)))) nxS)
  (Am (AK 9 (gc (.str ("make":Str))))
  (Am (AK 10 (fz (Af (Ah 2 B3) (Ae (fz (Aa 0)) (Ae (fz (Aa 3)) Aj)))))
  (Am (HX (Ag AZ (Aa 10) (Ag Dw (Aa 4) (Af Be (Ab (Aa 10) Aj)))) (AA 2 (Ad (tgN 11) (Ad (tgN 12) Av))))
  (Am (ifS (Lq (asB (Ag gGt (Af Be (Ab (Aa 7) Aj)) (gc (.int 0)))) (asB (Ag gGt (Aa 8) (gc (.int 2))))) (Am (AK 9 (gc (.str ("call":Str))))
  (Am (AK 11 (Ag AZ (Aa 7) (Ag Dw (Aa 4) (Af Be (Ab (Aa 7) Aj)))))
  (AK 12 (Ag AZ (Ag AZ (Aa 2) (fz (Aa 11))) (gc (.int 0)))))) nxS)
  (Am (AK 4 (Ag Fb (Aa 4) (gc (.int 12))))
  (Am (AK 13 (Aw Eg Aj))
  (Am (Dk (itU (fz (Aa 12))) (tgN 14) (Am (HX (fz (Af (Ah 6 rec) (Ae (fz (Aa 0)) (Ae (fz (Aa 1)) (Ae (fz (Aa 2)) (Ae (fz (Aa 14)) (Ae (fz (Aa 4)) (Ae (Ag J1 (Aa 5) (gc (.int 1))) Aj)))))))) (LA 2 (Ad (tgN 15) (Ad (tgN 4) Av))))
  (AM (Bv E1 (Aa 13) (Ab (fz (Aa 15)) Aj)))))
  (retS (Aw Dc (Ab (Aw Bp (Ab (fz (Aa 9)) (Ab (fz (Aa 11)) (Ab (Af A9 (Ab (Aa 13) Aj)) Aj)))) (Ab (fz (Aa 4)) Aj)))))))))))))))))
noncomputable def BE:Nat->FS->Out Rv
 |0=>λ_=>.bad
 |n+1=>Bl 10 (Gg (BE n))
noncomputable def Lo:FS->SO :=
  (retS (Ag AZ (fz (Af (Ah 6 (BE 6)) (Ae (fz (Aa 0)) (Ae (fz (Aa 1)) (Ae (fz (Aa 2)) (Ae (fz (Aa 3)) (Ae (fz (Aa 4)) (Ae (fz (Aa 5)) Aj)))))))) (gc (.int 0))))
noncomputable def En:FS->Out Rv:=Bl 0 (Lo)
noncomputable def Oz:FS->SO :=
  (Am (HX (fz (Aa 2)) (AA 3 (Ad (tgN 6) (Ad (tgN 7) (Ad (tgN 8) Av)))))
  (Am (ifS (orT (asB (Ag (gEq false) (Af Be (Ab (Aa 4) Aj)) (gc (.int 0)))) (asB (Ag (gEq false) (Ag Dw (Aa 5) (gc (.int 4))) (gc (.int 0))))) (retS (Af (Ah 6 En) (Ae (fz (Aa 0)) (Ae (fz (Aa 3)) (Ae (fz (Aa 1)) (Ae (fz (Aa 8)) (Ae (Ag Fb (Aa 5) (gc (.int 8))) (Ae (gc (.int 3)) Aj)))))))) nxS)
  (Am (AK 9 (Af IS (Ab (Aa 3) Aj)))
  (Am (Ca (fz (Aa 8)) (Aa 9) (gc (.str ("":Str))))
  (Am (AK 10 (Aw Eg (Ab (Aw Bp (Ab (gc (.str ("name":Str))) (Ab (Ag AZ (Aa 4) (Ag Dw (Ag Fb (Aa 5) (gc (.int 4))) (Af Be (Ab (Aa 4) Aj)))) Aj))) Aj)))
  (Am (AK 5 (Ag Fb (Aa 5) (gc (.int 8))))
  (Am (Dk (itU (slF (Aa 7) (Dl (gc (.int 1))) noP)) (tgN 11) (Am (HX (fz (Af (Ah 6 (BE 6)) (Ae (fz (Aa 0)) (Ae (fz (Aa 3)) (Ae (fz (Aa 1)) (Ae (fz (Aa 11)) (Ae (fz (Aa 5)) (Ae (gc (.int 2)) Aj)))))))) (LA 2 (Ad (tgN 12) (Ad (tgN 5) Av))))
  (AM (Bv E1 (Aa 10) (Ab (fz (Aa 12)) Aj)))))
  (retS (Af (Ah 3 (ET 20)) (Ae (fz (Af (Ah 6 En) (Ae (fz (Aa 0)) (Ae (fzD (Aa 9)) (Ae (fz (Aa 1)) (Ae (fz (Aa 8)) (Ae (fz (Aa 5)) (Ae (gc (.int 3)) Aj)))))))) (Ae (gc (.str ("":Str))) (Ae (Aw Bp (Ab (gc (.str ("call":Str))) (Ab (fz (Aa 6)) (Ab (Af A9 (Ab (Aa 10) Aj)) Aj)))) Aj))))))))))))
noncomputable def FX:FS->Out Rv:=Bl 7 (Oz)
noncomputable def Gh:FS->SO :=
  (Am (AK 4 (fz (Af (Ah 2 BD) (Ae (Ag Fb (Aa 3) (gc (.int 11))) (Ae (gc (.int 4)) Aj)))))
  (Am (AK 5 (Bs false [none,some 0,some 3] (Mo (Ab (Ag AG (gc (.int 1)) (Ag Dw (Aa 3) (gc (.int 3)))) Aj)) (tgN 0) DK (Ag AZ (Ag AZ (Aa 1) (Ag Dw (Ag Fb (Aa 2) (Ag AG (gc (.int 3)) (Ag Bq (gc (.int 2)) (Aa 0)))) (Af Be (Ab (Aa 1) Aj)))) (gc (.int 0)))))
  (Am (AK 6 (Ag AZ (Ag AZ (Aa 0) (Ag Dw (Ag Fb (Aa 3) (gc (.int 100))) (Af Be (Ab (Aa 0) Aj)))) (gc (.int 0))))
  (Am (AK 7 (slF (Aa 4) (Dl (gc (.int 2))) (Dl (Ag AG (gc (.int 1)) (Af Be (Ab (Aa 5) Aj))))))
  (Am (AK 8 (Aw Eg Aj))
  (Am (Dk (itE (fz (Af (Ah 2 B3) (Ae (fz (Aa 0)) (Ae (Ag AZ (Aa 5) (gc (.int 0))) Aj))))) (AA 2 (Ad (tgN 9) (Ad (AA 2 (Ad (tgN 10) (Ad (tgN 11) Av))) Av))) (Am (AK 12 (slF (Aa 4) noP (Dl (Af Be (Ab (Aa 11) Aj)))))
  (Am (AK 13 (Me (Ab (fz (Ag AG (Aa 12) (Aa 7))) (Ab (fz (Ag AG (fz (Af Cd (Ab (Aa 11) Aj))) (slF (Aa 5) (Dl (gc (.int 1))) noP))) Aj))))
  (Am (AK 14 (Bs false [none,none,some 5] (itZ (Aa 12) (Aa 11)) (AA 2 (Ad (tgN 0) (Ad (tgN 1) Av))) (asB (Ag (gEq false) (Aa 1) (Ag AZ (Aa 2) (gc (.int 0))))) (fz (Aa 0))))
  (Am (AK 15 (fz (Af (Ah 2 Cs) (Ae (Ag Dw (Aa 3) (Ag J2 (gc (.int 10)) (gc (.int 18)))) (Ae (Ag AG (gc (.int 70)) (Aa 9)) Aj)))))
  (Am (ifS (asB (Ag gGt (Aa 3) (Ag J2 (gc (.int 10)) (gc (.int 41))))) (Am (AK 3 (Ag Qb (Aa 3) (Ag J2 (gc (.int 10)) (gc (.int 40)))))
  (AK 15 (fz (Aa 3)))) nxS)
  (AM (Bv E1 (Aa 8) (Ab (Aw Bp (Ab (Af A9 (Ab (Aa 12) Aj)) (Ab (fz (Af (Ah 6 FX) (Ae (fz (Aa 0)) (Ae (fz (Aa 2)) (Ae (Aw Bp (Ab (fz (Aa 1)) (Ab (fz (Aa 5)) (Ab (fz (Aa 6)) Aj)))) (Ae (fzD (Aa 13)) (Ae (fz (Aa 14)) (Ae (fz (Aa 15)) Aj)))))))) Aj))) Aj)))))))))
  (retS (Aw Bp (Ab (fz (Aa 1)) (Ab (Af A9 (Ab (Aa 5) Aj)) (Ab (fz (Aa 6)) (Ab (Af A9 (Ab (Aa 7) Aj)) (Ab (Af A9 (Ab (Aa 8) Aj)) Aj)))))))))))))
noncomputable def Ct:FS->Out Rv:=Bl 12 (Gh)
noncomputable def EW:FS->SO :=
  (Am (AK 2 (slF (fz (Af (Ah 2 BD) (Ae (fz (Af (Ah 2 Cs) (Ae (fz (Af (Ah 2 AR) (Ae (fz (Aa 0)) (Ae (gc (.int 2)) Aj)))) (Ae (gc (.int 3)) Aj)))) (Ae (gc (.int 16)) Aj)))) (Dl (gc (.int 12))) noP))
  (Am (AK 3 (fz (Af (Ah 2 Cs) (Ae (fz (Af (Ah 2 AR) (Ae (fz (Aa 0)) (Ae (gc (.int 6)) Aj)))) (Ae (gc (.int 5)) Aj)))))
  (Am (HX (Ag AZ (Aa 1) (Ag Dw (Aa 3) (Af Be (Ab (Aa 1) Aj)))) (AA 2 (Ad (tgN 4) (Ad (tgN 5) Av))))
  (Am (AK 6 (fz (Af (Ah 2 BD) (Ae (Ag Fb (Aa 3) (gc (.int 5))) (Ae (gc (.int 2)) Aj)))))
  (Am (AK 7 (Bs false [none,none,some 4,some 6,some 2] (itU (fz (Aa 5))) (AA 2 (Ad (tgN 0) (Ad (tgN 1) Av))) DK (fz (Af (Ah 5 Df) (Ae (Ag AZ (Aa 4) (gc (.int 0))) (Ae (fz (Aa 2)) (Ae (fz (Aa 0)) (Ae (fz (Aa 1)) (Ae (fz (Aa 3)) Aj)))))))))
  (Am (AK 8 (Aw Eg (Ab (Aw Bp (Ab (Ag AZ (Aa 2) (gc (.int 0))) (Ab (Aw Bp (Ab (fz (Aa 4)) Aj)) (Ab (fz (Aa 4)) (Ab (Aw Bp Aj) (Ab (Af A9 (Ab (Aa 7) Aj)) Aj)))))) Aj)))
  (Am (AK 9 (IY (Ag AZ (Aa 2) (gc (.int 0))) (Aw Bp (Ab (Aw Bp (Ab (fz (Aa 4)) Aj)) (Ab (fz (Aa 4)) Aj)))))
  (Am (Dk (Mo (Ab (Ag Dw (Ag Fb (Aa 3) (gc (.int 3))) (gc (.int 4))) Aj)) (tgN 10) (Am (AK 11 (fz (Lz 9 (Af (Ah 4 Ct) (Ae (fz (Aa 1)) (Ae (Ag AZ (Aa 2) (Ag AG (gc (.int 1)) (Aa 10))) (Ae (Aa 9) (Ae (fz (Af (Ah 2 Cs) (Ae (fz (Af (Ah 2 AR) (Ae (fz (Aa 0)) (Ae (Ag AG (gc (.int 7)) (Aa 10)) Aj)))) (Ae (gc (.int 7)) Aj)))) Aj))))))))
  (Am (AM (Bv E1 (Aa 8) (Ab (fz (Aa 11)) Aj)))
  (Ca (Aw Bp (Ab (Ag AZ (Aa 11) (gc (.int 1))) (Ab (Ag AZ (Aa 11) (gc (.int 2))) Aj))) (Aa 9) (Ag AZ (Aa 11) (gc (.int 0)))))))
  (retS (Aa 8))))))))))
noncomputable def B4:FS->Out Rv:=Bl 10 (EW)
noncomputable def Ge:FS->SO :=
  (Am (ifS (E8 (asB (chain gLe gLe (gc (.int 1)) (Af Be (Ab (Aa 0) Aj)) (gc (.int 12))))) (retS (gc (.o false))) nxS)
  (retS (Af WY (Ab (Bs false [none] (itU (fz (Aa 0))) (tgN 0) DK (Ag (DC false) (fz (Aa 0)) (gc (.str ("abcdefghijklmnopqrstuvwxyz":Str))))) Aj))))
noncomputable def AQ:FS->Out Rv:=Bl 0 (Ge)
noncomputable def Cj:FS->SO :=
  (Am (ifS (E8 (asB (chain gLe gLe (gc (.int 1)) (Af Be (Ab (Aa 0) Aj)) (gc (.int 4))))) (Q0 "BadCount" (Ab (gc (.str ("a stock has one to four kinds":Str))) Aj)) nxS)
  (Am (AK 1 GB)
  (Dk (itU (fz (Aa 0))) (AA 2 (Ad (tgN 2) (Ad (tgN 3) Av))) (Am (ifS (E8 (Kr (fz (Af (Ah 1 AQ) (Ae (fz (Aa 2)) Aj))))) (λ_=>.bad) nxS)
  (Am (ifS (asB (Ag (DC false) (fz (Aa 2)) (Aa 1))) (λ_=>.bad) nxS)
  (Am (ifS (E8 (asB (chain gLe gLe (gc (.int 1)) (Af Be (Ab (Aa 3) Aj)) (gc (.int 4))))) (λ_=>.bad) nxS)
  (Ca (gc (.o true)) (Aa 1) (fz (Aa 2)))))))))
noncomputable def BC:FS->Out Rv:=Bl 3 (Cj)
noncomputable def Ci:FS->SO :=
  (Am (ifS (E8 (Kr (fz (Af (Ah 1 AQ) (Ae (fz (Aa 0)) Aj))))) (λ_=>.bad) nxS)
  (Am (ifS (asB (Ag (DC false) (fz (Aa 0)) (Aa 2))) (λ_=>.bad) nxS)
  (Am (ifS (asB (Ag gGt (Af Be (Ab (Aa 1) Aj)) (gc (.int 2)))) (λ_=>.bad) nxS)
  (Dk (itU (fz (Aa 1))) (tgN 4) (ifS (asB (Ag (DC true) (fz (Aa 4)) (Aa 3))) (λ_=>.bad) nxS)))))
noncomputable def AU:FS->Out Rv:=Bl 1 (Ci)
noncomputable def BW:FS->SO :=
  (Dk (itU (fz (Aa 1))) (tgN 3) (ifS (asB (Ag (DC true) (fz (Aa 3)) (Aa 2))) (λ_=>.bad) nxS))
noncomputable def AN:FS->Out Rv:=Bl 1 (BW)
noncomputable def BV:FS->SO :=
  (Am (AK 1 (Bs false [none,none] (itU (fz (Aa 0))) (AA 2 (Ad (tgN 0) (Ad (tgN 1) Av))) DK (fz (Aa 0))))
  (Am (AK 2 (Aw Eg Aj))
  (Am (AK 3 GB)
  (Dk (itU (fz (Aa 0))) (AA 2 (Ad (tgN 4) (Ad (tgN 5) Av))) (Am (AK 6 (Ag AZ (Ag AZ (Aa 5) (gc (.int 0))) (gc (.int 0))))
  (Am (Dk (itU (fz (Aa 5))) (AA 2 (Ad (tgN 7) (Ad (tgN 8) Av))) (Am (AM (Af (Ah 4 AU) (Ae (fz (Aa 7)) (Ae (fz (Aa 8)) (Ae (Aa 3) (Ae (fz (Aa 1)) Aj))))))
  (Am (ifS (asB (Ag (gEq false) (Aa 7) (Aa 6))) (AM (Af (Ah 3 AN) (Ae (fz (Aa 7)) (Ae (fz (Aa 8)) (Ae (Aa 2) Aj))))) nxS)
  (Ca (gc (.o true)) (Aa 3) (fz (Aa 7))))))
  (AM (Bv E1 (Aa 2) (Ab (fz (Aa 4)) Aj)))))))))
noncomputable def Br:FS->Out Rv:=Bl 8 (BV)
noncomputable def CO(cStock:Addr):FS->SO :=
  (Am (AM (Af (Ah 1 BC) (Ae (fz (Aa 1)) Aj)))
  (Am (AM (Af (Ah 1 Br) (Ae (fz (Aa 1)) Aj)))
  (Am (HL cStock "makers_by_kind" 0 GB)
  (Am (HL cStock "parts_by_maker" 0 GB)
  (Am (HL cStock "home_by_maker" 0 GB)
  (Dk (itU (fz (Aa 1))) (AA 2 (Ad (tgN 2) (Ad (tgN 3) Av))) (Am (BI cStock "makers_by_kind" 0 2 (Bs false [none,none] (itU (fz (Aa 3))) (AA 2 (Ad (tgN 0) (Ad (tgN 1) Av))) DK (fz (Aa 0))))
  (Dk (itU (fz (Aa 3))) (AA 2 (Ad (tgN 4) (Ad (tgN 5) Av))) (Am (BI cStock "parts_by_maker" 0 4 (Af A9 (Ab (Aa 5) Aj)))
  (BI cStock "home_by_maker" 0 4 (fz (Aa 2))))))))))))
noncomputable def B2(cStock:Addr):FS->Out Rv:=Bl 4 (CO cStock)
noncomputable def BX(cStock:Addr):FS->SO :=
  (Am (ifS (asB (Ag (DC true) (fz (Aa 1)) (DD cStock "makers_by_kind" (Aa 0)))) (λ_=>.bad) nxS)
  (retS (Af Cd (Ab (Ag AZ (DD cStock "makers_by_kind" (Aa 0)) (fz (Aa 1))) Aj))))
noncomputable def AY(cStock:Addr):FS->Out Rv:=Bl 0 (BX cStock)
noncomputable def Cm(cStock:Addr):FS->SO :=
  (retS (Af Cd (Ab (DD cStock "makers_by_kind" (Aa 0)) Aj)))
noncomputable def A8(cStock:Addr):FS->Out Rv:=Bl 0 (Cm cStock)
noncomputable def He(cStock:Addr):FS->SO :=
  (retS (Af UK (Ab (Bs false [none,some 1,some 0] (itU (fz (HD cStock "kinds" 1 (A8 cStock) (fz (Aa 0)) Aj))) (tgN 0) DK (Ag (DC false) (fz (Aa 1)) (fz (CW cStock "makers" 2 (AY cStock) (fz (Aa 2)) (Ae (fz (Aa 0)) Aj))))) Aj)))
noncomputable def DE(cStock:Addr):FS->Out Rv:=Bl 0 (He cStock)
noncomputable def EU(cStock:Addr):FS->SO :=
  (Am (HX (fz (Aa 2)) (AA 5 (Ad (tgN 3) (Ad (tgN 4) (Ad (tgN 5) (Ad (tgN 6) (Ad (tgN 7) Av)))))))
  (Am (ifS (E8 (Kr (fz (Af (Ah 1 AQ) (Ae (fz (Aa 3)) Aj))))) (λ_=>.bad) nxS)
  (Am (ifS (orT (asB (Ag (DC false) (fz (Aa 3)) (Aa 1))) (Kr (fz (Af (Ah 2 (DE cStock)) (Ae (fz (Aa 0)) (Ae (fz (Aa 3)) Aj)))))) (λ_=>.bad) nxS)
  (Am (ifS (E8 (asB (chain gLe gLe (gc (.int 1)) (Af Be (Ab (Aa 4) Aj)) (gc (.int 3))))) (λ_=>.bad) nxS)
  (Am (Dk (itU (fz (Ag AG (fz (Af Cd (Ab (Aa 4) Aj))) (Aw Dc (Ab (fz (Aa 5)) Aj))))) (tgN 8) (ifS (asB (Ag (DC true) (fz (Aa 8)) (fz (HD cStock "kinds" 1 (A8 cStock) (fz (Aa 0)) Aj)))) (λ_=>.bad) nxS))
  (Am (ifS (asB (Ag (gEq true) (Af Be (Ab (Aa 6) Aj)) (Ag J1 (Af Be (Ab (Aa 4) Aj)) (gc (.int 1))))) (λ_=>.bad) nxS)
  (ifS (asB (Ag (gEq true) (Af Be (Ab (Aa 7) Aj)) (Af Be (Ab (fz (CW cStock "makers" 2 (AY cStock) (fz (Aa 0)) (Ae (Ag AZ (Aa 4) (gc (.int 0))) Aj))) Aj)))) (λ_=>.bad) nxS)))))))
noncomputable def CJ(cStock:Addr):FS->Out Rv:=Bl 6 (EU cStock)
noncomputable def Ck(cStock:Addr):FS->SO :=
  (Am (ifS (asB (Ag (DC true) (fz (Aa 1)) (DD cStock "parts_by_maker" (Aa 0)))) (λ_=>.bad) nxS)
  (retS (Ag AZ (DD cStock "parts_by_maker" (Aa 0)) (fz (Aa 1)))))
noncomputable def Bj(cStock:Addr):FS->Out Rv:=Bl 0 (Ck cStock)
noncomputable def Et:FS->SO :=
  (Am (AK 1 GB)
  (Dk (itU (fz (Aa 0))) (tgN 2) (Am (ifS (E8 (Kr (fz (Af (Ah 1 AQ) (Ae (fz (Aa 2)) Aj))))) (λ_=>.bad) nxS)
  (Am (ifS (asB (Ag (DC false) (fz (Aa 2)) (Aa 1))) (λ_=>.bad) nxS)
  (Ca (gc (.o true)) (Aa 1) (fz (Aa 2)))))))
noncomputable def Cg:FS->Out Rv:=Bl 2 (Et)
noncomputable def CP(cStock:Addr):FS->SO :=
  (Am (ifS (asB (Ag (DC true) (fz (Aa 1)) (DD cStock "home_by_maker" (Aa 0)))) (λ_=>.bad) nxS)
  (retS (Ag AZ (DD cStock "home_by_maker" (Aa 0)) (fz (Aa 1)))))
noncomputable def CK(cStock:Addr):FS->Out Rv:=Bl 0 (CP cStock)
noncomputable def Cz(cScope:Addr)(cStock:Addr):FS->SO :=
  (Am (ifS (asB (Ag (gEq false) (Aa 1) (gc (.str ("make":Str))))) (retS (Aw Bp (Ab (fz (CW cStock "parts" 2 (Bj cStock) (DD cScope "stock" (Aa 0)) (Ae (fz (Aa 2)) Aj))) (Ab (fz (CW cStock "home" 2 (CK cStock) (DD cScope "stock" (Aa 0)) (Ae (fz (Aa 2)) Aj))) Aj)))) nxS)
  (Am (ifS (asB (Ag (DC true) (fz (Aa 2)) (DD cScope "heads" (Aa 0)))) (λ_=>.bad) nxS)
  (retS (Ag AZ (DD cScope "heads" (Aa 0)) (fz (Aa 2))))))
noncomputable def A3(cScope:Addr)(cStock:Addr):FS->Out Rv:=Bl 0 (Cz cScope cStock)
noncomputable def DP(cScope:Addr):FS->SO :=
  (Am (ifS (asB (Ag (DC true) (fz (Aa 1)) (DD cScope "kinds_by_name" (Aa 0)))) (λ_=>.bad) nxS)
  (retS (Ag AZ (DD cScope "kinds_by_name" (Aa 0)) (fz (Aa 1)))))
noncomputable def BS(cScope:Addr):FS->Out Rv:=Bl 0 (DP cScope)
noncomputable def Dh(cScope:Addr)(cStock:Addr)(rec:FS->Out Rv):FS->SO :=
  (Am (ifS (asB (Ag (gEq false) (Ag AZ (Aa 1) (gc (.int 0))) (gc (.str ("name":Str))))) (retS (Af (Ah 2 (BS cScope)) (Ae (fz (Aa 0)) (Ae (Ag AZ (Aa 1) (gc (.int 1))) Aj)))) nxS)
  (Am (HX (fz (Aa 1)) (AA 3 (Ad (tgN 2) (Ad (tgN 3) (Ad (tgN 4) Av)))))
  (Am (HX (fz (Af (Ah 3 (A3 cScope cStock)) (Ae (fz (Aa 0)) (Ae (fz (Aa 2)) (Ae (fz (Aa 3)) Aj))))) (AA 2 (Ad (tgN 5) (Ad (tgN 6) Av))))
  (Am (ifS (asB (Ag (gEq true) (Af Be (Ab (Aa 4) Aj)) (Af Be (Ab (Aa 5) Aj)))) (λ_=>.bad) nxS)
  (Am (ifS (Lq (asB (Ag (gEq false) (Aa 2) (gc (.str ("call":Str))))) (Lq (asB (Ag (gEq false) (Aa 3) (DD cScope "own" (Aa 0)))) (asB (Ag L5 (Ag AZ (Aa 4) (gc (.int 0))) (DD cScope "lessers" (Aa 0)))))) (λ_=>.bad) nxS)
  (Am (Dk (itZ (Aa 4) (Aa 5)) (AA 2 (Ad (tgN 7) (Ad (tgN 8) Av))) (ifS (asB (Ag (gEq true) (fz (Af (Ah 2 rec) (Ae (fz (Aa 0)) (Ae (fz (Aa 7)) Aj)))) (Aa 8))) (λ_=>.bad) nxS))
  (retS (Aa 6))))))))
noncomputable def AL(cScope:Addr)(cStock:Addr):Nat->FS->Out Rv
 |0=>λ_=>.bad
 |n+1=>Bl 7 (Dh cScope cStock (AL cScope cStock n))
noncomputable def EV(cScope:Addr):FS->SO :=
  (Am (HL cScope "stock" 0 (fz (Aa 1)))
  (Am (HL cScope "heads" 0 (fz (Aa 2)))
  (Am (HL cScope "kinds_by_name" 0 (fz (Aa 3)))
  (Am (HL cScope "own" 0 (fz (Aa 4)))
  (HL cScope "lessers" 0 (fz (Aa 5)))))))
noncomputable def CL(cScope:Addr):FS->Out Rv:=Bl 0 (EV cScope)
noncomputable def Gf(cScope:Addr)(cStock:Addr):FS->SO :=
  (Am (HX (fz (Aa 2)) (AA 5 (Ad (tgN 5) (Ad (tgN 6) (Ad (tgN 7) (Ad (tgN 8) (Ad (tgN 9) Av)))))))
  (Am (HX (fz (Aa 4)) (AA 2 (Ad (tgN 10) (Ad (tgN 11) Av))))
  (Am (AK 12 (fz (CW cStock "parts" 2 (Bj cStock) (fz (Aa 0)) (Ae (fz (Aa 3)) Aj))))
  (Am (ifS (asB (Ag (gEq true) (Af Be (Ab (Aa 10) Aj)) (Af Be (Ab (Aa 12) Aj)))) (λ_=>.bad) nxS)
  (Am (AM (Af (Ah 1 Cg) (Ae (fz (Ag AG (fz (Af Cd (Ab (Aa 10) Aj))) (fz (Af Cd (Ab (Aa 8) Aj))))) Aj)))
  (Am (AK 13 (fz (Me (Ab (fz (Ag AG (fz (Af Cd (Ab (Aa 10) Aj))) (fz (Af Cd (Ab (Aa 8) Aj))))) (Ab (fz (Ag AG (fz (Af Cd (Ab (Aa 12) Aj))) (fz (Af Cd (Ab (slF (Aa 6) (Dl (gc (.int 1))) noP) Aj))))) Aj)))))
  (Am (AK 14 (Bs false [none,some 13,some 6] (itU (fz (Aa 10))) (tgN 0) (asB (Ag (gEq false) (Ag AZ (Aa 1) (fz (Aa 0))) (Ag AZ (Aa 2) (gc (.int 0))))) (Aw Bp (Ab (gc (.str ("name":Str))) (Ab (fz (Aa 0)) Aj)))))
  (ifS (asB (Ag (gEq true) (fz (Af (Ah 2 (AL cScope cStock 20)) (Ae (fz (Af (EA cScope 6 (CL cScope)) (Ae (fz (Aa 0)) (Ae (fz (Aa 1)) (Ae (fz (Aa 13)) (Ae (fz (Aa 5)) (Ae (fz (Aa 14)) Aj))))))) (Ae (fz (Aa 11)) Aj)))) (Aa 7))) (λ_=>.bad) nxS))))))))
noncomputable def De(cScope:Addr)(cStock:Addr):FS->Out Rv:=Bl 10 (Gf cScope cStock)
noncomputable def DQ(cProgram:Addr)(cScope:Addr)(cStock:Addr):FS->SO :=
  (Am (HL cProgram "stock" 0 (fz (Aa 1)))
  (Am (HL cProgram "heads" 0 GB)
  (Am (HL cProgram "rows_by_function" 0 GB)
  (Dk (itU (fz (Aa 2))) (tgN 3) (Am (AM (JG 0 (Af (Ah 3 (CJ cStock)) (Ae (fz (Aa 1)) (Ae (DD cProgram "heads" (Aa 0)) (Ae (fz (Aa 3)) Aj))))))
  (Am (HX (fz (Aa 3)) (AA 5 (Ad (tgN 4) (Ad (tgN 5) (Ad (tgN 6) (Ad (tgN 7) (Ad (tgN 8) Av)))))))
  (Am (BI cProgram "heads" 0 4 (Aw Bp (Ab (Af A9 (Ab (Aa 5) Aj)) (Ab (fz (Aa 6)) Aj))))
  (Am (Kc cProgram "rows_by_function" 0 4)
  (Dk (itZ (fz (CW cStock "makers" 2 (AY cStock) (fz (Aa 1)) (Ae (Ag AZ (Aa 5) (gc (.int 0))) Aj))) (Aa 8)) (AA 2 (Ad (tgN 9) (Ad (tgN 10) Av))) (Am (AM (JG 0 (Af (Ah 5 (De cScope cStock)) (Ae (fz (Aa 1)) (Ae (DD cProgram "heads" (Aa 0)) (Ae (fz (Aa 3)) (Ae (fz (Aa 9)) (Ae (fz (Aa 10)) Aj))))))))
  (dput2 cProgram "rows_by_function" 0 4 9 (Aw Bp (Ab (Ag AG (Af A9 (Ab (Ag AZ (Aa 10) (gc (.int 0))) Aj)) (Af A9 (Ab (Aa 7) Aj))) (Ab (Ag AZ (Aa 10) (gc (.int 1))) Aj))))))))))))))
noncomputable def BU(cProgram:Addr)(cScope:Addr)(cStock:Addr):FS->Out Rv:=Bl 8 (DQ cProgram cScope cStock)
noncomputable def CA(cProgram:Addr):FS->SO :=
  (retS (Af Cd (Ab (DD cProgram "heads" (Aa 0)) Aj)))
noncomputable def AF(cProgram:Addr):FS->Out Rv:=Bl 0 (CA cProgram)
noncomputable def BF(cProgram:Addr):FS->SO :=
  (Am (ifS (asB (Ag (DC true) (fz (Aa 1)) (DD cProgram "heads" (Aa 0)))) (GK "NoFunction" (Aa 1)) nxS)
  (retS (Ag AZ (DD cProgram "heads" (Aa 0)) (fz (Aa 1)))))
noncomputable def AB(cProgram:Addr):FS->Out Rv:=Bl 0 (BF cProgram)
noncomputable def Cn(cProgram:Addr):FS->SO :=
  (Am (ifS (asB (Ag (DC true) (fz (Aa 1)) (DD cProgram "rows_by_function" (Aa 0)))) (GK "NoFunction" (Aa 1)) nxS)
  (Am (ifS (asB (Ag (DC true) (fz (Aa 2)) (Ag AZ (DD cProgram "rows_by_function" (Aa 0)) (fz (Aa 1))))) (Fp "NoMaker" (Aa 1) (Aa 2)) nxS)
  (retS (Ag AZ (Ag AZ (DD cProgram "rows_by_function" (Aa 0)) (fz (Aa 1))) (fz (Aa 2))))))
noncomputable def AV(cProgram:Addr):FS->Out Rv:=Bl 0 (Cn cProgram)
noncomputable def Lm(cProgram:Addr):FS->SO :=
  (Am (Dk (itU (fz (Aa 2))) (AA 5 (Ad (tgN 3) (Ad (tgN 4) (Ad (tgN 5) (Ad (tgN 6) (Ad (tgN 7) Av)))))) (Am (ifS (asB (Ag (L7 true) (fz (CW cProgram "kinds_of" 2 (AB cProgram) (fz (Aa 0)) (Ae (fz (Aa 3)) Aj))) (Aw Bp (Ab (fz (Aa 4)) (Ab (fz (Aa 5)) Aj))))) (retS (gc (.o false))) nxS)
  (Am (AK 8 (Bs false [none,none] (itU (fz (Af (Ah 2 B3) (Ae (fz (Aa 1)) (Ae (Ag AZ (Aa 4) (gc (.int 0))) Aj))))) (AA 2 (Ad (tgN 0) (Ad (tgN 1) Av))) DK (fz (Aa 0))))
  (Dk (itE (fz (Aa 7))) (AA 2 (Ad (tgN 9) (Ad (AA 2 (Ad (tgN 10) (Ad (tgN 11) Av))) Av))) (ifS (asB (Ag (L7 true) (fz (CW cProgram "row" 3 (AV cProgram) (fz (Aa 0)) (Ae (fz (Aa 3)) (Ae (Ag AZ (Aa 8) (fz (Aa 9))) Aj)))) (Aw Bp (Ab (Ag AG (Aa 10) (Aa 6)) (Ab (fz (Aa 11)) Aj))))) (retS (gc (.o false))) nxS)))))
  (retS (Ag (L7 false) (fz (HD cProgram "functions" 1 (AF cProgram) (fz (Aa 0)) Aj)) (Bs false [none] (itU (fz (Aa 2))) (tgN 0) DK (Ag AZ (Aa 0) (gc (.int 0)))))))
noncomputable def El(cProgram:Addr):FS->Out Rv:=Bl 9 (Lm cProgram)
noncomputable def DR:FS->SO :=
  (Am (AK 1 (Aw Eg Aj))
  (Am (Dk (itU (fz (Aa 0))) (AA 2 (Ad (tgN 2) (Ad (tgN 3) Av))) (Dk (itU (fz (Aa 3))) (AA 2 (Ad (tgN 4) (Ad (tgN 5) Av))) (AM (Bv E1 (Aa 1) (Ab (fz (Aa 4)) Aj)))))
  (retS (Aa 1))))
noncomputable def Bd:FS->Out Rv:=Bl 5 (DR)
noncomputable def QK:FS->SO :=
  (Am (AK 1 (Aw Dc (Ab (isX xrs Hi "BadCount" (Aa 0)) (Ab (isX xrs Hi "BadKind" (Aa 0)) (Ab (isX xrs Hi "BadName" (Aa 0)) Aj)))))
  (Am (AK 1 (fz (Ag AG (Aa 1) (Aw Dc (Ab (isX xrs Hi "BadText" (Aa 0)) (Ab (isX xrs Hi "Groundless" (Aa 0)) (Ab (isX xrs Hi "NoFunction" (Aa 0)) Aj)))))))
  (Am (AK 1 (fz (Ag AG (Aa 1) (Aw Dc (Ab (isX xrs Hi "NoKind" (Aa 0)) (Ab (isX xrs Hi "NoMaker" (Aa 0)) (Ab (isX xrs Hi "NoName" (Aa 0)) Aj)))))))
  (Am (AK 1 (fz (Ag AG (Aa 1) (Aw Dc (Ab (isX xrs Hi "NoPlace" (Aa 0)) (Ab (isX xrs Hi "NoSaying" (Aa 0)) (Ab (isX xrs Hi "NotLess" (Aa 0)) Aj)))))))
  (Am (AK 1 (fz (Ag AG (Aa 1) (Aw Dc (Ab (isX xrs Hi "NotShown" (Aa 0)) (Ab (isX xrs Hi "TooLong" (Aa 0)) (Ab (isX xrs Hi "Twice" (Aa 0)) Aj)))))))
  (Am (ifS (orT (E8 (Kr (isX xrs Hi "SayError" (Aa 0)))) (orT (E8 (Kr (isV xrs (Aa 0)))) (asB (Ag (gEq true) (Af Ya (Ab (Bs false [none] (itU (fz (Aa 1))) (tgN 0) DK (Af HK (Ab (Aa 0) Aj))) Aj)) (gc (.int 1)))))) (retS (gc (.str ("":Str)))) nxS)
  (Am (AK 2 (Aw Dc (Ab (gc (.str ("BadCount":Str))) (Ab (gc (.str ("BadKind":Str))) (Ab (gc (.str ("BadName":Str))) (Ab (gc (.str ("BadText":Str))) (Ab (gc (.str ("Groundless":Str))) (Ab (gc (.str ("NoFunction":Str))) (Ab (gc (.str ("NoKind":Str))) (Ab (gc (.str ("NoMaker":Str))) Aj))))))))))
  (Am (AK 2 (fz (Ag AG (Aa 2) (Aw Dc (Ab (gc (.str ("NoName":Str))) (Ab (gc (.str ("NoPlace":Str))) (Ab (gc (.str ("NoSaying":Str))) (Ab (gc (.str ("NotLess":Str))) (Ab (gc (.str ("NotShown":Str))) (Ab (gc (.str ("TooLong":Str))) (Ab (gc (.str ("Twice":Str))) Aj)))))))))))
  (retS (Ag AZ (Aa 2) (fz (Bv Jaa (Aa 1) (Ab (gc (.o true)) Aj)))))))))))))
noncomputable def DG:FS->Out Rv:=Bl 2 (QK)
noncomputable def Hf(cProgram:Addr):FS->SO :=
  (Am (AK 4 (gc .v))
  (Am (UH 5 (λc=>xrs.contains c&&Hi c "SayError") (ifS (asB (Ag (gEq false) (Aa 1) (gc (.int 0)))) (AM (CW cProgram "kinds_of" 2 (AB cProgram) (fz (Aa 0)) (Ae (fz (Aa 2)) Aj))) (AM (CW cProgram "row" 3 (AV cProgram) (fz (Aa 0)) (Ae (fz (Aa 2)) (Ae (fz (Aa 3)) Aj))))) (AK 4 (fz (Aa 5))))
  (retS (Af (Ah 1 DG) (Ae (fz (Aa 4)) Aj)))))
noncomputable def CY(cProgram:Addr):FS->Out Rv:=Bl 2 (Hf cProgram)
noncomputable def X1(cProgram:Addr)(cScope:Addr)(cStock:Addr):FS->SO :=
  (Am (AK 1 (fz (Af (Ah 2 Cs) (Ae (fz (Af (Ah 2 AR) (Ae (fz (Aa 0)) (Ae (gc (.int 0)) Aj)))) (Ae (gc (.int 0)) Aj)))))
  (Am (AK 2 (fz (Af (Ah 1 Em) (Ae (fz (Aa 0)) Aj))))
  (Am (AK 3 (fz (Af (Ah 2 B4) (Ae (fz (Aa 0)) (Ae (fz (Aa 2)) Aj)))))
  (Am (AK 4 (Af Cd (Ab (Aa 3) Aj)))
  (Am (AK 5 (fz (Af (EA cStock 2 (B2 cStock)) (Ae (fz (Af Cd (Ab (Aa 2) Aj))) Aj))))
  (Am (AK 6 (fz (Ly 4 (Af (EA cProgram 3 (BU cProgram cScope cStock)) (Ae (fz (Aa 5)) (Ae (Aa 4) Aj))))))
  (Am (AM (Bv NQ (Aa 4) Aj))
  (Am (AM (Bv E1 (Aa 4) (Ab (Ag AZ (Aa 3) (gc (.int 0))) Aj)))
  (Am (ifS (E8 (Kr (fz (Af (Ah 3 (El cProgram)) (Ae (fz (Aa 6)) (Ae (fz (Aa 2)) (Ae (fz (Aa 3)) Aj))))))) (retS (gc (.o false))) nxS)
  (Am (AK 7 (HD cProgram "functions" 1 (AF cProgram) (fz (Aa 6)) Aj))
  (Am (ifS (E8 (Kr (isG "list" (Aa 7)))) (retS (gc (.o false))) nxS)
  (Am (AM (Bv IT (Aa 7) Aj))
  (Am (HX (Ag AZ (Aa 3) (Ag Dw (Aa 1) (Af Be (Ab (Aa 3) Aj)))) (AA 5 (Ad (tgN 8) (Ad (tgN 9) (Ad (tgN 10) (Ad (tgN 11) (Ad (tgN 12) Av)))))))
  (Am (AK 13 (Bs false [none,none] (itU (fz (Af (Ah 2 B3) (Ae (fz (Aa 2)) (Ae (Ag AZ (Aa 9) (gc (.int 0))) Aj))))) (AA 2 (Ad (tgN 0) (Ad (tgN 1) Av))) DK (fz (Aa 0))))
  (Am (AK 14 (Bs false [none,some 13] (itU (fz (Af (Ah 1 Bd) (Ae (fz (Aa 2)) Aj)))) (tgN 0) (asB (Ag (DC true) (fz (Aa 0)) (Aa 1))) (fz (Aa 0))))
  (Am (AK 15 (fz (Ag AG (Bs false [none] (itU (fz (Aa 3))) (tgN 0) DK (Ag AZ (Aa 0) (gc (.int 0)))) (fz (Af (Ah 1 Bd) (Ae (fz (Aa 2)) Aj))))))
  (Am (AK 16 (Ag AZ (Bs false [none,some 15] (itU (Aw Dc (Ab (gc (.str ("z":Str))) (Ab (gc (.str ("zz":Str))) Aj)))) (tgN 0) (asB (Ag (DC true) (fz (Aa 0)) (Aa 1))) (fz (Aa 0))) (gc (.int 0))))
  (Am (ifS (asB (Ag (gEq true) (fz (Af (Ah 4 (CY cProgram)) (Ae (fz (Aa 6)) (Ae (Ag Dw (Ag Fb (Aa 1) (gc (.int 5))) (gc (.int 2))) (Ae (fz (Aa 16)) (Ae (fz (Aa 16)) Aj)))))) (gc (.str ("NoFunction":Str))))) (retS (gc (.o false))) nxS)
  (Am (AK 17 (Ag AZ (fz (Ag AG (Aa 14) (Aw Dc (Ab (fz (Aa 16)) Aj)))) (Ag Dw (Ag Fb (Aa 1) (gc (.int 10))) (Ag AG (Af Be (Ab (Aa 14) Aj)) (gc (.int 1))))))
  (Am (ifS (asB (Ag (gEq true) (fz (Af (Ah 4 (CY cProgram)) (Ae (fz (Aa 6)) (Ae (gc (.int 1)) (Ae (fz (Aa 8)) (Ae (fz (Aa 17)) Aj)))))) (gc (.str ("NoMaker":Str))))) (retS (gc (.o false))) nxS)
  (retS (Yc (fz (Af (Ah 3 (El cProgram)) (Ae (fz (Aa 6)) (Ae (fz (Aa 2)) (Ae (fz (Aa 3)) Aj))))) (Ag (L7 false) (fz (HD cStock "kinds" 1 (A8 cStock) (DD cProgram "stock" (Aa 6)) Aj)) (Bs false [none,none] (itU (fz (Aa 2))) (AA 2 (Ad (tgN 0) (Ad (tgN 1) Av))) DK (fz (Aa 0))))))))))))))))))))))))))
noncomputable def XD(cProgram:Addr)(cScope:Addr)(cStock:Addr):FS->Out Rv:=Bl 17 (X1 cProgram cScope cStock)
theorem JD{g h:FS->SO}{fs fs':FS}(e:g fs=.nx fs'):Am g h fs=h fs':=by unfold Am;rw[e]
abbrev vl(t:T):Option Sl:=some (.val t)
abbrev iv(i:Int):Option Sl:=some (.val (.int i))
def Fre:Option Sl->Prop
 |some (.bor _)=>False
 |_=>True
theorem AH:Fre none:=True.intro
theorem An{t:T}:Fre (vl t):=True.intro
theorem By{fs:FS}{i:Nat}{t:T}{x:Option Sl}(e:fs[i]?=some x)(h:Fre x):JB i (.t t) fs=some (fs.set i (vl t)):=by unfold JB;rw[e];cases x with|none=>rfl|some s=>cases s with|val t=>rfl|own o=>rfl|bor o=>exact h.elim
theorem Dd{gt:T->FS->Option FS}{body:FS->SO}(P:List T->FS->Prop)(step:∀t ts fs,P (t::ts) fs->∃fs1 fs2,gt t fs=some fs1/\body fs1=.nx fs2/\P ts fs2):∀(ts:List T)(fs:FS),P ts fs->∃fs',GX gt body ts fs=.nx fs'/\P [] fs'
 | [],fs,h=>⟨fs,rfl,h⟩
 |t::ts,fs,h=>by obtain⟨fs1,fs2,e1,e2,h2⟩:=step t ts fs h;obtain⟨fs',e,hp⟩:=Dd P step ts fs2 h2;exact⟨fs',by simp only[GX,e1,e2,e],hp⟩
def IsI(t:T)(ns:List Int):Prop:=t=.z0 (ns.map T.int)\/t=.lst (ns.map T.int)
theorem IsI.seq{t:T}{ns:List Int}(h:IsI t ns)(fs:FS):Dm fs (.t t)=some (ns.map T.int):=by rcases h with rfl|rfl<;>rfl
section
variable{i j:Int}{fs:FS}
theorem EG:AG (.t (.int i)) (.t (.int j)) fs=.ok (.t (.int (i+j))) fs:=rfl
theorem WT:J1 (.t (.int i)) (.t (.int j)) fs=.ok (.t (.int (i-j))) fs:=rfl
theorem GW(h:0<j):Dw (.t (.int i)) (.t (.int j)) fs=.ok (.t (.int (i%j))) fs:=if_pos h
theorem NT(h:0<j/\j<1073741824):Fb (.t (.int i)) (.t (.int j)) fs=.ok (.t (.int (i/j))) fs:=if_pos h
theorem J4(h:-(2^64)<i/\i<2^64):Bq (.t (.int i)) (.t (.int j)) fs=.ok (.t (.int (i*j))) fs:=by have e:WU (.t (.int i)) (.t (.int j)) fs=.ok (.t (.int (i*j))) fs:=if_pos (by rw[aV h];rfl);unfold Bq orG;rw[e]
theorem J5(h:Builtin.Int.intBits i<=2^26/\Builtin.Int.intBits j<=2^26):Bq (.t (.int i)) (.t (.int j)) fs=.ok (.t (.int (i*j))) fs:=by have e:WU (.t (.int i)) (.t (.int j)) fs=.ok (.t (.int (i*j))) fs:=if_pos (by rw[aV h.1,aV h.2];simp);unfold Bq orG;rw[e]
end
theorem HJ{x:Rv}{ts:List T}{i:Int}{t:T}{fs:FS}(h:Dm fs x=some ts)(e:atI ts i=some t):AZ x (.t (.int i)) fs=.ok (.t t) fs:=by
 have e':gIx x (.t (.int i)) fs=.ok (.t t) fs:=by simp only[gIx,h,e,okT]
 unfold AZ orG;rw[e']
theorem WV{t:T}{ns:List Int}{i:Int}{fs:FS}(h:IsI t ns)(h0:0<=i)(h1:i<ns.length):AZ (.t t) (.t (.int i)) fs=.ok (.t (.int (ns.getD i.toNat 0))) fs:=by
 refine HJ (h.seq fs) ?_;have e:(ns.map T.int)[i.toNat]?=some (T.int (ns.getD i.toNat 0)):=by
  have:i.toNat<ns.length:=by lia
  simp[this]
 have:=BG e;rwa[Int.toNat_of_nonneg h0]at this
theorem GO{fs:FS}{j:Nat}:∀{is:List Ini}{k:Nat},(∀i∈is,Cp fs i=none)->FL.placeOf fs j is k=none
 | [],_,_=>rfl
 |i::is,k,h=>by simp only[FL.placeOf];rw[h i aN,if_neg (by simp)];exact GO λi' m=>h i' (ao _ m)
theorem Hd{fs:FS}{is:List Ini}{τ:FS}(h:∀i∈is,Cp fs i=none):∀(gs:FS)(j:Nat),Kj fs is τ j gs=some gs
 | [],_=>rfl
 |g::gs,j=>by simp only[Kj,Ox,GO h,Hd h gs (j+1)]
theorem Bt{fs:FS}{is:List Ini}{τ:FS}(h:Dj fs is=[]):D1 is τ fs=some fs:=Hd (List.filterMap_eq_nil_iff.mp h) fs 0
theorem Kf{src:List (Option Nat)}{fi:FS->Out (List T)}{gt:T->FS->Option FS}{ft:FS->Out Bool}{fe:FS->Out Rv}{fs fs':FS}{ts vs:List T}{τ:FS}(h1:fi fs=.ok ts fs)(h2:(Dj fs (src.map λo=>o.elim Ini.no Ini.slot)).Nodup/\(src.all λo=>o.elim true λj=>decide (j<fs.length))=true)
  (h3:Bh gt ft fe ts (Ce fs (src.map λo=>o.elim Ini.no Ini.slot)) []=some (vs,τ)) (h4:D1 (src.map λo=>o.elim Ini.no Ini.slot) τ fs=some fs'):Bs false src fi gt ft fe fs=.ok (.t (.lst vs)) fs':=by
 unfold Bs;rw[h1];simp only[Out.bind];rw[if_pos h2,h3];dsimp only;rw[h4];rfl
theorem Sg{x y:Str}(h:x.cps.toList=y.cps.toList):x=y:=by
 obtain⟨a⟩:=x;obtain⟨b⟩:=y;have:a=b:=by simpa using h
 rw[this]
theorem Oc:Str.ofString ""=(⟨#[]⟩:Str):=by decide +kernel
theorem J3{i j:Int}{fs:FS}(h:-(2^64)<j/\j<2^64):Bq (.t (.int i)) (.t (.int j)) fs=.ok (.t (.int (i*j))) fs:=by have e:WU (.t (.int i)) (.t (.int j)) fs=.ok (.t (.int (i*j))) fs:=if_pos (by rw[aV h];simp);unfold Bq orG;rw[e]
theorem J7{x y:Str}{fs:FS}(h:x.length+y.length<=big):AG (.t (.str x)) (.t (.str y)) fs=.ok (.t (.str (x++y))) fs:=by have e:Qc (.t (.str x)) (.t (.str y)) fs=.ok (.t (.str (x++y))) fs:=if_pos h;have e2:Jab (.t (.str x)) (.t (.str y)) fs=.bad:=rfl;unfold AG orG;rw[e2];dsimp only;rw[e]
theorem Ol{xs:List T}{v:Int}(h0:0<=v)(h1:v.toNat<=xs.length):Mp xs none (some v)=xs.take v.toNat:=by show(xs.drop 0).take ((if v<0 then(v+(xs.length:Int)).toNat else min v.toNat xs.length)-0)=_;rw[if_neg (by lia),Nat.min_eq_left h1];simp
theorem Ja{xs:List T}{v:Int}(h0:0<=v)(h1:v.toNat<=xs.length):Mp xs (some v) none=xs.drop v.toNat:=by show(xs.drop (if v<0 then(v+(xs.length:Int)).toNat else min v.toNat xs.length)).take (xs.length-(if v<0 then(v+(xs.length:Int)).toNat else min v.toNat xs.length))=_;rw[if_neg (by lia),Nat.min_eq_left h1];exact bU (by rw[bQ];lia)
theorem Au{g:Rv->Rv->FS->Out Rv}{fa fb:FS->Out Rv}{fs:FS}{x y:T}{r:Out Rv}(h1:fa fs=.ok (.t x) fs)(h2:fb fs=.ok (.t y) fs)(h3:g (.t x) (.t y) fs=r):Ag g fa fb fs=r:=by unfold Ag;rw[h1];show(fb fs).bnd _=r;rw[h2];exact h3
theorem Al{i:Nat}{fs:FS}{t:T}(h:fs[i]?=some (vl t)):Aa i fs=.ok (.t t) fs:=by unfold Aa;rw[h]
theorem B9{t:T}{fs:FS}:gc t fs=.ok (.t t) fs:=rfl
theorem Hq{i:Nat}{f:FS->Out Rv}{fs fs':FS}{t:T}(h:f fs=.ok (.t t) fs)(hs:JB i (.t t) fs=some fs'):AK i f fs=.nx fs':=by unfold AK;rw[h];show(match JB i (.t t) fs with|some fs=>SO.nx fs|none=>.bad)=_;rw[hs]
theorem DI{f:FS->Out Rv}{g:FS->Out (List Rv)}{fs:FS}{t:T}{rs:List Rv}(h1:f fs=.ok (.t t) fs)(h2:g fs=.ok rs fs):Ab f g fs=.ok (.t t::rs) fs:=by unfold Ab;rw[h1];show(g fs).bind _=_;rw[h2];rfl
theorem BH{f:FS->Out Rv}{fs:FS}{t:T}(h:f fs=.ok (.t t) fs):fz f fs=.ok (.t t) fs:=by unfold fz;rw[h];rfl
theorem Er{g:List Rv->FS->Out Rv}{fa:FS->Out (List Rv)}{fs:FS}{rs:List Rv}{r:Out Rv}(h:fa fs=.ok rs fs)(h2:g rs fs=r):Af g fa fs=r:=by unfold Af;rw[h];exact h2
theorem X5{i:Nat}{f:FS->Out Rv}{fs fs':FS}{t:T}{ts:List T}(h0:fs[i]?=some (some (.own (.lst ts))))(h:f fs=.ok (.t t) fs)(hl:ts.length<big)(e:fs.set i (some (.own (.lst (ts++[t]))))=fs'):AM (Bv E1 (Aa i) (Ab f Aj)) fs=.nx fs':=by
 have h1:Aa i fs=.ok (.n i) fs:=by unfold Aa;rw[h0]
 have h2:FL.AE fs i=some (.lst ts):=by unfold FL.AE;rw[h0]
 have h3:Dm fs (.n i)=some ts:=by simp only[Dm,h2]
 have h4:Ab f Aj fs=.ok [.t t] fs:=DI h rfl;have h5:E1 (.n i) [.t t] fs=.ok (.t .v) fs':=by
  simp only[E1,h2];rw[if_pos hl];have:FL.putAt fs i (.lst (ts++[t]))=fs':=by unfold FL.putAt;rw[h0];exact e
  rw[this]
 have h6:Bv E1 (Aa i) (Ab f Aj) fs=.ok (.t .v) fs':=by unfold Bv;rw[h1];show(if(Dm fs (.n i)).isSome=true then _ else _)=_;rw[h3,if_pos (show(some ts).isSome=true from rfl),h4];exact h5
 unfold AM;rw[h6];rfl
theorem NH{c:FS->Out Bool}{g h:FS->SO}{fs:FS}{r:SO}(hc:c fs=.ok true fs)(e:g fs=r):ifS c g h fs=r:=by unfold ifS;rw[hc];exact e
theorem DW{c:FS->Out Bool}{g h:FS->SO}{fs:FS}{r:SO}(hc:c fs=.ok false fs)(e:h fs=r):ifS c g h fs=r:=by unfold ifS;rw[hc];exact e
theorem RC{fa fb:FS->Out Rv}{fs:FS}{i j:Int}(h1:fa fs=.ok (.t (.int i)) fs)(h2:fb fs=.ok (.t (.int j)) fs):asB (Ag (gEq false) fa fb) fs=.ok (decide (i=j)) fs:=by
 have e:gEq false (.t (.int i)) (.t (.int j)) fs=.ok (.t (.o (decide (i=j)))) fs:=by
  have q:decide (V.int i=V.int j)=decide (i=j):=by
   by_cases h:i=j
   .subst h;simp
   .rw[aT h,aT (by intro z;cases z;exact h rfl)]
  show(if Sk (V.int i) (V.int j)=true then okT (.o (if false=true then _ else decide (V.int i=V.int j))) fs else .bad)=_;rw[if_pos (show Sk (V.int i) (V.int j)=true from rfl),q];rfl
 unfold asB;rw[Au h1 h2 e];rfl
theorem DZ(ns:List Int)(k:Nat):AR [vl (.z0 (ns.map T.int)),iv k]=.ok (.t (.int (ns.getD k 0))) [vl (.z0 (ns.map T.int)),iv k]:=by
 have hl:asB (Ag gLt (Aa 1) (Af Be (Ab (Aa 0) Aj))) [vl (.z0 (ns.map T.int)),iv k]=.ok (decide ((k:Int)<((ns.map T.int).length:Int))) [vl (.z0 (ns.map T.int)),iv k]:=rfl;unfold AR Bl;show(match DJ [vl (.z0 (ns.map T.int)),iv k]with|.nx τ=>_|.ret (.t t) τ=>_|.ret (.nw o) τ=>_|.ret (.n i) τ=>_|.exc c τ=>_|_=>_)=_;have e:DJ [vl (.z0 (ns.map T.int)),iv k]=.ret (.t (.int (ns.getD k 0))) [vl (.z0 (ns.map T.int)),iv k]:=by
  unfold DJ;by_cases h:(k:Int)<((ns.map T.int).length:Int)
  .rw[aV h]at hl;have h':k<ns.length:=by rw[ar]at h;lia
   have e2:retS (Ag AZ (Aa 0) (fz (Aa 1))) [vl (.z0 (ns.map T.int)),iv k]=.ret (.t (.int (ns.getD k 0))) [vl (.z0 (ns.map T.int)),iv k]:=by have:=Au (g:=AZ) (fa:=Aa 0) (fb:=fz (Aa 1)) (fs:=[vl (.z0 (ns.map T.int)),iv k]) (Al rfl) (BH (Al rfl)) (WV (ns:=ns) (i:=(k:Int)) (.inl rfl) (by lia) (by lia));unfold retS;rw[this,bD];rfl
   unfold Am;rw[NH hl e2]
  .rw[aT h]at hl;have h':ns.length<=k:=by rw[ar]at h;lia
   rw[JD (DW (h:=nxS) (fs:=[vl (.z0 (ns.map T.int)),iv k]) (r:=.nx [vl (.z0 (ns.map T.int)),iv k]) hl rfl)];have:ns.getD k 0=0:=by simp[List.getD,h']
   rw[this];rfl
 rw[e];rfl
theorem CN{f:FS->Out Rv}{g:FS->Out (List Rv)}{fs fs1 fs2:FS}{t:T}{rs:List Rv}(h1:f fs=.ok (.t t) fs1)(h2:g fs1=.ok rs fs2):Ab f g fs=.ok (.t t::rs) fs2:=by unfold Ab;rw[h1];show(g fs1).bind _=_;rw[h2];rfl
theorem Uo{g:List T->FS->Out Rv}{fa:FS->Out (List Rv)}{fs fs1:FS}{rs:List Rv}{ts:List T}{r:Out Rv}(h:fa fs=.ok rs fs1)(h2:Mj rs=some ts)(h3:ts.length<=big)(e:g ts fs1=r):Aw g fa fs=r:=by unfold Aw;rw[h];show(match Mj rs with|some ts=>_|none=>_)=_;rw[h2];exact(if_pos h3).trans e
theorem WZ{f:FS->Out Rv}{fs fs1:FS}{t:T}(h:f fs=.ok (.t t) fs1):fz f fs=.ok (.t t) fs1:=by unfold fz;rw[h];rfl
theorem B7{f:FS->Out Rv}{fs fs1:FS}{r:Rv}(h:f fs=.ok r fs1):retS f fs=.ret r fs1:=by unfold retS;rw[h];rfl
theorem E5{g h:FS->SO}{fs fs':FS}{r:Rv}(e:g fs=.ret r fs'):Am g h fs=.ret r fs':=by unfold Am;rw[e]
theorem Gj:∀bs:List Bool,Dn (bs.map T.o)=some bs
 | []=>rfl
 |b::bs=>by simp[Dn,Gj bs]
theorem Bu{f:FS->Out Rv}{g:FS->Out (List Rv)}{fs fs1 fs2:FS}{r:Rv}{rs:List Rv}(h1:f fs=.ok r fs1)(h2:g fs1=.ok rs fs2):Ae f g fs=.ok (r::rs) fs2:=by unfold Ae;rw[h1];show(g fs1).bind _=_;rw[h2];rfl
theorem Fe{p:Nat}{Fn:FS->Out Rv}{fa:FS->Out (List Rv)}{fs fs1 fs' τ:FS}{rs:List Rv}{t:T}(ha:fa fs=.ok rs fs1)(hp:rs.length=p)(hn:(Dj fs1 (rs.map A1)).Nodup)(hf:Fn (Ce fs1 (rs.map A1))=.ok (.t t) τ)(hb:D1 (rs.map A1) τ fs1=some fs') :
  Af (Ah p Fn) fa fs=.ok (.t t) fs':=by
 unfold Af;rw[ha];show Ah p Fn rs fs1=_;unfold Ah;rw[if_pos hp];unfold Hc;rw[if_pos hn,hf];dsimp only;rw[hb]
theorem QH{p:Nat}{Fn:FS->Out Rv}{fa:FS->Out (List Rv)}{fs fs1 fs' τ:FS}{rs:List Rv}{o:FO}(ha:fa fs=.ok rs fs1)(hp:rs.length=p)(hn:(Dj fs1 (rs.map A1)).Nodup)(hf:Fn (Ce fs1 (rs.map A1))=.ok (.nw o) τ)(hb:D1 (rs.map A1) τ fs1=some fs') :
  Af (Ah p Fn) fa fs=.ok (.nw o) fs':=by
 unfold Af;rw[ha];show Ah p Fn rs fs1=_;unfold Ah;rw[if_pos hp];unfold Hc;rw[if_pos hn,hf];dsimp only;rw[hb]
theorem X4{i:Nat}{f:FS->Out Rv}{fs fs1 fs':FS}{t:T}{us ts:List T}(h0:fs[i]?=some (some (.own (.lst us))))(h:f fs=.ok (.t t) fs1)(h0':fs1[i]?=some (some (.own (.lst ts))))(hl:ts.length<big)(e:fs1.set i (some (.own (.lst (ts++[t]))))=fs'):AM (Bv E1 (Aa i) (Ab f Aj)) fs=.nx fs':=by
 have h1:Aa i fs=.ok (.n i) fs:=by unfold Aa;rw[h0]
 have h2:FL.AE fs i=some (.lst us):=by unfold FL.AE;rw[h0]
 have h2':FL.AE fs1 i=some (.lst ts):=by unfold FL.AE;rw[h0']
 have h3:Dm fs (.n i)=some us:=by simp only[Dm,h2]
 have h4:Ab f Aj fs=.ok [.t t] fs1:=CN h rfl;have h5:E1 (.n i) [.t t] fs1=.ok (.t .v) fs':=by
  simp only[E1,h2'];rw[if_pos hl];have:FL.putAt fs1 i (.lst (ts++[t]))=fs':=by unfold FL.putAt;rw[h0'];exact e
  rw[this]
 have h6:Bv E1 (Aa i) (Ab f Aj) fs=.ok (.t .v) fs':=by unfold Bv;rw[h1];show(if(Dm fs (.n i)).isSome=true then _ else _)=_;rw[h3,if_pos (show(some us).isSome=true from rfl),h4];exact h5
 unfold AM;rw[h6];rfl
noncomputable def CB:Str×List Str->T:=λr=>.tup [.str r.1,.tup (r.2.map T.str)]
noncomputable def As:Str×List (Str×List Str)->T:=λk=>.tup [.str k.1,.lst (k.2.map CB)]
theorem MM{j:Int}{fs fs1:FS}{fa:FS->Out (List Rv)}(e:fa fs=.ok [.t (.int j)] fs1)(h:-(2^62)<=j/\j<2^62):Mo fa fs=.ok (FL.upTo 0 j.toNat) fs1:=by unfold Mo;rw[e];simp only[Out.bind];exact if_pos h
abbrev Kd:=List (Str×List (Str×List Str))
theorem MS{fv fi:FS->Out Rv}{o:Nat}{fs fs':FS}{v:T}{k:Str}{ks:List Key}{ts:List T}(h0:fs[o]?=some (some (.own (.l ks ts))))(hv:fv fs=.ok (.t v) fs)(hi:fi fs=.ok (.t (.str k)) fs)(hn:(ks.any λk'=>decide (k'=(.inr k:Key)))=false)(hl:ks.length<big)
  (e:fs.set o (some (.own (.l (ks++[.inr k]) (ts++[v]))))=fs'):Ca fv (Aa o) fi fs=.nx fs':=by
 have h1:Aa o fs=.ok (.n o) fs:=by unfold Aa;rw[h0]
 have h2:FL.AE fs o=some (.l ks ts):=by unfold FL.AE;rw[h0]
 have h3:Ew ks ts (.inr k:Key) v=(ks++[.inr k],ts++[v]):=by unfold Ew;rw[hn];rfl
 have h4:FL.putAt fs o (.l (ks++[.inr k]) (ts++[v]))=fs':=by unfold FL.putAt;rw[h0];exact e
 have h5:P7 (.n o) (.t (.str k)) (.t v) fs=.bad:=rfl;have h6:NP (.n o) (.t (.str k)) (.t v) fs=.nx fs':=by simp only[NP,h2,Gm,hl,if_true,h3,h4]
 unfold Ca;rw[hv];simp only[Out.bnd,Out.bind];rw[h1];simp only;rw[hi];simp only[SO.of];unfold TK;rw[h5];exact h6
theorem D5{i j:Nat}{fs fs1 fs2:FS}{x y:T}(h1:tgN i x fs=some fs1)(h2:tgN j y fs1=some fs2):AA 2 (Ad (tgN i) (Ad (tgN j) Av)) (.tup [x,y]) fs=some fs2:=by have e:AA 2 (Ad (tgN i) (Ad (tgN j) Av)) (.tup [x,y]) fs=Ad (tgN i) (Ad (tgN j) Av) [x,y] fs:=rfl;rw[e];simp only[Ad,h1,h2,bE,Av]
noncomputable def Bo(K:Kd):List Key:=K.map λkd=>(.inr kd.1:Key)
theorem any_false{ks:List Key}{k:Key}(h:k∉ks):(ks.any λk'=>decide (k'=k))=false:=by rw[cO];intro x hx;rw[decide_eq_true_eq];intro e;exact h (e▸hx)
theorem sq{g h:FS->SO}{fs fs':FS}{r:SO}(e:g fs=.nx fs')(e2:h fs'=r):Am g h fs=r:=(JD e).trans e2
theorem Dz{f:FS->Out Rv}{fs fs1:FS}{b:Bool}(h:f fs=.ok (.t (.o b)) fs1):asB f fs=.ok b fs1:=by unfold asB;rw[h];rfl
theorem JN{f:FS->Out Bool}{fs fs1:FS}{b:Bool}(h:f fs=.ok b fs1):E8 f fs=.ok (!b) fs1:=by unfold E8;rw[h];rfl
theorem Jy{f:FS->Out Rv}{fs fs1:FS}{b:Bool}(h:f fs=.ok (.t (.o b)) fs1):Kr f fs=.ok b fs1:=by unfold Kr;rw[h];rfl
theorem NI{c:FS->Out Bool}{g h:FS->SO}{fs fs1:FS}{r:SO}(hc:c fs=.ok false fs1)(e:h fs1=r):ifS c g h fs=r:=by unfold ifS;rw[hc];exact e
theorem WJ{c:FS->Out Bool}{g h:FS->SO}{fs fs1:FS}{r:SO}(hc:c fs=.ok true fs1)(e:g fs1=r):ifS c g h fs=r:=by unfold ifS;rw[hc];exact e
theorem Cf{i:Nat}{fs:FS}{o:FO}(h:fs[i]?=some (some (.own o))):Aa i fs=.ok (.n i) fs:=by unfold Aa;rw[h]
theorem HH{i:Nat}{fs:FS}{o:FO}(h:fs[i]?=some (some (.bor o))):Aa i fs=.ok (.n i) fs:=by unfold Aa;rw[h]
theorem UJ{i:Nat}{fs:FS}{o:FO}(h:fs[i]?=some (some (.own o))):FL.AE fs i=some o:=by unfold FL.AE;rw[h]
theorem Rc{i:Nat}{fs:FS}{o:FO}(h:fs[i]?=some (some (.bor o))):FL.AE fs i=some o:=by unfold FL.AE;rw[h]
theorem Ki{g:Rv->Rv->FS->Out Rv}{fa fb:FS->Out Rv}{fs:FS}{x:T}{i:Nat}{r:Out Rv}(h1:fa fs=.ok (.t x) fs)(h2:fb fs=.ok (.n i) fs)(h3:g (.t x) (.n i) fs=r):Ag g fa fb fs=r:=by unfold Ag;rw[h1];show(fb fs).bnd _=r;rw[h2];exact h3
theorem Dx{f:FS->Out Rv}{fs fs1:FS}{r:Rv}(h:f fs=.ok r fs1):AM f fs=.nx fs1:=by unfold AM;rw[h];rfl
theorem BZ{κ:Type}[DecidableEq κ]:∀{ks:List κ}{ts:List T}{k:κ},k∉ks->CD ks ts k=none
 | [],_,_,_=>by unfold CD;rfl
 |k'::ks,[],k,_=>by unfold CD;rfl
 |k'::ks,t::ts,k,h=>by
  have h1:k'≠k:=λe=>h (e▸aN)
  have h2:k∉ks:=λm=>h (ao _ m)
  simp only[CD,if_neg h1,BZ h2]
theorem BY{κ α:Type}[DecidableEq κ]{f:α->κ}{g:α->T}:∀{xs:List α}{x:α},x∈xs->(xs.map f).Nodup->CD (xs.map f) (xs.map g) (f x)=some (g x)
 |y::ys,x,m,nd=>by
  rw[aj,aj];unfold CD;rw[aj,bh]at nd;by_cases e:f y=f x
  .rw[if_pos e];rcases aH.mp m with rfl|m
   .rfl
   .exact(nd.1 (aI.mpr ⟨x,m,e.symm⟩)).elim
  .rw[if_neg e];rcases aH.mp m with rfl|m
   .exact(e rfl).elim
   .exact BY m nd.2
theorem Tz{neg:Bool}{k:Str}{i:Nat}{ks:List Key}{ts:List T}{fs:FS}(h:FL.AE fs i=some (.l ks ts)):DC neg (.t (.str k)) (.n i) fs=.ok (.t (.o (if neg then !(CD ks ts (.inr k:Key)).isSome else(CD ks ts (.inr k:Key)).isSome))) fs:=by
 unfold DC orG;have e:TR neg (.t (.str k)) (.n i) fs=.ok (.t (.o (if neg then !(CD ks ts (.inr k:Key)).isSome else(CD ks ts (.inr k:Key)).isSome))) fs:=by simp only[TR,RE,h,Gm,cE];rfl
 rw[e]
theorem X9{neg:Bool}{k:Str}{ks:List Key}{ts:List T}{fs:FS}:DC neg (.t (.str k)) (.t (.l ks ts)) fs=.ok (.t (.o (if neg then !(CD ks ts (.inr k:Key)).isSome else(CD ks ts (.inr k:Key)).isSome))) fs:=rfl
theorem Hv:∀xs:List Str,SA (xs.map T.str)=some (xs.map V.str)
 | []=>rfl
 |x::xs=>by simp only[aj,SA,plV,bE,Hv xs,cE]
theorem JZ(k:Str):∀xs:List Str,inV (.str k) (xs.map V.str)=decide (k∈xs)
 | []=>by simp[inV]
 |x::xs=>by
  have:=JZ k xs;unfold inV at this ⊢;rw[aj,cx,this];have e:eqV (.str x) (.str k)=decide (k=x):=by
   by_cases h:k=x
   .subst h;simp[eqV]
   .have h':x≠k:=λe=>h e.symm
    simp[eqV,h,h']
  rw[e,bO];simp
theorem Rj{neg:Bool}{k:Str}{xs:List Str}{fs:FS}:DC neg (.t (.str k)) (.t (.lst (xs.map T.str))) fs=.ok (.t (.o (if neg then !decide (k∈xs)else decide (k∈xs)))) fs:=by
 have e:gIn neg (.t (.str k)) (.t (.lst (xs.map T.str))) fs=.ok (.t (.o (if neg then !decide (k∈xs)else decide (k∈xs)))) fs:=by simp only[gIn,plV,Dm,Hv,okT,JZ]
 exact e
theorem WI{neg:Bool}{k:Str}{xs:List Str}{i:Nat}{fs:FS}(h:FL.AE fs i=some (.lst (xs.map T.str))):DC neg (.t (.str k)) (.n i) fs=.ok (.t (.o (if neg then !decide (k∈xs)else decide (k∈xs)))) fs:=by
 have e:gIn neg (.t (.str k)) (.n i) fs=.ok (.t (.o (if neg then !decide (k∈xs)else decide (k∈xs)))) fs:=by simp only[gIn,plV,Dm,h,Hv,okT,JZ]
 have e1:TR neg (.t (.str k)) (.n i) fs=.bad:=by simp only[TR,RE,h]
 unfold DC orG;rw[e1];exact e
theorem HR{fa fb fc:FS->Out Rv}{fs:FS}{a b c:Int}(ha:fa fs=.ok (.t (.int a)) fs)(hb:fb fs=.ok (.t (.int b)) fs)(hc:fc fs=.ok (.t (.int c)) fs)(h1:a<=b)(h2:b<=c):E8 (asB (chain gLe gLe fa fb fc)) fs=.ok false fs:=by
 have e1:gLe (.t (.int a)) (.t (.int b)) fs=.ok (.t (.o true)) fs:=by show okT (.o (decide (a<=b))) _=_;rw[aV h1];rfl
 have e2:gLe (.t (.int b)) (.t (.int c)) fs=.ok (.t (.o true)) fs:=by show okT (.o (decide (b<=c))) _=_;rw[aV h2];rfl
 simp only[E8,asB,chain,Out.bnd,Out.bind,ha,hb,hc,e1,e2,Bool.not_true]
theorem HE{x:T}{ts:List T}{f:FS->Out Rv}{fs fs1:FS}(h:f fs=.ok (.t x) fs1)(hs:x=.lst ts\/x=.tup ts):Af Be (Ab f Aj) fs=.ok (.t (.int ts.length)) fs1:=by unfold Af;rw[CN h (show Aj fs1=.ok [] fs1 from rfl)];rcases hs with rfl|rfl<;>rfl
theorem QI{p:Nat}{Fn:FS->Out Rv}{fa:FS->Out (List Rv)}{fs fs1 τ:FS}{rs:List Rv}{t:T}(ha:fa fs=.ok rs fs1)(hp:rs.length=p)(hn:Dj fs1 (rs.map A1)=[])(hf:Fn (Ce fs1 (rs.map A1))=.ok (.t t) τ):Af (Ah p Fn) fa fs=.ok (.t t) fs1 :=
 Fe ha hp (by rw[hn];exact aW) hf (Bt hn)
theorem Cc{fs:FS}:Aj fs=.ok [] fs:=rfl
theorem Cw{K:Kd}(h1:1<=K.length)(h4:K.length<=4)(hnd:(K.map (·.1)).Nodup)(hnm:∀kd∈K,AQ [vl (.str kd.1)]=.ok (.t (.o true)) [vl (.str kd.1)])(hrw:∀kd∈K,1<=kd.2.length/\kd.2.length<=4) :
  BC [vl (.lst (K.map As))]=.ok (.t .v) [vl (.lst (K.map As))]:=by
 have all:∃x1 x2 x3,Cj [vl (.lst (K.map As)),none,none,none]=.nx [vl (.lst (K.map As)),x1,x2,x3]:=by
  unfold Cj;obtain⟨fs',ef,D,R,x2,x3,ts,rfl,eD,eR,f2,f3⟩:=Dd (gt:=AA 2 (Ad (tgN 2) (Ad (tgN 3) Av))) (body:=(Am (ifS (E8 (Kr (fz (Af (Ah 1 AQ) (Ae (fz (Aa 2)) Aj))))) (λ_=>.bad) nxS)
  (Am (ifS (asB (Ag (DC false) (fz (Aa 2)) (Aa 1))) (λ_=>.bad) nxS)
  (Am (ifS (E8 (asB (chain gLe gLe (gc (.int 1)) (Af Be (Ab (Aa 3) Aj)) (gc (.int 4))))) (λ_=>.bad) nxS)
  (Ca (gc (.o true)) (Aa 1) (fz (Aa 2)))))))
   (λts fs=>∃(D R:Kd)(x2 x3:Option Sl)(vs:List T),fs=[vl (.lst (K.map As)),some (.own (.l (Bo D) vs)),x2,x3]/\D++R=K/\ts=R.map As/\Fre x2/\Fre x3)
   (λt' ts fs h=>by
    obtain⟨D,R,x2,x3,vs,rfl,eD,eR,f2,f3⟩:=h;cases R with
    |nil=>cases eR
    |cons kd R =>
     rw[aj]at eR;obtain⟨e1,e2⟩:=List.cons.inj eR;subst e1;have hm:kd∈K:=by rw[<- eD];simp
     have hnot:(.inr kd.1:Key)∉Bo D:=by
      intro m;unfold Bo at m;rw[aI]at m;obtain⟨kd',m',e'⟩:=m;have e'':kd'.1=kd.1:=by simpa using e'
      rw[<- eD,aq,ah]at hnd;exact hnd.2.2 kd'.1 (aI.mpr ⟨kd',m',rfl⟩) kd.1 (by simp) e''
     have hlen:(Bo D).length<big:=by
      unfold Bo;rw[ar];have:=congrArg List.length eD;simp at this;show D.length<1000000
      lia
     have hr:=hrw kd hm;refine⟨[vl (.lst (K.map As)),some (.own (.l (Bo D) vs)),vl (.str kd.1),vl (.lst (kd.2.map CB))],[vl (.lst (K.map As)),some (.own (.l (Bo D++[.inr kd.1]) (vs++[.o true]))),vl (.str kd.1),vl (.lst (kd.2.map CB))],D5 (by unfold tgN;exact By rfl f2) (by unfold tgN;exact By rfl f3),?_,D++[kd],R,vl (.str kd.1),vl (.lst (kd.2.map CB)),vs++[.o true],?_,by rw[<- eD];simp,e2,An,An⟩
     .refine sq (NI (JN (Jy (WZ (QI (Bu (BH (Al (t:=.str kd.1) rfl)) Cc) rfl rfl (hnm kd hm))))) rfl) ?_;refine sq (DW (Dz (b:=false) (Ki (BH (Al (t:=.str kd.1) rfl)) (Cf rfl) ?_)) rfl) ?_
      .rw[Tz (UJ rfl),BZ hnot];rfl
      refine sq (DW (HR B9 (HE (Al rfl) (.inl rfl)) B9 (by rw[ar];lia) (by rw[ar];lia)) rfl) ?_;exact MS (o:=1) (v:=.o true) (k:=kd.1) rfl B9 (BH (Al rfl)) (any_false hnot) hlen rfl
     .unfold Bo;rw[aq];rfl)
   (K.map As) [vl (.lst (K.map As)),some (.own (.l [] [])),none,none] ⟨[],K,none,none,[],rfl,rfl,rfl,AH,AH⟩
  refine⟨some (.own (.l (Bo D) ts)),x2,x3,?_⟩;refine sq (DW (HR B9 (HE (Al rfl) (.inl rfl)) B9 (by rw[ar];lia) (by rw[ar];lia)) rfl) ?_;exact sq (fs':=[vl (.lst (K.map As)),some (.own (.l [] [])),none,none]) rfl ef
 obtain⟨x1,x2,x3,all⟩:=all;unfold BC Bl;show(match Cj [vl (.lst (K.map As)),none,none,none]with|.nx τ=>_|.ret (.t t) τ=>_|.ret (.nw o) τ=>_|.ret (.n i) τ=>_|.exc c τ=>_|_=>_)=_;rw[all];rfl
theorem Z2{fa fb:FS->Out Rv}{fs:FS}{a b:Int}(h1:fa fs=.ok (.t (.int a)) fs)(h2:fb fs=.ok (.t (.int b)) fs):asB (Ag gGt fa fb) fs=.ok (decide (b<a)) fs:=Dz (Au h1 h2 rfl)
theorem JbM{fa fb:FS->Out Rv}{fs:FS}{a b:Int}(h1:fa fs=.ok (.t (.int a)) fs)(h2:fb fs=.ok (.t (.int b)) fs)(h:¬b<a):asB (Ag gGt fa fb) fs=.ok false fs:=by rw[Z2 h1 h2,aT h]
theorem TN{x y:Str}{fs:FS}:gEq false (.t (.str x)) (.t (.str y)) fs=.ok (.t (.o (decide (x=y)))) fs:=by
 have q:decide (V.str x=V.str y)=decide (x=y):=by
  by_cases h:x=y
  .subst h;simp
  .rw[aT h,aT (by intro z;cases z;exact h rfl)]
 show(if Sk (V.str x) (V.str y)=true then okT (.o (if false=true then _ else decide (V.str x=V.str y))) fs else .bad)=_;rw[if_pos (show Sk (V.str x) (V.str y)=true from rfl),q];rfl
theorem K5{fa fb:FS->Out Rv}{fs:FS}{x y:Str}(h1:fa fs=.ok (.t (.str x)) fs)(h2:fb fs=.ok (.t (.str y)) fs):asB (Ag (gEq false) fa fb) fs=.ok (decide (x=y)) fs:=Dz (Au h1 h2 TN)
theorem Cv{m:Str}{ps names:List Str}{ks:List Key}{vs:List T}(hn:AQ [vl (.str m)]=.ok (.t (.o true)) [vl (.str m)])(hk:(.inr m:Key)∉ks)(h2:ps.length<=2)(hp:∀p∈ps,p∈names) :
  AU [vl (.str m),vl (.tup (ps.map T.str)),some (.bor (.l ks vs)),vl (.lst (names.map T.str))]=.ok (.t .v) [vl (.str m),vl (.tup (ps.map T.str)),some (.bor (.l ks vs)),vl (.lst (names.map T.str))]:=by
 have all:∃x4,Ci [vl (.str m),vl (.tup (ps.map T.str)),some (.bor (.l ks vs)),vl (.lst (names.map T.str)),none]=.nx [vl (.str m),vl (.tup (ps.map T.str)),some (.bor (.l ks vs)),vl (.lst (names.map T.str)),x4]:=by
  unfold Ci;obtain⟨fs',ef,x4,rfl,f4,_⟩:=Dd (gt:=tgN 4) (body:=(ifS (asB (Ag (DC true) (fz (Aa 4)) (Aa 3))) (λ_=>.bad) nxS))
   (λts fs=>∃x4,fs=[vl (.str m),vl (.tup (ps.map T.str)),some (.bor (.l ks vs)),vl (.lst (names.map T.str)),x4]/\Fre x4/\∀t∈ts,∃p∈names,t=.str p)
   (λt' ts fs h=>by obtain⟨x4,rfl,f4,ht⟩:=h;obtain⟨p,mp,rfl⟩:=ht t' aN;refine⟨_,_,(by unfold tgN;exact By rfl f4),DW (Dz (b:=false) (Au (BH (Al rfl)) (Al rfl) ?_)) rfl,_,rfl,An,λt m=>ht t (ao _ m)⟩;rw[Rj,aV mp];rfl)
   (ps.map T.str) [vl (.str m),vl (.tup (ps.map T.str)),some (.bor (.l ks vs)),vl (.lst (names.map T.str)),none] ⟨none,rfl,AH,λt mt=>by rw[aI]at mt;obtain⟨p,mp,rfl⟩:=mt;exact⟨p,hp p mp,rfl⟩⟩
  refine⟨x4,?_⟩;refine sq (NI (JN (Jy (WZ (QI (Bu (BH (Al (t:=.str m) rfl)) Cc) rfl rfl hn)))) rfl) ?_;refine sq (DW (Dz (b:=false) (Ki (BH (Al (t:=.str m) rfl)) (HH rfl) ?_)) rfl) ?_
  .rw[Tz (Rc rfl),BZ hk];rfl
  refine sq (DW (JbM (HE (Al rfl) (.inr rfl)) B9 (by rw[ar];lia)) rfl) ?_;exact ef
 obtain⟨x4,all⟩:=all;unfold AU Bl;show(match Ci [vl (.str m),vl (.tup (ps.map T.str)),some (.bor (.l ks vs)),vl (.lst (names.map T.str)),none]with|.nx τ=>_|.ret (.t t) τ=>_|.ret (.nw o) τ=>_|.ret (.n i) τ=>_|.exc c τ=>_|_=>_)=_;rw[all];rfl
theorem B6{m:Str}{ps names:List Str}(hp:∀p∈ps,p∈names) :
  AN [vl (.str m),vl (.tup (ps.map T.str)),some (.bor (.lst (names.map T.str)))]=.ok (.t .v) [vl (.str m),vl (.tup (ps.map T.str)),some (.bor (.lst (names.map T.str)))]:=by
 have all:∃x3,BW [vl (.str m),vl (.tup (ps.map T.str)),some (.bor (.lst (names.map T.str))),none]=.nx [vl (.str m),vl (.tup (ps.map T.str)),some (.bor (.lst (names.map T.str))),x3]:=by
  unfold BW;obtain⟨fs',ef,x4,rfl,f4,_⟩:=Dd (gt:=tgN 3) (body:=(ifS (asB (Ag (DC true) (fz (Aa 3)) (Aa 2))) (λ_=>.bad) nxS))
   (λts fs=>∃x4,fs=[vl (.str m),vl (.tup (ps.map T.str)),some (.bor (.lst (names.map T.str))),x4]/\Fre x4/\∀t∈ts,∃p∈names,t=.str p)
   (λt' ts fs h=>by obtain⟨x4,rfl,f4,ht⟩:=h;obtain⟨p,mp,rfl⟩:=ht t' aN;refine⟨_,_,(by unfold tgN;exact By rfl f4),DW (Dz (b:=false) (Ki (BH (Al rfl)) (HH rfl) ?_)) rfl,_,rfl,An,λt m=>ht t (ao _ m)⟩;rw[WI (Rc rfl),aV mp];rfl)
   (ps.map T.str) [vl (.str m),vl (.tup (ps.map T.str)),some (.bor (.lst (names.map T.str))),none] ⟨none,rfl,AH,λt mt=>by rw[aI]at mt;obtain⟨p,mp,rfl⟩:=mt;exact⟨p,hp p mp,rfl⟩⟩
  exact⟨x4,ef⟩
 obtain⟨x4,all⟩:=all;unfold AN Bl;show(match BW [vl (.str m),vl (.tup (ps.map T.str)),some (.bor (.lst (names.map T.str))),none]with|.nx τ=>_|.ret (.t t) τ=>_|.ret (.nw o) τ=>_|.ret (.n i) τ=>_|.exc c τ=>_|_=>_)=_;rw[all];rfl
theorem F8{α:Type}{fe:FS->Out Rv}{f g h:α->T}{rest:FS}:∀(xs:List α)(x y:Option Sl)(acc:List T),Fre x->Fre y->(∀a∈xs,fe (vl (f a)::vl (g a)::rest)=.ok (.t (h a)) (vl (f a)::vl (g a)::rest))->acc.length+xs.length<=big ->
  ∃x' y',Fre x'/\Fre y'/\Bh (AA 2 (Ad (tgN 0) (Ad (tgN 1) Av))) DK fe (xs.map λa=>.tup [f a,g a]) (x::y::rest) acc=some (acc++xs.map h,x'::y'::rest)
 | [],x,y,acc,hx,hy,_,_=>⟨x,y,hx,hy,by simp[Bh]⟩
 |a::xs,x,y,acc,hx,hy,he,hl=>by
  obtain⟨x',y',fx,fy,e⟩:=F8 xs (vl (f a)) (vl (g a)) (acc++[h a]) An An (λt' m=>he t' (ao _ m)) (by simp at hl ⊢;lia);refine⟨x',y',fx,fy,?_⟩;have h1:AA 2 (Ad (tgN 0) (Ad (tgN 1) Av)) (.tup [f a,g a]) (x::y::rest)=some (vl (f a)::vl (g a)::rest) :=
   D5 (by unfold tgN;exact By rfl hx) (by unfold tgN;exact By rfl hy)
  have h2:=he a aN;have h3:acc.length<big:=by simp at hl;lia
  rw[aj];simp only[Bh,h1,DK,h2,if_pos h3,e];simp
noncomputable def mks(K:Kd):List Str:=K.flatMap λkd=>kd.2.map (·.1)
noncomputable def AW(K:Kd):List Key:=(mks K).map λm=>(.inr m:Key)
structure Well(K:Kd):Prop where
 lo:1<=K.length
 hi:K.length<=4
 nd:(K.map (·.1)).Nodup
 nm:∀kd∈K,AQ [vl (.str kd.1)]=.ok (.t (.o true)) [vl (.str kd.1)]
 rw:∀kd∈K,1<=kd.2.length/\kd.2.length<=4
 yO:(mks K).Nodup
 yK:∀m∈mks K,AQ [vl (.str m)]=.ok (.t (.o true)) [vl (.str m)]
 yI:∀m∈mks K,m.length<=12
 two:∀kd∈K,∀r∈kd.2,r.2.length<=2
 za:∀kd∈K,∀r∈kd.2,∀x∈r.2,x∈K.map (·.1)
 gr:∀D kd R,K=D++kd::R->∀r,kd.2[0]?=some r->∀x∈r.2,x∈D.map (·.1)
theorem Tg{K:Kd}{kd:Str×List (Str×List Str)}{r:Str×List Str}(h1:kd∈K)(h2:r∈kd.2):r.1∈mks K:=bK.mpr ⟨kd,h1,aI.mpr ⟨r,h2,rfl⟩⟩
theorem JP{K:Kd}(h4:K.length<=4)(hr:∀kd∈K,kd.2.length<=4):(mks K).length<=16:=by
 have:∀K:Kd,(∀kd∈K,kd.2.length<=4)->(mks K).length<=4*K.length:=by
  intro K
  induction K with
  |nil=>intro _;simp[mks]
  |cons kd K ih =>
   intro h;have:=ih λkd m=>h kd (ao _ m)
   have h1:=h kd aN;unfold mks at this ⊢;rw[List.flatMap_cons,bg,ar,aX]
   lia
 have:=this K hr
 lia
theorem FG(D R:Kd):mks (D++R)=mks D++mks R:=by unfold mks;rw[List.flatMap_append]
theorem Eb(kd:Str×List (Str×List Str))(R:Kd):mks (kd::R)=kd.2.map (·.1)++mks R:=by unfold mks;rw[List.flatMap_cons]
theorem OX{rs:List (Str×List Str)}(h:(rs.map (·.1)).Nodup){r r':Str×List Str}(m:r∈rs)(m':r'∈rs)(e:r.1=r'.1):r=r':=by
 induction rs with
 |nil=>cases m
 |cons a rs ih =>
  rw[aj,bh]at h;rcases aH.mp m with q|q
  .rcases aH.mp m' with q'|q'
   .rw[q,q']
   .exact(h.1 (aI.mpr ⟨r',q',by rw[<- e,q]⟩)).elim
  .rcases aH.mp m' with q'|q'
   .exact(h.1 (aI.mpr ⟨r,q,by rw[e,q']⟩)).elim
   .exact ih h.2 q q'
noncomputable def Cq(r:Str×List Str):Key:=.inr r.1
theorem JT{sc:T}{names above:List Str}{ks0:List Key}{vs0:List T}{k first:Str}{rows:List (Str×List Str)}{x7 x8:Option Sl}(f7:Fre x7)(f8:Fre x8)
  (hnm:∀r∈rows,AQ [vl (.str r.1)]=.ok (.t (.o true)) [vl (.str r.1)]) (hnd:(ks0++rows.map Cq).Nodup) (hlen:ks0.length+rows.length<1000) (h2:∀r∈rows,r.2.length<=2) (hp:∀r∈rows,∀x∈r.2,x∈names) (hg:∀r∈rows,r.1=first->∀x∈r.2,x∈above) :
  ∃(y7 y8:Option Sl)(vs:List T),Fre y7/\Fre y8/\GX (AA 2 (Ad (tgN 7) (Ad (tgN 8) Av))) (Am (AM (Af (Ah 4 AU) (Ae (fz (Aa 7)) (Ae (fz (Aa 8)) (Ae (Aa 3) (Ae (fz (Aa 1)) Aj))))))
  (Am (ifS (asB (Ag (gEq false) (Aa 7) (Aa 6))) (AM (Af (Ah 3 AN) (Ae (fz (Aa 7)) (Ae (fz (Aa 8)) (Ae (Aa 2) Aj))))) nxS)
  (Ca (gc (.o true)) (Aa 3) (fz (Aa 7))))) (rows.map CB) [vl sc,vl (.lst (names.map T.str)),some (.own (.lst (above.map T.str))),some (.own (.l ks0 vs0)),vl (.str k),vl (.lst (rows.map CB)),vl (.str first),x7,x8] =
   .nx [vl sc,vl (.lst (names.map T.str)),some (.own (.lst (above.map T.str))),some (.own (.l (ks0++rows.map Cq) vs)),vl (.str k),vl (.lst (rows.map CB)),vl (.str first),y7,y8]:=by
 obtain⟨fs',ef,D,R,y7,y8,vs,rfl,eD,eR,g7,g8⟩:=Dd (gt:=AA 2 (Ad (tgN 7) (Ad (tgN 8) Av))) (body:=Am (AM (Af (Ah 4 AU) (Ae (fz (Aa 7)) (Ae (fz (Aa 8)) (Ae (Aa 3) (Ae (fz (Aa 1)) Aj))))))
  (Am (ifS (asB (Ag (gEq false) (Aa 7) (Aa 6))) (AM (Af (Ah 3 AN) (Ae (fz (Aa 7)) (Ae (fz (Aa 8)) (Ae (Aa 2) Aj))))) nxS)
  (Ca (gc (.o true)) (Aa 3) (fz (Aa 7)))))
  (λts fs=>∃(D R:List (Str×List Str))(y7 y8:Option Sl)(vs:List T),fs=[vl sc,vl (.lst (names.map T.str)),some (.own (.lst (above.map T.str))),some (.own (.l (ks0++D.map Cq) vs)),vl (.str k),vl (.lst (rows.map CB)),vl (.str first),y7,y8]/\D++R=rows/\ts=R.map CB/\Fre y7/\Fre y8)
  (λt' ts fs h=>by
   obtain⟨D,R,y7,y8,vs,rfl,eD,eR,g7,g8⟩:=h;cases R with
   |nil=>cases eR
   |cons r R =>
    rw[aj]at eR;obtain⟨e1,e2⟩:=List.cons.inj eR;subst e1;have hm:r∈rows:=by rw[<- eD];simp
    have hnot:(.inr r.1:Key)∉ks0++D.map Cq:=by rw[<- eD,aq,aj,<- bu,ah]at hnd;intro m;exact hnd.2.2 _ m (Cq r) (by simp) rfl
    have hl:(ks0++D.map Cq).length<big:=by
     have:=congrArg List.length eD;simp at this;rw[bg,ar];show _<1000000
     lia
    refine⟨[vl sc,vl (.lst (names.map T.str)),some (.own (.lst (above.map T.str))),some (.own (.l (ks0++D.map Cq) vs)),vl (.str k),vl (.lst (rows.map CB)),vl (.str first),vl (.str r.1),vl (.tup (r.2.map T.str))],
     [vl sc,vl (.lst (names.map T.str)),some (.own (.lst (above.map T.str))),some (.own (.l (ks0++D.map Cq++[.inr r.1]) (vs++[.o true]))),vl (.str k),vl (.lst (rows.map CB)),vl (.str first),vl (.str r.1),vl (.tup (r.2.map T.str))],D5 (by unfold tgN;exact By rfl g7) (by unfold tgN;exact By rfl g8),?_,D++[r],R,vl (.str r.1),vl (.tup (r.2.map T.str)),vs++[.o true],?_,by rw[<- eD];simp,e2,An,An⟩
    .refine sq (Dx (Fe (Bu (BH (Al (t:=.str r.1) rfl)) (Bu (BH (Al (t:=.tup (r.2.map T.str)) rfl)) (Bu (Cf (i:=3) rfl) (Bu (BH (Al (t:=.lst (names.map T.str)) rfl)) Cc)))) rfl (by rw[show Dj _ _=[3]from rfl];simp) (Cv (hnm r hm) hnot (h2 r hm) (hp r hm)) rfl)) ?_;refine sq (fs':=[vl sc,vl (.lst (names.map T.str)),some (.own (.lst (above.map T.str))),some (.own (.l (ks0++D.map Cq) vs)),vl (.str k),vl (.lst (rows.map CB)),vl (.str first),vl (.str r.1),vl (.tup (r.2.map T.str))]) ?_ ?_
     .by_cases hf:r.1=first
      .refine NH ((K5 (Al (t:=.str r.1) rfl) (Al (t:=.str first) rfl)).trans (by rw[aV hf])) ?_;exact Dx (Fe (Bu (BH (Al (t:=.str r.1) rfl)) (Bu (BH (Al (t:=.tup (r.2.map T.str)) rfl)) (Bu (Cf (i:=2) rfl) Cc))) rfl (by rw[show Dj _ _=[2]from rfl];simp) (B6 (hg r hm hf)) rfl)
      .exact DW ((K5 (Al (t:=.str r.1) rfl) (Al (t:=.str first) rfl)).trans (by rw[aT hf])) rfl
     .exact MS (o:=3) (v:=.o true) (k:=r.1) rfl B9 (BH (Al rfl)) (any_false hnot) hl rfl
    .rw[aq,<- bu];rfl)
  (rows.map CB) [vl sc,vl (.lst (names.map T.str)),some (.own (.lst (above.map T.str))),some (.own (.l ks0 vs0)),vl (.str k),vl (.lst (rows.map CB)),vl (.str first),x7,x8] ⟨[],rows,x7,x8,vs0,by simp,rfl,rfl,f7,f8⟩
 have hR:R=[]:=by cases R with|nil=>rfl|cons a b=>cases eR
 subst hR;rw[bj]at eD;subst eD;exact⟨y7,y8,vs,g7,g8,ef⟩
theorem Ez(D:Kd)(kd:Str×List (Str×List Str)):AW (D++[kd])=AW D++kd.2.map Cq:=by unfold AW;rw[FG,Eb,aq,aq,aU];simp[mks,Cq,Function.comp_def]
theorem BB{xs:List Str}(h:xs.Nodup):(xs.map λm=>(.inr m:Key)).Nodup:=by
 induction xs with
 |nil=>simp
 |cons x xs ih =>
  rw[bh]at h;rw[aj,bh];refine⟨λm=>?_,ih h.2⟩;rw[aI]at m;obtain⟨y,my,e⟩:=m;have:y=x:=by simpa using e
  exact h.1 (this▸my)
theorem Well.part{K:Kd}(W:Well K){D R:Kd}{kd:Str×List (Str×List Str)}(e:D++kd::R=K):(AW D++kd.2.map Cq).Nodup/\(AW D).length+kd.2.length<1000/\kd∈K/\(kd.2.map (·.1)).Nodup:=by
 have h:=W.yO;have hl:=JP W.hi λkd m=>(W.rw kd m).2
 rw[<- e,FG,Eb]at h hl;refine⟨?_,?_,by rw[<- e];simp,?_⟩
 .rw[<- Ez];refine BB ?_;rw[FG,Eb];simp only[mks,List.flatMap_nil,bj];rw[<- bu]at h;exact(ah.mp h).1
 .unfold AW;rw[ar];simp at hl
  lia
 .exact(ah.mp (ah.mp h).2.1).1
theorem B5{K:Kd}(W:Well K):Br [vl (.lst (K.map As))]=.ok (.t .v) [vl (.lst (K.map As))]:=by
 have all:∃x1 x2 x3 x4 x5 x6 x7 x8,BV [vl (.lst (K.map As)),none,none,none,none,none,none,none,none]=.nx [vl (.lst (K.map As)),x1,x2,x3,x4,x5,x6,x7,x8]:=by
  unfold BV;have c1:Bs false [none,none] (itU (fz (Aa 0))) (AA 2 (Ad (tgN 0) (Ad (tgN 1) Av))) DK (fz (Aa 0)) [vl (.lst (K.map As)),none,none,none,none,none,none,none,none]=.ok (.t (.lst ((K.map (·.1)).map T.str))) [vl (.lst (K.map As)),none,none,none,none,none,none,none,none]:=by obtain⟨x,y,_,_,e⟩:=F8 (fe:=fz (Aa 0)) (f:=λkd:Str×List (Str×List Str)=>.str kd.1) (g:=λkd=>.lst (kd.2.map CB)) (h:=λkd=>.str kd.1) (rest:=[]) K none none [] AH AH (λkd _=>BH (Al rfl)) (by have:=W.hi;show 0+_<=1000000;lia);have:=Kf (src:=[none,none]) (fi:=itU (fz (Aa 0))) (fs:=[vl (.lst (K.map As)),none,none,none,none,none,none,none,none]) (ts:=K.map As) rfl ⟨by rw[show Dj [vl (.lst (K.map As)),none,none,none,none,none,none,none,none] _=[]from rfl];exact aW,by rfl⟩ e (Bt rfl);rw[this,bN,aU];rfl
  have s1:AK 1 (Bs false [none,none] (itU (fz (Aa 0))) (AA 2 (Ad (tgN 0) (Ad (tgN 1) Av))) DK (fz (Aa 0))) [vl (.lst (K.map As)),none,none,none,none,none,none,none,none]=.nx [vl (.lst (K.map As)),vl (.lst ((K.map (·.1)).map T.str)),none,none,none,none,none,none,none]:=Hq c1 rfl;generalize hN:K.map (·.1)=names at s1;obtain⟨fs',ef,D,R,x4,x5,x6,x7,x8,vs,rfl,eD,eR,g4,g5,g6,g7,g8⟩:=Dd (gt:=AA 2 (Ad (tgN 4) (Ad (tgN 5) Av))) (body:=(Am (AK 6 (Ag AZ (Ag AZ (Aa 5) (gc (.int 0))) (gc (.int 0))))
  (Am (Dk (itU (fz (Aa 5))) (AA 2 (Ad (tgN 7) (Ad (tgN 8) Av))) (Am (AM (Af (Ah 4 AU) (Ae (fz (Aa 7)) (Ae (fz (Aa 8)) (Ae (Aa 3) (Ae (fz (Aa 1)) Aj))))))
  (Am (ifS (asB (Ag (gEq false) (Aa 7) (Aa 6))) (AM (Af (Ah 3 AN) (Ae (fz (Aa 7)) (Ae (fz (Aa 8)) (Ae (Aa 2) Aj))))) nxS)
  (Ca (gc (.o true)) (Aa 3) (fz (Aa 7))))))
  (AM (Bv E1 (Aa 2) (Ab (fz (Aa 4)) Aj))))))
   (λts fs=>∃(D R:Kd)(x4 x5 x6 x7 x8:Option Sl)(vs:List T),fs=[vl (.lst (K.map As)),vl (.lst (names.map T.str)),some (.own (.lst ((D.map (·.1)).map T.str))),some (.own (.l (AW D) vs)),x4,x5,x6,x7,x8]/\D++R=K/\ts=R.map As/\Fre x4/\Fre x5/\Fre x6/\Fre x7/\Fre x8)
   (λt' ts fs h=>by
    obtain⟨D,R,x4,x5,x6,x7,x8,vs,rfl,eD,eR,g4,g5,g6,g7,g8⟩:=h;cases R with
    |nil=>cases eR
    |cons kd R =>
     rw[aj]at eR;obtain⟨e1,e2⟩:=List.cons.inj eR;subst e1;obtain⟨w1,w2,hm,w3⟩:=W.part eD;obtain⟨r0,rs,er⟩:∃r0 rs,kd.2=r0::rs:=by have:=(W.rw kd hm).1;cases h:kd.2 with|nil=>rw[h]at this;simp at this|cons a b=>exact⟨a,b,rfl⟩
     obtain⟨y7,y8,vs',f7,f8,el⟩:=JT (sc:=.lst (K.map As)) (names:=names) (above:=D.map (·.1)) (ks0:=AW D) (vs0:=vs) (k:=kd.1) (first:=r0.1) (rows:=kd.2) (x7:=x7) (x8:=x8) g7 g8 (λr m=>W.yK _ (Tg hm m)) w1 w2 (W.two kd hm) (λr m x hx=>hN▸W.za kd hm r m x hx) (λr m e x hx=>by have:r=r0:=OX w3 m (by rw[er];simp) e;subst this;exact W.gr D kd R eD.symm r (by rw[er];rfl) x hx);refine⟨[vl (.lst (K.map As)),vl (.lst (names.map T.str)),some (.own (.lst ((D.map (·.1)).map T.str))),some (.own (.l (AW D) vs)),vl (.str kd.1),vl (.lst (kd.2.map CB)),x6,x7,x8],[vl (.lst (K.map As)),vl (.lst (names.map T.str)),some (.own (.lst ((D.map (·.1)).map T.str++[.str kd.1]))),some (.own (.l (AW D++kd.2.map Cq) vs')),vl (.str kd.1),vl (.lst (kd.2.map CB)),vl (.str r0.1),y7,y8],D5 (by unfold tgN;exact By rfl g4) (by unfold tgN;exact By rfl g5),?_,D++[kd],R,vl (.str kd.1),vl (.lst (kd.2.map CB)),vl (.str r0.1),y7,y8,vs',?_,by rw[<- eD];simp,e2,An,An,An,f7,f8⟩
     .have q1:atI (kd.2.map CB) 0=some (CB r0):=BG (j:=0) (by rw[er];rfl);refine sq (Hq (Au (Au (Al rfl) B9 (HJ rfl q1)) B9 (show AZ (.t (CB r0)) (.t (.int 0)) _=.ok (.t (.str r0.1)) _ from rfl)) (By rfl g6)) ?_;refine sq (show Dk _ _ _ _=_ from el) ?_;exact X5 (i:=2) rfl (BH (Al rfl)) (by
       have:=congrArg List.length eD;have h4:=W.hi;simp at this;rw[ar,ar];show _<1000000
       lia) rfl
     .rw[Ez,aq,aq];rfl)
   (K.map As) [vl (.lst (K.map As)),vl (.lst (names.map T.str)),some (.own (.lst [])),some (.own (.l [] [])),none,none,none,none,none] ⟨[],K,none,none,none,none,none,[],rfl,rfl,rfl,AH,AH,AH,AH,AH⟩
  refine⟨vl (.lst (names.map T.str)),some (.own (.lst ((D.map (·.1)).map T.str))),some (.own (.l (AW D) vs)),x4,x5,x6,x7,x8,?_⟩;refine sq s1 ?_;refine sq (fs':=[vl (.lst (K.map As)),vl (.lst (names.map T.str)),some (.own (.lst [])),none,none,none,none,none,none]) rfl ?_;exact sq (fs':=[vl (.lst (K.map As)),vl (.lst (names.map T.str)),some (.own (.lst [])),some (.own (.l [] [])),none,none,none,none,none]) rfl ef
 obtain⟨x1,x2,x3,x4,x5,x6,x7,x8,all⟩:=all;unfold Br Bl;show(match BV [vl (.lst (K.map As)),none,none,none,none,none,none,none,none]with|.nx τ=>_|.ret (.t t) τ=>_|.ret (.nw o) τ=>_|.ret (.n i) τ=>_|.exc c τ=>_|_=>_)=_;rw[all];rfl
theorem NX{C:Addr}{f:Str}{i:Nat}{fv:FS->Out Rv}{fs fs1 fs':FS}{gs gs':List Str}{os os':List FO}{o:FO}(hv:fv fs=.ok (.nw o) fs1)(h0:fs1[i]?=some (some (.bor (.ins C gs os))))(hl:gs.length<900)(hp:EX gs os f o=some (gs',os'))(e:fs1.set i (some (.bor (.ins C gs' os')))=fs'):HL C f i fv fs=.nx fs':=by unfold HL;rw[hv];simp only[SO.of,Yb,Rc h0];rw[if_pos ⟨trivial,hl⟩,hp];simp only;unfold FL.putAt;rw[h0];simp only[Sl.put,e]
theorem HP{C:Addr}{f:Str}{i j:Nat}{fv:FS->Out Rv}{fs fs1 fs':FS}{gs:List Str}{os:List FO}{ks:List Key}{ts:List T}{k:Str}{t:T}(hv:fv fs=.ok (.t t) fs1)(h0:fs1[i]?=some (some (.bor (.ins C gs os))))(hj:fs1[j]?=some (vl (.str k)))(hf:Bn gs os f=some (.l ks ts))(hn:(.inr k:Key)∉ks)(hl:ks.length<big)
  (e:fs1.set i (some (.bor (.ins C gs (BK gs os f (.l (ks++[.inr k]) (ts++[t]))))))=fs'):BI C f i j fv fs=.nx fs':=by
 have h3:Ew ks ts (.inr k:Key) t=(ks++[.inr k],ts++[t]):=by unfold Ew;rw[any_false hn];rfl
 unfold BI;rw[hv];simp only[SO.of,Rc h0,hj,Gm,hf,if_true,hl,h3];unfold FL.putAt;rw[h0];simp only[Sl.put,e]
noncomputable def Ia(rows:List (Str×List Str)):List T:=rows.map λr=>T.tup (r.2.map T.str)
noncomputable def Ht(K:Kd):List T:=K.flatMap λkd=>Ia kd.2
noncomputable def LY(k:Str)(rows:List (Str×List Str)):List T:=rows.map λ_=>T.str k
noncomputable def DN(K:Kd):List T:=K.flatMap λkd=>LY kd.1 kd.2
noncomputable def Dt(K:Kd):List T:=K.map λkd=>T.lst ((kd.2.map (·.1)).map T.str)
theorem MV(D:Kd)(kd:Str×List (Str×List Str)):Ht (D++[kd])=Ht D++Ia kd.2:=by unfold Ht;simp
theorem ND{C:Addr}{A B H:Str}(hAB:A≠B)(hAH:A≠H)(hBH:B≠H){oA:FO}{sc mk:T}{k:Str}{rows:List (Str×List Str)}{ks0:List Key}{ps0 hs0:List T}{x4 x5:Option Sl}(f4:Fre x4)(f5:Fre x5)(hnd:(ks0++rows.map Cq).Nodup)(hlen:ks0.length+rows.length<1000) :
  ∃(y4 y5:Option Sl)(hs:List T),hs=hs0++LY k rows/\Fre y4/\Fre y5/\GX (AA 2 (Ad (tgN 4) (Ad (tgN 5) Av))) (Am (BI C B 0 4 (Af A9 (Ab (Aa 5) Aj)))
  (BI C H 0 4 (fz (Aa 2)))) (rows.map CB) [some (.bor (.ins C [A,B,H] [oA,.l ks0 ps0,.l ks0 hs0])),vl sc,vl (.str k),vl mk,x4,x5] =
   .nx [some (.bor (.ins C [A,B,H] [oA,.l (ks0++rows.map Cq) (ps0++Ia rows),.l (ks0++rows.map Cq) hs])),vl sc,vl (.str k),vl mk,y4,y5]:=by
 obtain⟨fs',ef,D,R,y4,y5,hs,rfl,eD,eR,g4,g5,eh⟩:=Dd (gt:=AA 2 (Ad (tgN 4) (Ad (tgN 5) Av))) (body:=Am (BI C B 0 4 (Af A9 (Ab (Aa 5) Aj)))
  (BI C H 0 4 (fz (Aa 2))))
  (λts fs=>∃(D R:List (Str×List Str))(y4 y5:Option Sl)(hs:List T),fs=[some (.bor (.ins C [A,B,H] [oA,.l (ks0++D.map Cq) (ps0++Ia D),.l (ks0++D.map Cq) hs])),vl sc,vl (.str k),vl mk,y4,y5]/\D++R=rows/\ts=R.map CB/\Fre y4/\Fre y5/\hs=hs0++LY k D)
  (λt' ts fs h=>by
   obtain⟨D,R,y4,y5,hs,rfl,eD,eR,g4,g5,eh⟩:=h;cases R with
   |nil=>cases eR
   |cons r R =>
    rw[aj]at eR;obtain⟨e1,e2⟩:=List.cons.inj eR;subst e1;have hnot:(.inr r.1:Key)∉ks0++D.map Cq:=by rw[<- eD,aq,aj,<- bu,ah]at hnd;intro m;exact hnd.2.2 _ m (Cq r) (by simp) rfl
    have hl:(ks0++D.map Cq).length<big:=by
     have:=congrArg List.length eD;simp at this;rw[bg,ar];show _<1000000
     lia
    have v1:Bn [A,B,H] [oA,.l (ks0++D.map Cq) (ps0++Ia D),.l (ks0++D.map Cq) hs] B=some (.l (ks0++D.map Cq) (ps0++Ia D)):=by simp[Bn,Ne.symm hAB]
    have s1:BK [A,B,H] [oA,.l (ks0++D.map Cq) (ps0++Ia D),.l (ks0++D.map Cq) hs] B (.l (ks0++D.map Cq++[.inr r.1]) (ps0++Ia D++[.tup (r.2.map T.str)]))=[oA,.l (ks0++D.map Cq++[.inr r.1]) (ps0++Ia D++[.tup (r.2.map T.str)]),.l (ks0++D.map Cq) hs]:=by simp[BK,Ne.symm hAB]
    have v2:Bn [A,B,H] [oA,.l (ks0++D.map Cq++[.inr r.1]) (ps0++Ia D++[.tup (r.2.map T.str)]),.l (ks0++D.map Cq) hs] H=some (.l (ks0++D.map Cq) hs):=by simp[Bn,Ne.symm hAH,Ne.symm hBH]
    have s2:BK [A,B,H] [oA,.l (ks0++D.map Cq++[.inr r.1]) (ps0++Ia D++[.tup (r.2.map T.str)]),.l (ks0++D.map Cq) hs] H (.l (ks0++D.map Cq++[.inr r.1]) (hs++[.str k]))=[oA,.l (ks0++D.map Cq++[.inr r.1]) (ps0++Ia D++[.tup (r.2.map T.str)]),.l (ks0++D.map Cq++[.inr r.1]) (hs++[.str k])]:=by simp[BK,Ne.symm hAH,Ne.symm hBH]
    refine⟨[some (.bor (.ins C [A,B,H] [oA,.l (ks0++D.map Cq) (ps0++Ia D),.l (ks0++D.map Cq) hs])),vl sc,vl (.str k),vl mk,vl (.str r.1),vl (.tup (r.2.map T.str))],[some (.bor (.ins C [A,B,H] [oA,.l (ks0++D.map Cq++[.inr r.1]) (ps0++Ia D++[.tup (r.2.map T.str)]),.l (ks0++D.map Cq++[.inr r.1]) (hs++[.str k])])),vl sc,vl (.str k),vl mk,vl (.str r.1),vl (.tup (r.2.map T.str))],D5 (by unfold tgN;exact By rfl g4) (by unfold tgN;exact By rfl g5),?_,D++[r],R,vl (.str r.1),vl (.tup (r.2.map T.str)),hs++[.str k],?_,by rw[<- eD];simp,e2,An,An,by rw[eh];simp[LY]⟩
    .refine sq (HP (t:=.tup (r.2.map T.str)) (Er (DI (Al rfl) rfl) rfl) rfl rfl v1 hnot hl rfl) ?_;rw[s1];refine HP (t:=.str k) (BH (Al rfl)) rfl rfl v2 hnot hl ?_;rw[s2];rfl
    .unfold Ia;rw[aq,aq,<- bu,<- bu];rfl)
  (rows.map CB) [some (.bor (.ins C [A,B,H] [oA,.l ks0 ps0,.l ks0 hs0])),vl sc,vl (.str k),vl mk,x4,x5] ⟨[],rows,x4,x5,hs0,by simp[Ia],rfl,rfl,f4,f5,by simp[LY]⟩
 have hR:R=[]:=by cases R with|nil=>rfl|cons a b=>cases eR
 subst hR;rw[bj]at eD;subst eD;exact⟨y4,y5,hs,eh,g4,g5,ef⟩
theorem E9:("makers_by_kind":Str)≠("parts_by_maker":Str)/\("makers_by_kind":Str)≠("home_by_maker":Str)/\("parts_by_maker":Str)≠("home_by_maker":Str):=by decide +kernel
noncomputable def Kt(C:Addr)(K:Kd)(hs:List T):FO:=.ins C ["makers_by_kind","parts_by_maker","home_by_maker"] [.l (Bo K) (Dt K),.l (AW K) (Ht K),.l (AW K) hs]
theorem LB{C:Addr}{K:Kd}(W:Well K):B2 C [some (.bor (.ins C [] [])),vl (.lst (K.map As))]=.ok (.t .v) [some (.bor (Kt C K (DN K))),vl (.lst (K.map As))]:=by
 have hck:=Cw W.lo W.hi W.nd W.nm W.rw;have hcm:=B5 W;have all:∃hs x2 x3 x4 x5,hs=DN K/\CO C [some (.bor (.ins C [] [])),vl (.lst (K.map As)),none,none,none,none]=.nx [some (.bor (Kt C K hs)),vl (.lst (K.map As)),x2,x3,x4,x5]:=by
  unfold CO Kt;obtain⟨hAB,hAH,hBH⟩:=E9;generalize ("makers_by_kind":Str)=A at hAB hAH ⊢;generalize ("parts_by_maker":Str)=B at hAB hBH ⊢;generalize ("home_by_maker":Str)=H at hAH hBH ⊢;obtain⟨fs',ef,D,R,x2,x3,x4,x5,hs,rfl,eD,eR,g2,g3,g4,g5,eh⟩:=Dd (gt:=AA 2 (Ad (tgN 2) (Ad (tgN 3) Av))) (body:=(Am (BI C A 0 2 (Bs false [none,none] (itU (fz (Aa 3))) (AA 2 (Ad (tgN 0) (Ad (tgN 1) Av))) DK (fz (Aa 0))))
  (Dk (itU (fz (Aa 3))) (AA 2 (Ad (tgN 4) (Ad (tgN 5) Av))) (Am (BI C B 0 4 (Af A9 (Ab (Aa 5) Aj)))
  (BI C H 0 4 (fz (Aa 2)))))))
   (λts fs=>∃(D R:Kd)(x2 x3 x4 x5:Option Sl)(hs:List T),fs=[some (.bor (.ins C [A,B,H] [.l (Bo D) (Dt D),.l (AW D) (Ht D),.l (AW D) hs])),vl (.lst (K.map As)),x2,x3,x4,x5]/\D++R=K/\ts=R.map As/\Fre x2/\Fre x3/\Fre x4/\Fre x5/\hs=DN D)
   (λt' ts fs h=>by
    obtain⟨D,R,x2,x3,x4,x5,hs,rfl,eD,eR,g2,g3,g4,g5,eh⟩:=h;cases R with
    |nil=>cases eR
    |cons kd R =>
     rw[aj]at eR;obtain⟨e1,e2⟩:=List.cons.inj eR;subst e1;obtain⟨w1,w2,hm,w3⟩:=W.part eD;have hnd:=W.nd;have hnot:(.inr kd.1:Key)∉Bo D:=by
      intro m;unfold Bo at m;rw[aI]at m;obtain⟨kd',m',e'⟩:=m;have e'':kd'.1=kd.1:=by simpa using e'
      rw[<- eD,aq,ah]at hnd;exact hnd.2.2 kd'.1 (aI.mpr ⟨kd',m',rfl⟩) kd.1 (by simp) e''
     have hlen:(Bo D).length<big:=by
      unfold Bo;rw[ar];have:=congrArg List.length eD;have h4:=W.hi;simp at this;show D.length<1000000
      lia
     have v1:Bn [A,B,H] [.l (Bo D) (Dt D),.l (AW D) (Ht D),.l (AW D) hs] A=some (.l (Bo D) (Dt D)):=by simp[Bn]
     have s1:BK [A,B,H] [.l (Bo D) (Dt D),.l (AW D) (Ht D),.l (AW D) hs] A (.l (Bo D++[.inr kd.1]) (Dt D++[.lst ((kd.2.map (·.1)).map T.str)]))=[.l (Bo D++[.inr kd.1]) (Dt D++[.lst ((kd.2.map (·.1)).map T.str)]),.l (AW D) (Ht D),.l (AW D) hs]:=by simp[BK]
     have c1:Bs false [none,none] (itU (fz (Aa 3))) (AA 2 (Ad (tgN 0) (Ad (tgN 1) Av))) DK (fz (Aa 0)) [some (.bor (.ins C [A,B,H] [.l (Bo D) (Dt D),.l (AW D) (Ht D),.l (AW D) hs])),vl (.lst (K.map As)),vl (.str kd.1),vl (.lst (kd.2.map CB)),x4,x5]=.ok (.t (.lst ((kd.2.map (·.1)).map T.str))) [some (.bor (.ins C [A,B,H] [.l (Bo D) (Dt D),.l (AW D) (Ht D),.l (AW D) hs])),vl (.lst (K.map As)),vl (.str kd.1),vl (.lst (kd.2.map CB)),x4,x5]:=by obtain⟨x,y,_,_,e⟩:=F8 (fe:=fz (Aa 0)) (f:=λr:Str×List Str=>.str r.1) (g:=λr=>.tup (r.2.map T.str)) (h:=λr=>.str r.1) (rest:=[]) kd.2 none none [] AH AH (λkd _=>BH (Al rfl)) (by have:=(W.rw kd hm).2;show 0+_<=1000000;lia);have:=Kf (src:=[none,none]) (fi:=itU (fz (Aa 3))) (fs:=[some (.bor (.ins C [A,B,H] [.l (Bo D) (Dt D),.l (AW D) (Ht D),.l (AW D) hs])),vl (.lst (K.map As)),vl (.str kd.1),vl (.lst (kd.2.map CB)),x4,x5]) (ts:=kd.2.map CB) rfl ⟨by rw[show Dj _ (List.map _ [none,none])=[]from rfl];exact aW,by rfl⟩ e (Bt rfl);rw[this,bN,aU];rfl
     obtain⟨y4,y5,hs',eh',f4,f5,el⟩:=ND (C:=C) hAB hAH hBH (oA:=.l (Bo D++[.inr kd.1]) (Dt D++[.lst ((kd.2.map (·.1)).map T.str)])) (sc:=.lst (K.map As)) (mk:=.lst (kd.2.map CB)) (k:=kd.1) (rows:=kd.2) (ks0:=AW D) (ps0:=Ht D) (hs0:=hs) (x4:=x4) (x5:=x5) g4 g5 w1 w2;refine⟨[some (.bor (.ins C [A,B,H] [.l (Bo D) (Dt D),.l (AW D) (Ht D),.l (AW D) hs])),vl (.lst (K.map As)),vl (.str kd.1),vl (.lst (kd.2.map CB)),x4,x5],[some (.bor (.ins C [A,B,H] [.l (Bo D++[.inr kd.1]) (Dt D++[.lst ((kd.2.map (·.1)).map T.str)]),.l (AW D++kd.2.map Cq) (Ht D++Ia kd.2),.l (AW D++kd.2.map Cq) hs'])),vl (.lst (K.map As)),vl (.str kd.1),vl (.lst (kd.2.map CB)),y4,y5],D5 (by unfold tgN;exact By rfl g2) (by unfold tgN;exact By rfl g3),?_,D++[kd],R,vl (.str kd.1),vl (.lst (kd.2.map CB)),y4,y5,hs',?_,by rw[<- eD];simp,e2,An,An,f4,f5,by rw[eh',eh];simp[DN]⟩
     .refine sq (HP (t:=.lst ((kd.2.map (·.1)).map T.str)) c1 rfl rfl v1 hnot hlen rfl) ?_;rw[s1];exact el
     .rw[Ez,MV];unfold Bo Dt;rw[aq,aq];rfl)
   (K.map As) [some (.bor (.ins C [A,B,H] [.l [] [],.l [] [],.l [] []])),vl (.lst (K.map As)),none,none,none,none] ⟨[],K,none,none,none,none,[],rfl,rfl,rfl,AH,AH,AH,AH,rfl⟩
  have hR:R=[]:=by cases R with|nil=>rfl|cons a b=>cases eR
  subst hR;rw[bj]at eD;subst eD;refine⟨hs,x2,x3,x4,x5,eh,?_⟩;refine sq (Dx (QI (Bu (BH (Al (t:=.lst (D.map As)) rfl)) Cc) rfl rfl hck)) ?_;refine sq (Dx (QI (Bu (BH (Al (t:=.lst (D.map As)) rfl)) Cc) rfl rfl hcm)) ?_;refine sq (fs':=[some (.bor (.ins C [A] [.l [] []])),vl (.lst (D.map As)),none,none,none,none]) (NX (o:=.l [] []) rfl rfl (show 0<900 by decide) rfl rfl) ?_;refine sq (fs':=[some (.bor (.ins C [A,B] [.l [] [],.l [] []])),vl (.lst (D.map As)),none,none,none,none]) (NX (o:=.l [] []) rfl rfl (show 1<900 by decide) (by simp[EX,hAB]) rfl) ?_;refine sq (fs':=[some (.bor (.ins C [A,B,H] [.l [] [],.l [] [],.l [] []])),vl (.lst (D.map As)),none,none,none,none]) (NX (o:=.l [] []) rfl rfl (show 2<900 by decide) (by simp[EX,hAH,hBH]) rfl) ?_;exact ef
 obtain⟨hs,x2,x3,x4,x5,eh,all⟩:=all;subst eh;unfold B2 Bl;show(match CO C [some (.bor (.ins C [] [])),vl (.lst (K.map As)),none,none,none,none]with|.nx τ=>_|.ret (.t t) τ=>_|.ret (.nw o) τ=>_|.ret (.n i) τ=>_|.exc c τ=>_|_=>_)=_;rw[all];rfl
noncomputable def A5(C:Addr)(K:Kd)(hs:List T):T:=.ins C ["makers_by_kind","parts_by_maker","home_by_maker"] [.l (Bo K) (Dt K),.l (AW K) (Ht K),.l (AW K) hs]
theorem NY{C:Addr}{K:Kd}{hs:List T}{i:Nat}{fs:FS}(h:fs[i]?=some (vl (A5 C K hs))):DD C "makers_by_kind" (Aa i) fs=.ok (.t (.l (Bo K) (Dt K))) fs:=by unfold DD;rw[Al h];obtain⟨hAB,hAH,hBH⟩:=E9;unfold A5;generalize ("makers_by_kind":Str)=A at *;simp[Out.bnd,Out.bind,WW,EN,okT]
theorem Rn{C:Addr}{K:Kd}{hs:List T}{i:Nat}{fs:FS}(h:fs[i]?=some (vl (A5 C K hs))):DD C "parts_by_maker" (Aa i) fs=.ok (.t (.l (AW K) (Ht K))) fs:=by unfold DD;rw[Al h];obtain⟨hAB,hAH,hBH⟩:=E9;unfold A5;generalize ("makers_by_kind":Str)=A at *;generalize ("parts_by_maker":Str)=B at *;simp[Out.bnd,Out.bind,WW,EN,okT,Ne.symm hAB]
theorem Hm{C:Addr}{K:Kd}{hs:List T}:A8 C [vl (A5 C K hs)]=.ok (.nw (.lst ((K.map (·.1)).map T.str))) [vl (A5 C K hs)]:=by
 have all:Cm C [vl (A5 C K hs)]=.ret (.nw (.lst ((K.map (·.1)).map T.str))) [vl (A5 C K hs)]:=by unfold Cm;refine B7 (Er (DI (NY rfl) rfl) ?_);show Out.ok (Rv.nw (.lst ((Bo K).map Mn))) _=_;unfold Bo;rw[aU,aU];rfl
 unfold A8 Bl;show(match Cm C [vl (A5 C K hs)]with|.nx τ=>_|.ret (.t t) τ=>_|.ret (.nw o) τ=>_|.ret (.n i) τ=>_|.exc c τ=>_|_=>_)=_;rw[all];rfl
theorem JW{K:Kd}(W:Well K):(K.map λkd=>(.inr kd.1:Key)).Nodup:=by have:=BB W.nd;rwa[aU]at this
theorem val_mk{K:Kd}(W:Well K){kd:Str×List (Str×List Str)}(m:kd∈K):CD (Bo K) (Dt K) (.inr kd.1:Key)=some (.lst ((kd.2.map (·.1)).map T.str)) :=
 BY (f:=λkd:Str×List (Str×List Str)=>(.inr kd.1:Key)) (g:=λkd:Str×List (Str×List Str)=>T.lst ((kd.2.map (λr:Str×List Str=>r.1)).map T.str)) m (JW W)
noncomputable def allR(K:Kd):List (Str×List Str):=K.flatMap (·.2)
theorem FH(K:Kd):AW K=(allR K).map Cq:=by unfold AW mks allR;rw[b9,b9];simp only[aU];rfl
theorem KC(K:Kd):Ht K=(allR K).map λr=>T.tup (r.2.map T.str):=by unfold Ht Ia allR;rw[b9]
theorem QU{K:Kd}(W:Well K){kd:Str×List (Str×List Str)}{r:Str×List Str}(m:kd∈K)(m2:r∈kd.2):CD (AW K) (Ht K) (.inr r.1:Key)=some (.tup (r.2.map T.str)):=by have h:=BB W.yO;have h2:=FH K;unfold AW at h2;rw[h2]at h;rw[FH,KC];exact BY (f:=Cq) (g:=λr=>T.tup (r.2.map T.str)) (x:=r) (bK.mpr ⟨kd,m,m2⟩) h
theorem P4{k:Str}{ks:List Key}{ts:List T}{t:T}{fs:FS}(h:CD ks ts (.inr k:Key)=some t):AZ (.t (.l ks ts)) (.t (.str k)) fs=.ok (.t t) fs:=by
 have e:J6 (.t (.l ks ts)) (.t (.str k)) fs=.ok (.t t) fs:=by simp only[J6,RE,Gm,cE,h,okT]
 exact e
theorem Fm{C:Addr}{K:Kd}{hs:List T}(W:Well K){kd:Str×List (Str×List Str)}(m:kd∈K):AY C [vl (A5 C K hs),vl (.str kd.1)]=.ok (.nw (.lst ((kd.2.map (·.1)).map T.str))) [vl (A5 C K hs),vl (.str kd.1)]:=by
 have all:BX C [vl (A5 C K hs),vl (.str kd.1)]=.ret (.nw (.lst ((kd.2.map (·.1)).map T.str))) [vl (A5 C K hs),vl (.str kd.1)]:=by
  unfold BX;refine sq (DW (Dz (b:=false) (Au (BH (Al (t:=.str kd.1) rfl)) (NY rfl) ?_)) rfl) ?_
  .rw[X9,val_mk W m];rfl
  exact B7 (Er (DI (Au (NY rfl) (BH (Al (t:=.str kd.1) rfl)) (P4 (val_mk W m))) rfl) rfl)
 unfold AY Bl;show(match BX C [vl (A5 C K hs),vl (.str kd.1)]with|.nx τ=>_|.ret (.t t) τ=>_|.ret (.nw o) τ=>_|.ret (.n i) τ=>_|.exc c τ=>_|_=>_)=_;rw[all];rfl
theorem Ku{C:Addr}{K:Kd}{hs:List T}(W:Well K){kd:Str×List (Str×List Str)}{r:Str×List Str}(m:kd∈K)(m2:r∈kd.2):Bj C [vl (A5 C K hs),vl (.str r.1)]=.ok (.t (.tup (r.2.map T.str))) [vl (A5 C K hs),vl (.str r.1)]:=by
 have all:Ck C [vl (A5 C K hs),vl (.str r.1)]=.ret (.t (.tup (r.2.map T.str))) [vl (A5 C K hs),vl (.str r.1)]:=by
  unfold Ck;refine sq (DW (Dz (b:=false) (Au (BH (Al (t:=.str r.1) rfl)) (Rn rfl) ?_)) rfl) ?_
  .rw[X9,QU W m m2];rfl
  exact B7 (Au (Rn rfl) (BH (Al (t:=.str r.1) rfl)) (P4 (QU W m m2)))
 unfold Bj Bl;show(match Ck C [vl (A5 C K hs),vl (.str r.1)]with|.nx τ=>_|.ret (.t t) τ=>_|.ret (.nw o) τ=>_|.ret (.n i) τ=>_|.exc c τ=>_|_=>_)=_;rw[all];rfl
theorem PK{C:Addr}{mt:Str}{fs:FS}{K:Kd}{hs:List T}(h:(["makers_by_kind","parts_by_maker","home_by_maker"]:List Str).any (·==mt)=false):EC C mt fs (.t (A5 C K hs))=true:=by unfold EC A5;simp only[h];simp
theorem X6{f g:FS->Out Rv}{fs fs1:FS}{r:Out Rv}(h:f fs=.ok (.t (.o true)) fs1)(e:g fs1=r):Yc f g fs=r:=by unfold Yc;rw[h];exact e
theorem W7{gt:T->FS->Option FS}{body:FS->SO}{t:T}{ts:List T}{fs fs1 fs2:FS}(h1:gt t fs=some fs1)(h2:body fs1=.nx fs2):GX gt body (t::ts) fs=GX gt body ts fs2:=by simp only[GX,h1,h2]
theorem TY{gt:T->FS->Option FS}{body:FS->SO}{t:T}{ts:List T}{fs fs1 fs2:FS}{r:Rv}(h1:gt t fs=some fs1)(h2:body fs1=.ret r fs2):GX gt body (t::ts) fs=.ret r fs2:=by simp only[GX,h1,h2]
theorem Dg{g:List Rv->FS->Out Rv}{fa:FS->Out (List Rv)}{fs fs1:FS}{rs:List Rv}{r:Out Rv}(h:fa fs=.ok rs fs1)(h2:g rs fs1=r):Af g fa fs=r:=by unfold Af;rw[h];exact h2
theorem Lc{gt:T->FS->Option FS}{fe:FS->Out Rv}{t v:T}{ts acc:List T}{τ τ1 τ2:FS}(h1:gt t τ=some τ1)(h2:fe τ1=.ok (.t v) τ2)(hl:acc.length<big):Bh gt DK fe (t::ts) τ acc=Bh gt DK fe ts τ2 (acc++[v]):=by simp only[Bh,h1,DK,h2,if_pos hl]
theorem MH{fs:FS}{i:Nat}{ts:List T}(h:fs[i]?=some (some (.own (.lst ts)))):Dm fs (.n i)=some ts:=by simp only[Dm,UJ h]
theorem Km{f g:FS->Out Bool}{fs:FS}{a b:Bool}(h1:f fs=.ok a fs)(h2:g fs=.ok b fs):Lq f g fs=.ok (a&&b) fs:=by
 unfold Lq;rw[h1];cases a
 .rfl
 .show g fs=_;rw[h2];rfl
theorem XY{ps us:List T}{fs:FS}(h:ps.length+us.length<=big):AG (.t (.tup ps)) (.t (.tup us)) fs=.ok (.t (.tup (ps++us))) fs:=by cases ps with|nil=>rfl|cons p ps =>have:NV (.t (.tup (p::ps))) (.t (.tup us)) fs=.ok (.t (.tup (p::ps++us))) fs:=if_pos ⟨by simp,h⟩;show(match NV (.t (.tup (p::ps))) (.t (.tup us)) fs with|.bad=>_|o=>o)=_;rw[this]
open PySem.Builtin.Int (intBits)
theorem Kh{x:Int}{n:Nat}:intBits x<=n↔x.natAbs<2^n:=by
 unfold intBits;by_cases h:x=0
 .subst h;simp[Nat.two_pow_pos]
 .have h':(x==0)=false:=by simpa using h
  rw[h'];have hn:x.natAbs≠0:=by lia
  have:=Nat.log2_lt hn (k:=n);simp only[bC,if_false]
  lia
theorem bits_add{x y:Int}{n:Nat}(h1:intBits x<=n)(h2:intBits y<=n):intBits (x+y)<=n+1:=by
 rw[Kh]at h1 h2 ⊢;rw[Nat.pow_succ];generalize 2^n=m at *
 lia
theorem bits_mul{x y:Int}{n m:Nat}(h1:intBits x<=n)(h2:intBits y<=m):intBits (x*y)<=n+m:=by
 rw[Kh]at h1 h2 ⊢;rw[Int.natAbs_mul,Nat.pow_add];have hp:0<2^n:=Nat.two_pow_pos n
 calc x.natAbs*y.natAbs<=2^n*y.natAbs:=Nat.mul_le_mul_right _ (by lia)
  _<2^n*2^m:=Nat.mul_lt_mul_of_pos_left h2 hp
theorem EJ{x:Int}{n:Nat}(h:x.natAbs<2^n):intBits x<=n:=Kh.mpr h
theorem JU{C:Addr}{p:Nat}{Fn:FS->Out Rv}{fa:FS->Out (List Rv)}{fs fs1 τ:FS}{rs:List Rv}{o:FO}(ha:fa fs=.ok rs fs1)(hp:rs.length+1=p)(hl:Dj fs1 (rs.map A1)=[])(hf:Fn (some (.bor (.ins C [] []))::Ce fs1 (rs.map A1))=.ok (.t .v) (some (.bor o)::τ)):Af (EA C p Fn) fa fs=.ok (.nw o) fs1:=by unfold Af;rw[ha];show EA C p Fn rs fs1=_;unfold EA;rw[if_pos ⟨by rw[hl];exact aW,hp⟩,hf];dsimp only;rw[Bt hl]
theorem Uy{xs ys:List T}{fs:FS}(h:xs.length+ys.length<=big):AG (.t (.lst xs)) (.t (.lst ys)) fs=.ok (.nw (.lst (xs++ys))) fs:=by
 have:L8 (.t (.lst xs)) (.t (.lst ys)) fs=.ok (.nw (.lst (xs++ys))) fs:=by simp only[L8,exL];exact if_pos h
 show(match L8 (.t (.lst xs)) (.t (.lst ys)) fs with|.bad=>_|o=>o)=_;rw[this]
theorem QX{fs:FS}{i:Nat}{o:FO}{x:Option Sl}(e:fs[i]?=some x)(h:Fre x):JB i (.nw o) fs=some (fs.set i (some (.own o))):=by unfold JB;rw[e];cases x with|none=>rfl|some s=>cases s with|val t=>rfl|own o=>rfl|bor o=>exact h.elim
theorem Ik{n:Nat}{g:FS->SO}{args τ:FS}{t:T}(h:g (args++List.replicate n none)=.ret (.t t) τ):Bl n g args=.ok (.t t) (τ.take args.length):=by unfold Bl;rw[h]
theorem Tw{f:FS->Out Rv}{fs:FS}{ts:List T}(h:f fs=.ok (.t (.lst ts)) fs):itU f fs=.ok ts fs:=by unfold itU;rw[h];rfl
theorem OV{n:Nat}{g:FS->SO}{args τ:FS}{i:Nat}{o:FO}(h:g (args++List.replicate n none)=.ret (.n i) τ)(hi:τ[i]?=some (some (.own o))):Bl n g args=.ok (.nw o) ((τ.set i none).take args.length):=by unfold Bl;rw[h];simp only[hi]
theorem Sm{n:Nat}{g:FS->SO}{args τ:FS}{o:FO}(h:g (args++List.replicate n none)=.ret (.nw o) τ):Bl n g args=.ok (.nw o) (τ.take args.length):=by unfold Bl;rw[h]
noncomputable def exN(s:Str):T:=.tup [.str "name",.str s]
noncomputable def exP(h s:Str)(ts:List T):T:=.tup [.str h,.str s,.tup ts]
theorem N8(m:Nat)(a b:Str):eqT m (.str a) (.str b)=some (a==b):=by cases m<;>rfl
theorem N7(m:Nat)(xs ys:List T):eqT (m+1) (.tup xs) (.tup ys)=(Js (eqT m) xs ys).map (·&&xs.length==ys.length):=rfl
theorem Kw{g h:FS->SO}{fs fs':FS}{c:Str}(e:g fs=.exc c fs'):Am g h fs=.exc c fs':=by unfold Am;rw[e]
theorem OW{n:Nat}{g:FS->SO}{args τ:FS}{c:Str}(h:g (args++List.replicate n none)=.exc c τ):Bl n g args=.exc c (τ.take args.length):=by unfold Bl;rw[h]
theorem Jh{p:Nat}{Fn:FS->Out Rv}{fa:FS->Out (List Rv)}{fs fs1 τ:FS}{rs:List Rv}{c:Str}(ha:fa fs=.ok rs fs1)(hp:rs.length=p)(hn:Dj fs1 (rs.map A1)=[])(hf:Fn (Ce fs1 (rs.map A1))=.exc c τ):Af (Ah p Fn) fa fs=.exc c fs1:=by have hb:D1 (rs.map A1) τ fs1=some fs1:=Bt hn;unfold Af;rw[ha];show Ah p Fn rs fs1=_;unfold Ah;rw[if_pos hp];unfold Hc;rw[if_pos (by rw[hn];exact aW),hf];simp only[hb]
theorem IW{f:FS->Out Rv}{fs fs1:FS}{c:Str}(h:f fs=.exc c fs1):AM f fs=.exc c fs1:=by unfold AM;rw[h];rfl
def Nn:Rv->Prop
 |.nw _=>False
 |_=>True
section
variable{α:Type}{f fa fb:FS->Out Rv}{ga:FS->Out (List Rv)}{c ct:FS->Out Bool}{it:FS->Out (List T)}{s s' h:FS->SO}{fs fs1 fs2 fs' τ:FS}{x y r:Rv}{rs:List Rv}{o:Out Rv}{so:SO}{b b':Bool}{t u:T}{ts us:List T}{i j p:Nat}{g:Rv->Rv->FS->Out Rv}{gt:T->FS->Option FS}{gs:List T->FS->Option FS}{Fn:FS->Out Rv}{C:Addr}{m:Str}
theorem BJ{k:Rv->FS->Out α}(n:Nn x):(Out.ok x fs).bnd k=k x fs:=by cases x<;>first|rfl|exact n.elim
theorem Y3(h1:fa fs=.ok x fs1)(n1:Nn x)(h2:fb fs1=.ok y fs2)(n2:Nn y)(h3:g x y fs2=o):Ag g fa fb fs=o:=by unfold Ag;rw[h1,BJ n1];show(fb fs1).bnd _=_;rw[h2,BJ n2];exact h3
theorem Mx(h1:f fs=.ok x fs1)(n1:Nn x)(h2:ga fs1=.ok rs fs2):Ab f ga fs=.ok (x::rs) fs2:=by unfold Ab;rw[h1,BJ n1];show(ga fs1).bind _=_;rw[h2];rfl
noncomputable def fzR:Rv->FS->Out Rv
 |.t t,fs=>.ok (.t t) fs
 |.nw o,fs=>.ok (.t (toT o)) fs
 |.n i,fs=>match fs[i]? with|some (some (.own o))=>.ok (.t (toT o)) (fs.set i (some (.val (toT o))))|_=>.bad
theorem JaX(h:f fs=.ok r fs1)(e:fzR r fs1=o):fz f fs=o:=by unfold fz;rw[h];show _=_;cases r<;>exact e
theorem x_call(h0:ga fs=.ok rs fs1)(hp:rs.length=p)(hl:Dj fs1 (rs.map A1)=[])(hf:Fn (Ce fs1 (rs.map A1))=.ok r τ)(hr:r=.t t\/∃o,r=.nw o):Af (Ah p Fn) ga fs=.ok r fs1:=by
 rcases hr with rfl|⟨o,rfl⟩
 .exact Fe h0 hp (by rw[hl];exact aW) hf (Bt hl)
 .exact QH h0 hp (by rw[hl];exact aW) hf (Bt hl)
theorem R6(h0:ga fs=.ok rs fs1)(hp:rs.length=p)(hl:Dj fs1 (rs.map A1)=[])(hf:Fn (Ce fs1 (rs.map A1))=.ok (.t t) τ):Af (Ah p Fn) ga fs=.ok (.t t) fs1:=x_call (t:=t) h0 hp hl hf (.inl rfl)
theorem R5{o:FO}(h0:ga fs=.ok rs fs1)(hp:rs.length=p)(hl:Dj fs1 (rs.map A1)=[])(hf:Fn (Ce fs1 (rs.map A1))=.ok (.nw o) τ):Af (Ah p Fn) ga fs=.ok (.nw o) fs1:=x_call (t:=.v) h0 hp hl hf (.inr ⟨o,rfl⟩)
theorem Y5(h:f fs=.ok (.t (.o b)) fs1):asB f fs=.ok b fs1:=Dz h
theorem Yw(e:s fs=.nx fs1)(e2:h fs1=so):Am s h fs=so:=sq e e2
theorem RW(hc:c fs=.ok b fs1)(e:(bif b then Am s h fs1 else Am s' h fs1)=so):Am (ifS c s s') h fs=so:=by unfold Am ifS;rw[hc];cases b<;>exact e
theorem JaC(hc:c fs=.ok b fs1)(e:(bif b then s fs1 else s' fs1)=so):ifS c s s' fs=so:=by unfold ifS;rw[hc];cases b<;>exact e
theorem U4(hc:c fs=.ok b fs1)(hb:b=false)(e:s' fs1=so):ifS c (λ_=>.bad) s' fs=so:=by subst hb;unfold ifS;rw[hc];exact e
theorem QP(e:f fs=.ok r fs1):Am (retS f) h fs=.ret r fs1:=E5 (B7 e)
theorem Yv(h:f fs=.ok r fs1)(e:JB i r fs1=some fs2):AK i f fs=.nx fs2:=by unfold AK;rw[h];show(match JB i r fs1 with|some fs=>SO.nx fs|none=>.bad)=_;rw[e]
theorem Y4(h:f fs=.ok (.t t) fs1)(e:gt t fs1=some fs2):HX f gt fs=.nx fs2:=by unfold HX;rw[h];show(match gt t fs1 with|some fs=>SO.nx fs|none=>.bad)=_;rw[e]
theorem Ym(h:ts.length=i)(e:gs ts fs=some fs'):AA i gs (.tup ts) fs=some fs':=(if_pos h).trans e
theorem UP(h:ts.length=i)(e:gs ts fs=some fs'):LA i gs (.lst ts) fs=some fs':=(if_pos h).trans e
theorem Yp(e:gt t fs=some fs1)(e2:gs ts fs1=some fs2):Ad gt gs (t::ts) fs=some fs2:=by show(gt t fs).bind _=_;rw[e];exact e2
theorem Gn{z:Option Sl}(e:fs[i]?=some z)(h:Fre z):tgN i t fs=some (fs.set i (vl t)):=by unfold tgN;exact By e h
theorem Mw(h:it fs=.ok ts fs1)(e:GX gt s ts fs1=so):Dk it gt s fs=so:=by unfold Dk;rw[h];exact e
theorem UY(h:f fs=.ok (.t t) fs1)(e:t=.lst ts\/t=.tup ts\/t=.z0 ts):itU f fs=.ok ts fs1:=by unfold itU;rw[h];rcases e with rfl|rfl|rfl<;>rfl
theorem YK(h1:fa fs=.ok (.t t) fs1)(e1:Jr t=some ts)(h2:fb fs1=.ok (.t u) fs2)(e2:Jr u=some us):itZ fa fb fs=.ok (FL.pairs ts us) fs2:=by unfold itZ;rw[h1,BJ (x:=.t t) True.intro];show(fb fs1).bnd _=_;rw[h2,BJ (x:=.t u) True.intro];show(match Jr t,Jr u with|some xs,some ys=>Out.ok (FL.pairs xs ys) fs2|_,_=>.bad)=_;rw[e1,e2]
theorem YM(h1:fa fs=.ok (.t t) fs1)(e1:Jr t=some ts):itE fa fs=.ok (Eo 0 ts) fs1:=by unfold itE;rw[h1,BJ (x:=.t t) True.intro];show(match Jr t with|some xs=>Out.ok (Eo 0 xs) fs1|none=>.bad)=_;rw[e1]
theorem U2{d:List T->FS->Out Rv}(h:ga fs=.ok rs fs1)(h2:Mj rs=some ts)(h3:ts.length<=big)(e:d ts fs1=o):Aw d ga fs=o:=Uo h h2 h3 e
theorem YH(h:f fs=.ok (.t t) fs1)(e:t=.lst ts\/t=.tup ts):Af Be (Ab f Aj) fs=.ok (.t (.int ts.length)) fs1:=HE h e
theorem U5(h1:c fs=.ok b fs1)(h2:b=true->ct fs1=.ok b' fs1):Lq c ct fs=.ok (b&&b') fs1:=by unfold Lq;rw[h1];cases b with|true=>exact h2 rfl|false=>rfl
theorem QT(h1:c fs=.ok b fs1)(hb:b=false):Lq c ct fs=.ok false fs1:=by subst hb;exact U5 (b':=false) h1 (λh=>by cases h)
theorem My{fs':FS}(h1:c fs=.ok b fs1)(hb:b=true)(h2:ct fs1=.ok b' fs'):Lq c ct fs=.ok b' fs':=by subst hb;unfold Lq;rw[h1];exact h2
theorem UU{fs':FS}(h1:c fs=.ok b fs1)(hb:b=false)(h2:ct fs1=.ok b' fs'):orT c ct fs=.ok b' fs':=by subst hb;unfold orT;rw[h1];exact h2
theorem Yz(h1:c fs=.ok b fs1)(h2:b=false->ct fs1=.ok b' fs1):orT c ct fs=.ok (b||b') fs1:=by unfold orT;rw[h1];cases b with|false=>exact h2 rfl|true=>rfl
theorem Z7{i j:Int}:gLt (.t (.int i)) (.t (.int j)) fs=.ok (.t (.o (decide (i<j)))) fs:=rfl
theorem Z9{i j:Int}:gLe (.t (.int i)) (.t (.int j)) fs=.ok (.t (.o (decide (i<=j)))) fs:=rfl
theorem JaQ{i j:Int}:gEq false (.t (.int i)) (.t (.int j)) fs=.ok (.t (.o (decide (i=j)))) fs:=by
 have:=RC (fa:=gc (.int i)) (fb:=gc (.int j)) (fs:=fs) B9 B9;unfold asB at this;show gEq false (.t (.int i)) (.t (.int j)) fs=_;rw[show Ag (gEq false) (gc (.int i)) (gc (.int j)) fs=gEq false (.t (.int i)) (.t (.int j)) fs from rfl]at this;cases e:gEq false (.t (.int i)) (.t (.int j)) fs with
 |ok r fs2 =>rw[e]at this;cases r with|t t=>cases t<;>simp_all[Out.bind]|nw o=>simp[Out.bind]at this|n i=>simp[Out.bind]at this
 |exc c fs2=>rw[e]at this;simp[Out.bind]at this
 |bad=>rw[e]at this;simp[Out.bind]at this
theorem QQ(hc:c fs=.ok b fs1)(hb:b=false)(e:Am s' h fs1=so):Am (ifS c (λ_=>.bad) s') h fs=so:=by subst hb;exact RW hc e
def Rt:Rv->Prop
 |.n _=>False
 |_=>True
theorem QS{as:FS}(h0:ga fs=.ok rs fs1)(hp:rs.length=p)(hl:Dj fs1 (rs.map A1)=[])(ha:Ce fs1 (rs.map A1)=as)(hf:Fn as=.ok r τ)(hr:Rt r):Af (Ah p Fn) ga fs=.ok r fs1:=by subst ha;cases r with|t t=>exact R6 h0 hp hl hf|nw o=>exact R5 h0 hp hl hf|n i=>exact hr.elim
theorem Ja6{a1:T}(h0:ga fs=.ok [.t a1] fs1)(hf:Fn [vl a1]=.ok r τ)(hr:Rt r):Af (Ah 1 Fn) ga fs=.ok r fs1:=QS h0 rfl rfl rfl hf hr
theorem Ja5{a1 a2:T}(h0:ga fs=.ok [.t a1,.t a2] fs1)(hf:Fn [vl a1,vl a2]=.ok r τ)(hr:Rt r):Af (Ah 2 Fn) ga fs=.ok r fs1:=QS h0 rfl rfl rfl hf hr
theorem Ja4{a1 a2 a3:T}(h0:ga fs=.ok [.t a1,.t a2,.t a3] fs1)(hf:Fn [vl a1,vl a2,vl a3]=.ok r τ)(hr:Rt r):Af (Ah 3 Fn) ga fs=.ok r fs1:=QS h0 rfl rfl rfl hf hr
theorem Ja3{a1 a2 a3 a4:T}(h0:ga fs=.ok [.t a1,.t a2,.t a3,.t a4] fs1)(hf:Fn [vl a1,vl a2,vl a3,vl a4]=.ok r τ)(hr:Rt r):Af (Ah 4 Fn) ga fs=.ok r fs1:=QS h0 rfl rfl rfl hf hr
theorem Ja2{a1 a2 a3 a4 a5:T}(h0:ga fs=.ok [.t a1,.t a2,.t a3,.t a4,.t a5] fs1)(hf:Fn [vl a1,vl a2,vl a3,vl a4,vl a5]=.ok r τ)(hr:Rt r):Af (Ah 5 Fn) ga fs=.ok r fs1:=QS h0 rfl rfl rfl hf hr
theorem Ja1{a1 a2 a3 a4 a5 a6:T}(h0:ga fs=.ok [.t a1,.t a2,.t a3,.t a4,.t a5,.t a6] fs1)(hf:Fn [vl a1,vl a2,vl a3,vl a4,vl a5,vl a6]=.ok r τ)(hr:Rt r):Af (Ah 6 Fn) ga fs=.ok r fs1:=QS h0 rfl rfl rfl hf hr
theorem JaV{a0 a1:T}(h1:f fs=.ok (.t a0) fs1)(h2:ga fs1=.ok [.t a1] fs2)(hf:Fn [vl a0,vl a1]=.ok r τ)(hr:Rt r)(hi:EC C m fs1 (.t a0)=true):CW C m 2 Fn f ga fs=.ok r fs2:=by unfold CW;rw[h1,BJ (x:=.t a0) True.intro];show(if _ then _ else _)=_;rw[if_pos hi,h2];exact QS (ga:=λfs=>.ok [.t a0,.t a1] fs) rfl rfl rfl rfl hf hr
theorem JaU{a0 a1 a2:T}(h1:f fs=.ok (.t a0) fs1)(h2:ga fs1=.ok [.t a1,.t a2] fs2)(hf:Fn [vl a0,vl a1,vl a2]=.ok r τ)(hr:Rt r)(hi:EC C m fs1 (.t a0)=true):CW C m 3 Fn f ga fs=.ok r fs2:=by unfold CW;rw[h1,BJ (x:=.t a0) True.intro];show(if _ then _ else _)=_;rw[if_pos hi,h2];exact QS (ga:=λfs=>.ok [.t a0,.t a1,.t a2] fs) rfl rfl rfl rfl hf hr
theorem JaW{a0:T}{o:FO}(h1:f fs=.ok (.t a0) fs1)(hf:Fn [vl a0]=.ok (.nw o) τ)(hi:EC C m fs1 (.t a0)=true):HD C m 1 Fn f Aj fs=.ok (.nw o) fs1:=by unfold HD;rw[h1,BJ (x:=.t a0) True.intro];show(if _ then _ else _)=_;rw[if_pos hi];show Ov 1 Fn [.t a0] fs1=_;unfold Ov QG;rw[if_pos (show [Rv.t a0].length=1 from rfl),show Dj fs1 ([Rv.t a0].map A1)=[]from rfl,if_pos aW,show Ce fs1 ([Rv.t a0].map A1)=[vl a0]from rfl,hf];show(match D1 ([Rv.t a0].map A1) τ fs1 with|some fs'=>Out.ok (Rv.nw o) fs'|none=>.bad)=_;rw[Bt rfl]
theorem YY{n:Str}{gs:List Str}{ts:List T}(h:f fs=.ok (.t (.ins C gs ts)) fs1)(hv:EN gs ts n=some t):DD C n f fs=.ok (.t t) fs1:=by unfold DD;rw[h,BJ (x:=.t (.ins C gs ts)) True.intro];show(if _ then _ else _)=_;rw[if_pos rfl,hv];rfl
theorem gNe{x y:Rv}(h:gEq false x y fs=.ok (.t (.o b)) fs):gEq true x y fs=.ok (.t (.o (!b))) fs:=by unfold gEq at *;split at h<;>simp_all;split at h<;>simp_all[okT];split at h<;>simp_all
theorem Z5{x y:Str}:gEq true (.t (.str x)) (.t (.str y)) fs=.ok (.t (.o (!decide (x=y)))) fs:=gNe TN
theorem Z6{x y:Int}:gEq true (.t (.int x)) (.t (.int y)) fs=.ok (.t (.o (!decide (x=y)))) fs:=gNe JaQ
theorem YQ:fzR (.t t) fs=.ok (.t t) fs:=rfl
theorem YS:fzR (.nw (.lst ts)) fs=.ok (.t (.lst ts)) fs:=rfl
theorem YR(h:fs[i]?=some (some (.own (.lst ts)))):fzR (.n i) fs=.ok (.t (.lst ts)) (fs.set i (vl (.lst ts))):=by simp only[fzR,h];rfl
theorem Yq:Av [] fs=some fs:=rfl
theorem JaY:Bp ts fs=.ok (.t (.tup ts)) fs:=rfl
theorem Ja0:Dc ts fs=.ok (.t (.lst ts)) fs:=rfl
theorem JaZ:Eg ts fs=.ok (.nw (.lst ts)) fs:=rfl
theorem Y9:Mj []=some []:=rfl
theorem Y8(h:Mj rs=some ts):Mj (.t t::rs)=some (t::ts):=by unfold Mj;rw[h];rfl
theorem Yr:Jr (.tup ts)=some ts:=rfl
theorem YI{k:Int}(h:atI ts k=some t):AZ (.t (.tup ts)) (.t (.int k)) fs=.ok (.t t) fs:=by
 have e:gIx (.t (.tup ts)) (.t (.int k)) fs=.ok (.t t) fs:=by simp only[gIx,Dm,h];rfl
 show(match gIx (.t (.tup ts)) (.t (.int k)) fs with|.bad=>_|o=>o)=_;rw[e]
theorem YJ{k:Int}(h:atI ts k=some t):AZ (.t (.lst ts)) (.t (.int k)) fs=.ok (.t t) fs:=HJ rfl h
end
def Sat(Q:SO->Prop)(so:SO):Prop:=Q so
section
variable{Q:SO->Prop}{f:FS->Out Rv}{c:FS->Out Bool}{it:FS->Out (List T)}{s s' h:FS->SO}{fs fs1:FS}{r:Rv}{b:Bool}{ts:List T}{gt:T->FS->Option FS}{P:List T->FS->Prop}{R:FS->SO->Prop}{n:Nat}{args τ:FS}{A:Rv->Prop}
theorem LH(e:s fs=.nx fs1)(k:Sat Q (h fs1)):Sat Q (Am s h fs):=by unfold Sat;rw[JD e];exact k
theorem Sn(hc:c fs=.ok b fs1)(k1:b=true->Sat Q (Am s h fs1))(k2:b=false->Sat Q (Am s' h fs1)):Sat Q (Am (ifS c s s') h fs):=by unfold Sat;rw[RW hc rfl];cases b;exact k2 rfl;exact k1 rfl
theorem JbD(hc:c fs=.ok b fs1)(k1:b=true->Sat Q (s fs1))(k2:b=false->Sat Q (s' fs1)):Sat Q (ifS c s s' fs):=by unfold Sat;rw[JaC hc rfl];cases b;exact k2 rfl;exact k1 rfl
theorem Vz(hc:c fs=.ok b fs1)(hb:b=false)(k:Sat Q (Am s' h fs1)):Sat Q (Am (ifS c (λ_=>.bad) s') h fs):=by unfold Sat;rw[QQ hc hb rfl];exact k
theorem ZC(hc:c fs=.ok b fs1)(hb:b=false)(k:Sat Q (s' fs1)):Sat Q (ifS c (λ_=>.bad) s' fs):=by unfold Sat;rw[U4 hc hb rfl];exact k
theorem VA(e:f fs=.ok r fs1)(k:Sat Q (.ret r fs1)):Sat Q (retS f fs):=by unfold Sat;rw[B7 e];exact k
theorem Vx(e:f fs=.ok r fs1)(k:Sat Q (.ret r fs1)):Sat Q (Am (retS f) h fs):=by unfold Sat;rw[QP e];exact k
theorem Zu(k:Sat Q (h fs)):Sat Q (Am nxS h fs):=k
theorem JbB(k:Sat Q (Am s (Am s' h) fs)):Sat Q (Am (Am s s') h fs):=by unfold Sat at *;unfold Am at *;cases e:s fs<;>simp only[e]at k ⊢<;>exact k
theorem VB(e:s fs=.nx fs1)(k:Sat Q (.nx fs1)):Sat Q (s fs):=by unfold Sat;rw[e];exact k
theorem NW(st:∀t ts fs,P (t::ts) fs->∃fs1,gt t fs=some fs1/\Sat (λso=>∃fs2,so=.nx fs2/\P ts fs2) (s fs1)):∀(ts:List T)(fs:FS),P ts fs->∃fs',GX gt s ts fs=.nx fs'/\P [] fs' :=
 Dd P λt ts fs p=>let⟨fs1,a,fs2,b,c⟩:=st t ts fs p;⟨fs1,fs2,a,b,c⟩
theorem Vy(hi:it fs=.ok ts fs1)(P:List T->FS->Prop)(h0:P ts fs1)(st:∀t ts fs,P (t::ts) fs->∃fs1,gt t fs=some fs1/\Sat (λso=>∃fs2,so=.nx fs2/\P ts fs2) (s fs1))(k:∀fs',P [] fs'->Sat Q (h fs')):Sat Q (Am (Dk it gt s) h fs):=by obtain⟨fs',e,p⟩:=NW st ts fs1 h0;exact LH (Mw hi e) (k fs' p)
theorem MR(hi:it fs=.ok ts fs1)(Pe:T->Prop)(I:FS->Prop)(h0:∀u∈ts,Pe u)(h1:I fs1)(st:∀t fs,Pe t->I fs->∃fs1,gt t fs=some fs1/\Sat (λso=>∃fs2,so=.nx fs2/\I fs2) (s fs1))(k:∀fs',I fs'->Sat Q (h fs')):Sat Q (Am (Dk it gt s) h fs) :=
 Vy hi (λus fs=>(∀u∈us,Pe u)/\I fs) ⟨h0,h1⟩ (λt us fs ⟨a,b⟩=>let⟨fs1,e,fs2,e2,i⟩:=st t fs (a t aN) b;⟨fs1,e,fs2,e2,λu m=>a u (ao _ m),i⟩) (λfs p=>k fs p.2)
theorem W8{α:Type}{p:α->T}{xs:List α}{I:List α->FS->Prop}(h0:I [] fs)(st:∀D a R fs,D++a::R=xs->I D fs->∃fs1,gt (p a) fs=some fs1/\Sat (λso=>∃fs2,so=.nx fs2/\I (D++[a]) fs2) (s fs1)):∃fs',GX gt s (xs.map p) fs=.nx fs'/\I xs fs':=by
 obtain⟨fs',e,D,R,h1,h2,h3⟩:=NW (P:=λus fs=>∃D R,D++R=xs/\us=R.map p/\I D fs) (gt:=gt) (s:=s) (λt us fs ⟨D,R,h1,h2,h3⟩=>by cases R with|nil=>cases h2|cons a R =>obtain⟨rfl,rfl⟩:=List.cons.inj h2;obtain⟨fs1,e,fs2,e2,i⟩:=st D a R fs h1 h3;exact⟨fs1,e,fs2,e2,D++[a],R,by rw[<- h1];simp,rfl,i⟩) (xs.map p) fs ⟨[],xs,rfl,rfl,h0⟩;have:R=[]:=by cases R with|nil=>rfl|cons a R=>cases h2
 subst this;rw[bj]at h1;exact⟨fs',e,h1▸h3⟩
theorem B8{α:Type}{p:α->T}{xs:List α}(hi:it fs=.ok (xs.map p) fs1)(I:List α->FS->Prop)(h0:I [] fs1)(st:∀D a R fs,D++a::R=xs->I D fs->∃fs1,gt (p a) fs=some fs1/\Sat (λso=>∃fs2,so=.nx fs2/\I (D++[a]) fs2) (s fs1))(k:∀fs',I xs fs'->Sat Q (h fs')):Sat Q (Am (Dk it gt s) h fs):=by obtain⟨fs',e,p⟩:=W8 h0 st;exact LH (Mw hi e) (k fs' p)
theorem Im{α:Type}{p:α->T}{xs:List α}(hi:it fs=.ok (xs.map p) fs1)(I:List α->FS->Prop)(h0:I [] fs1)(st:∀D a R fs,D++a::R=xs->I D fs->∃fs1,gt (p a) fs=some fs1/\Sat (λso=>∃fs2,so=.nx fs2/\I (D++[a]) fs2) (s fs1))(k:∀fs',I xs fs'->Sat Q (.nx fs')):Sat Q (Dk it gt s fs):=by obtain⟨fs',e,p⟩:=W8 h0 st;unfold Sat;rw[Mw hi e];exact k fs' p
theorem JbA{t:T}{R:SO->Prop}(e:gt t fs=some fs1)(k:Sat R (s fs1)):∃fs1,gt t fs=some fs1/\Sat R (s fs1):=⟨fs1,e,k⟩
def Rr(A:Rv->Prop)(so:SO):Prop:=∃r τ,so=.ret r τ/\Rt r/\A r
theorem MQ(k:Sat (Rr A) (s (args++List.replicate n none))):∃r τ,Bl n s args=.ok r τ/\A r:=by obtain⟨r,τ,e,hr,a⟩:=k;cases r with|t t=>exact⟨_,_,Ik e,a⟩|nw o=>exact⟨_,_,Sm e,a⟩|n i=>exact hr.elim
theorem JaL(hr:Rt r)(a:A r):Sat (Rr A) (.ret r fs):=⟨r,fs,rfl,hr,a⟩
theorem Zx{P:FS->Prop}(p:P fs):Sat (λso=>∃fs2,so=.nx fs2/\P fs2) (.nx fs):=⟨fs,rfl,p⟩
theorem Zw:Sat (λso=>∃τ,so=.nx τ) (.nx fs):=⟨fs,rfl⟩
theorem B0{t:T}(k:Sat (Rr (·=.t t)) (s (args++List.replicate n none))):∃τ,Bl n s args=.ok (.t t) τ:=by obtain⟨r,τ,e,rfl⟩:=MQ k;exact⟨τ,e⟩
theorem MP(k:Sat (λso=>∃τ,so=.nx τ) (s (args++List.replicate n none))):∃τ,Bl n s args=.ok (.t .v) τ:=by obtain⟨τ,e⟩:=k;exact⟨τ.take args.length,by unfold Bl;rw[e]⟩
end
theorem keys_map:∀xs:List Str,Gp (xs.map T.str)=some (xs.map λx=>(.inr x:Key))
 | []=>rfl
 |x::xs=>by simp only[aj,Gp,keys_map xs,Gm,bE,cE]
section
variable{α:Type}{f fv fi:FS->Out Rv}{ga:FS->Out (List Rv)}{it:FS->Out (List T)}{ft:FS->Out Bool}{fs fs1 fs2 fs3 τ rest:FS}{x:Option Sl}{p q p1 p2:α->T}{b:α->Bool}{xs:List α}{ts us:List T}{t u:T}{i:Nat}{gt:T->FS->Option FS}{src:List (Option Nat)}{fe:FS->Out Rv}{ks:List Key}{k:Str}{r:Rv}{o:Out Rv}{lo hi:Option Int}{l h:FS->Out (Option Int)}
noncomputable def CT(p:α->T):List α->Option Sl->Option Sl
 | [],x=>x
 |a::xs,_=>CT p xs (vl (p a))
theorem XQ:∀(xs:List α)(x:Option Sl)(acc:List T),Fre x->(∀a∈xs,ft (vl (p a)::rest)=.ok (b a) (vl (p a)::rest))->(∀a∈xs,b a=true->fe (vl (p a)::rest)=.ok (.t (q a)) (vl (p a)::rest))->acc.length+xs.length<=big->Bh (tgN 0) ft fe (xs.map p) (x::rest) acc=some (acc++(xs.filter b).map q,CT p xs x::rest)
 | [],x,acc,_,_,_,_=>by simp[Bh,CT]
 |a::xs,x,acc,hx,ht,he,hl=>by
  rw[aX]at hl;have h1:tgN 0 (p a) (x::rest)=some (vl (p a)::rest):=Gn rfl hx;have h2:=ht a aN;have h3:=he a aN;have g:=λacc hl=>XQ xs (vl (p a)) acc An (λa m=>ht a (ao _ m)) (λa m=>he a (ao _ m)) hl
  cases e:b a with|true =>rw[e]at h2;simp only[aj,Bh,h1,h2,h3 e,if_pos (show acc.length<big by lia),g (acc++[q a]) (by simp;lia),cb,e,CT];simp|false =>rw[e]at h2;simp only[aj,Bh,h1,h2,g acc (by lia),cb,e,CT];simp
theorem GZ(hx:Fre x)(ht:∀a∈xs,ft (vl (p a)::rest)=.ok (b a) (vl (p a)::rest))(he:∀a∈xs,b a=true->fe (vl (p a)::rest)=.ok (.t (q a)) (vl (p a)::rest))(hl:xs.length<=1000):Bh (tgN 0) ft fe (xs.map p) (x::rest) []=some ((xs.filter b).map q,CT p xs x::rest):=XQ xs x [] hx ht he (by show 0+_<=1000000;lia)
theorem Oo(hx:Fre x)(he:∀a∈xs,fe (vl (p a)::rest)=.ok (.t (q a)) (vl (p a)::rest))(hl:xs.length<=1000):Bh (tgN 0) DK fe (xs.map p) (x::rest) []=some (xs.map q,CT p xs x::rest):=by have:=GZ (ft:=DK) (b:=λ_=>true) hx (λ_ _=>rfl) (λa m _=>he a m) hl;rwa[List.filter_eq_self.mpr λ_ _=>rfl]at this
theorem RK:∀(xs:List α)(x y:Option Sl)(acc:List T),Fre x->Fre y->(∀a,p a=.tup [p1 a,p2 a])->(∀a∈xs,ft (vl (p1 a)::vl (p2 a)::rest)=.ok (b a) (vl (p1 a)::vl (p2 a)::rest))->(∀a∈xs,b a=true->fe (vl (p1 a)::vl (p2 a)::rest)=.ok (.t (q a)) (vl (p1 a)::vl (p2 a)::rest))->acc.length+xs.length<=big->Bh (AA 2 (Ad (tgN 0) (Ad (tgN 1) Av))) ft fe (xs.map p) (x::y::rest) acc=some (acc++(xs.filter b).map q,CT p1 xs x::CT p2 xs y::rest)
 | [],x,y,acc,_,_,_,_,_,_=>by simp[Bh,CT]
 |a::xs,x,y,acc,hx,hy,hp,ht,he,hl=>by
  rw[aX]at hl;have h1:AA 2 (Ad (tgN 0) (Ad (tgN 1) Av)) (p a) (x::y::rest)=some (vl (p1 a)::vl (p2 a)::rest):=by rw[hp];exact D5 (Gn rfl hx) (Gn rfl hy)
  have h2:=ht a aN;have h3:=he a aN;have g:=λacc hl=>RK xs (vl (p1 a)) (vl (p2 a)) acc An An hp (λa m=>ht a (ao _ m)) (λa m=>he a (ao _ m)) hl
  cases e:b a with|true =>rw[e]at h2;simp only[aj,Bh,h1,h2,h3 e,if_pos (show acc.length<big by lia),g (acc++[q a]) (by simp;lia),cb,e,CT];simp|false =>rw[e]at h2;simp only[aj,Bh,h1,h2,g acc (by lia),cb,e,CT];simp
theorem Oq{y:Option Sl}(hx:Fre x)(hy:Fre y)(hp:∀a,p a=.tup [p1 a,p2 a])(ht:∀a∈xs,ft (vl (p1 a)::vl (p2 a)::rest)=.ok (b a) (vl (p1 a)::vl (p2 a)::rest))(he:∀a∈xs,b a=true->fe (vl (p1 a)::vl (p2 a)::rest)=.ok (.t (q a)) (vl (p1 a)::vl (p2 a)::rest))(hl:xs.length<=1000):Bh (AA 2 (Ad (tgN 0) (Ad (tgN 1) Av))) ft fe (xs.map p) (x::y::rest) []=some ((xs.filter b).map q,CT p1 xs x::CT p2 xs y::rest):=RK xs x y [] hx hy hp ht he (by show 0+_<=1000000;lia)
theorem HQ{y:Option Sl}(hx:Fre x)(hy:Fre y)(hp:∀a,p a=.tup [p1 a,p2 a])(he:∀a∈xs,fe (vl (p1 a)::vl (p2 a)::rest)=.ok (.t (q a)) (vl (p1 a)::vl (p2 a)::rest))(hl:xs.length<=1000):Bh (AA 2 (Ad (tgN 0) (Ad (tgN 1) Av))) DK fe (xs.map p) (x::y::rest) []=some (xs.map q,CT p1 xs x::CT p2 xs y::rest):=by have:=Oq (ft:=DK) (b:=λ_=>true) hx hy hp (λ_ _=>rfl) (λa m _=>he a m) hl;rwa[List.filter_eq_self.mpr λ_ _=>rfl]at this
theorem at0:atI (t::ts) 0=some t:=BG (j:=0) rfl
theorem at1:atI (t::u::ts) 1=some u:=BG (j:=1) rfl
theorem at2{v:T}:atI (t::u::v::ts) 2=some v:=BG (j:=2) rfl
theorem JaR:Mp (t::ts) (some 1) none=ts:=Ja (by decide) (by simp)
def Src(fs:FS)(src:List (Option Nat)):Prop:=Dj fs (src.map λo=>o.elim Ini.no Ini.slot)=[]/\(src.all λo=>o.elim true λj=>decide (j<fs.length))=true
theorem so0:Src fs []:=⟨rfl,rfl⟩
theorem so1(h:Src fs src):Src fs (none::src):=h
theorem so2{j:Nat}(h0:fs[j]?=some (vl t))(h:Src fs src):Src fs (some j::src):=by
 refine⟨?_,?_⟩
 .show List.filterMap (Cp fs) (Ini.slot j::src.map _)=[];rw[List.filterMap_cons_none (by show(if(FL.AE fs j).isSome=true then some j else none)=none;unfold FL.AE;rw[h0];rfl)];exact h.1
 .rw[cR,h.2,Bool.and_true];exact aV (ak.mp h0).1
theorem U3(h1:it fs=.ok ts fs1)(hs:Src fs1 src)(hc:Bh gt ft fe ts (Ce fs1 (src.map λo=>o.elim Ini.no Ini.slot)) []=some (us,τ)):Bs false src it gt ft fe fs=.ok (.t (.lst us)) fs1:=by unfold Bs;rw[h1];show(if _ then _ else _)=_;rw[if_pos ⟨by rw[hs.1];exact aW,hs.2⟩,hc];show(match D1 _ τ fs1 with|some fs'=>_|none=>_)=_;rw[Bt hs.1];rfl
theorem Yy{o:Nat}(hv:fv fs=.ok (.t t) fs)(h0:fs[o]?=some (some (.own (.l ks ts))))(hi:fi fs=.ok (.t (.str k)) fs)(hn:(.inr k:Key)∉ks)(hl:ks.length<1000000):Ca fv (Aa o) fi fs=.nx (fs.set o (some (.own (.l (ks++[.inr k]) (ts++[t]))))):=MS h0 hv hi (any_false hn) hl rfl
theorem UW:GB fs=.ok (.nw (.l [] [])) fs:=rfl
theorem YT:fzR (.nw (.l ks ts)) fs=.ok (.t (.l ks ts)) fs:=rfl
theorem R0{xs:List Str}(h:ga fs=.ok [.t t,.t u] fs1)(hx:Jr t=some (xs.map T.str))(hy:Jr u=some us)(nd:xs.Nodup)(hl:xs.length=us.length):Me ga fs=.ok (.nw (.l (xs.map λx=>(.inr x:Key)) us)) fs1:=by unfold Me;rw[h];simp only[Out.bind,hx,hy,keys_map];rw[if_pos ⟨BB nd,by rw[ar];exact hl⟩]
theorem YG(h:f fs=.ok (.t t) fs1)(e:t=.lst ts\/t=.tup ts):Af Cd (Ab f Aj) fs=.ok (.nw (.lst ts)) fs1:=by refine Dg (CN h Cc) ?_;rcases e with rfl|rfl<;>rfl
theorem UX(h:f fs=.ok (.t (.l ks ts)) fs1):Af Cd (Ab f Aj) fs=.ok (.nw (.lst (ks.map Mn))) fs1:=Dg (CN h Cc) rfl
theorem Yo(h:f fs=.ok (.t t) fs1)(e:t=.lst ts\/t=.tup ts):Af A9 (Ab f Aj) fs=.ok (.t (.tup ts)) fs1:=by refine Dg (CN h Cc) ?_;rcases e with rfl|rfl<;>rfl
theorem Y7(h:f fs=.ok (.t (.lst us)) fs1)(e:us=xs.map λa=>T.o (b a)):Af UK (Ab f Aj) fs=.ok (.t (.o (xs.any b))) fs1:=by subst e;refine Dg (CN h Cc) ?_;have:=Gj (xs.map b);rw[aU]at this;simp only[UK,Dm,bE];rw[show(λa=>T.o (b a))=T.o∘b from rfl,this];show okT _ fs1=_;rw[List.any_map];rfl
theorem UO(h:fs[i]?=some (some (.own (.lst ts)))):Af A9 (Ab (Aa i) Aj) fs=.ok (.t (.tup ts)) fs:=by refine Dg (Mx (Cf h) True.intro Cc) ?_;simp only[A9,MH h];rfl
theorem Yu{r:Rv}{o:Out Rv}(h1:f fs=.ok r fs1)(n:Nn r)(h2:l fs1=.ok lo fs2)(h3:h fs2=.ok hi fs3)(e:NO r lo hi fs3=o):slF f l h fs=o:=by unfold slF;rw[h1,BJ n];show(l fs1).bind _=_;rw[h2];show(h fs2).bind _=_;rw[h3];exact e
theorem YA:noP fs=.ok none fs:=rfl
theorem RV{j:Int}(h:f fs=.ok (.t (.int j)) fs1):Dl f fs=.ok (some j) fs1:=by unfold Dl;rw[h];rfl
theorem UQ:NO (.t (.tup (t::ts))) (some 1) none fs=.ok (.t (.tup ts)) fs:=congrArg (λl=>Out.ok (Rv.t (.tup l)) fs) JaR
theorem UR:NO (.t (.lst (t::ts))) (some 1) none fs=.ok (.t (.lst ts)) fs:=congrArg (λl=>Out.ok (Rv.t (.lst l)) fs) JaR
theorem Y6(h0:fs[i]?=some (some (.own (.lst us))))(h:f fs=.ok (.t t) fs1)(h0':fs1[i]?=some (some (.own (.lst ts))))(hl:ts.length<1000000):AM (Bv E1 (Aa i) (Ab f Aj)) fs=.nx (fs1.set i (some (.own (.lst (ts++[t]))))):=X4 h0 h h0' hl rfl
end
theorem Ip{o:FO}:∀{gs:List Str}{os:List FO}{f:Str},gs.length=os.length->f∉gs->EX gs os f o=some (gs++[f],os++[o])
 | [],[],f,_,_=>rfl
 |g::gs,o'::os,f,hl,hn=>by
  have h1:¬g=f:=λe=>hn (e▸aN)
  have:=Ip (o:=o) (gs:=gs) (os:=os) (f:=f) (by simpa using hl) (λm=>hn (ao _ m));simp[EX,h1,this]
section
variable{f fv:FS->Out Rv}{fs fs1 τ:FS}{t:T}{i j z:Nat}{C:Addr}{n:Str}{gs:List Str}{os os' ds:List FO}{o:FO}{ks ks2:List Key}{ts ts2:List T}{k k2:Str}{s:FS->SO}{args:FS}{m:Nat}{a:Option Sl}
theorem U0{r:Rv}(hv:fv fs=.ok r fs1)(ha:Yb r=some o)(h0:fs1[i]?=some (some (.bor (.ins C gs os))))(hl:gs.length=os.length/\gs.length<900)(hn:n∉gs):HL C n i fv fs=.nx (fs1.set i (some (.bor (.ins C (gs++[n]) (os++[o]))))):=by unfold HL;rw[hv];simp only[SO.of,ha,Rc h0];rw[if_pos ⟨True.intro,hl.2⟩,Ip hl.1 hn];unfold FL.putAt;rw[h0];rfl
theorem JaM(k:Sat (λso=>∃τ,so=.nx (some (.bor o)::τ)) (s ((a::args)++List.replicate m none))):∃τ,Bl m s (a::args)=.ok (.t .v) (some (.bor o)::τ):=by obtain⟨τ,e⟩:=k;exact⟨τ.take args.length,by unfold Bl;rw[e];rfl⟩
theorem Zy:Sat (λso=>∃τ,so=.nx (some (.bor o)::τ)) (.nx (some (.bor o)::fs)):=⟨fs,rfl⟩
theorem YD{Fn:FS->Out Rv}{fa:FS->Out (List Rv)}{a1:T}(ha:fa fs=.ok [.t a1] fs1)(hf:Fn [some (.bor (.ins C [] [])),vl a1]=.ok (.t .v) (some (.bor o)::τ)):Af (EA C 2 Fn) fa fs=.ok (.nw o) fs1:=JU ha rfl rfl hf
theorem YC{Fn:FS->Out Rv}{fa:FS->Out (List Rv)}{a1 a2:T}(ha:fa fs=.ok [.t a1,.t a2] fs1)(hf:Fn [some (.bor (.ins C [] [])),vl a1,vl a2]=.ok (.t .v) (some (.bor o)::τ)):Af (EA C 3 Fn) fa fs=.ok (.nw o) fs1:=JU ha rfl rfl hf
theorem YB{Fn:FS->Out Rv}{fa:FS->Out (List Rv)}{a1 a2 a3 a4 a5:T}(ha:fa fs=.ok [.t a1,.t a2,.t a3,.t a4,.t a5] fs1)(hf:Fn [some (.bor (.ins C [] [])),vl a1,vl a2,vl a3,vl a4,vl a5]=.ok (.t .v) (some (.bor o)::τ)):Af (EA C 6 Fn) fa fs=.ok (.nw o) fs1:=JU ha rfl rfl hf
theorem YV{a1 a2 a3 a4 a5:T}:fzR (.nw (.ins C gs [.val a1,.val a2,.val a3,.val a4,.val a5])) fs=.ok (.t (.ins C gs [a1,a2,a3,a4,a5])) fs:=rfl
theorem QR(h0:fs[j]?=some (some (.bor o)))(hf:f ((AD fs).set j (vl (toT o)))=.ok (.t .v) τ):AM (JG j f) fs=.nx fs:=by refine Dx (r:=.t .v) ?_;unfold JG;rw[Rc h0];simp only[hf];rfl
theorem U1(hv:fv fs=.ok (.t t) fs1)(h0:fs1[i]?=some (some (.bor (.ins C gs os))))(hj:fs1[j]?=some (vl (.str k)))(hf:Bn gs os n=some (.l ks ts))(hn:(.inr k:Key)∉ks)(hl:ks.length<1000000)(hs:BK gs os n (.l (ks++[.inr k]) (ts++[t]))=os'):BI C n i j fv fs=.nx (fs1.set i (some (.bor (.ins C gs os')))):=HP hv h0 hj hf hn hl (by rw[hs])
theorem RX(h0:fs[i]?=some (some (.bor (.ins C gs os))))(hj:fs[j]?=some (vl (.str k)))(hf:Bn gs os n=some o)(ho:X3 o=some (ks,ds))(hn:(.inr k:Key)∉ks)(hl:ks.length<1000000)(hs:BK gs os n (.dO (ks++[.inr k]) (ds++[.l [] []]))=os'):Kc C n i j fs=.nx (fs.set i (some (.bor (.ins C gs os')))):=by subst hs;unfold Kc;simp only[Rc h0,hj,hf,if_true,Gm,ho];rw[if_pos ⟨hl,any_false hn⟩];unfold FL.putAt;rw[h0];rfl
theorem GD{d:FO}{kk:Key}:∀{ks:List Key}{ds:List FO},ks.length=ds.length->kk∉ks->Hk (ks++[kk]) (ds++[d]) kk=some d
 | [],[],_,_=>by simp[Hk]
 |a::ks,b::ds,h,n=>by simp only[cf,Hk];rw[if_neg λz=>n (by simp[z])];exact GD (by simpa using h) λm=>n (ao _ m)
theorem GI{d x:FO}{kk:Key}:∀{ks:List Key}{ds:List FO},ks.length=ds.length->kk∉ks->Hr (ks++[kk]) (ds++[d]) kk x=ds++[x]
 | [],[],_,_=>by simp[Hr]
 |a::ks,b::ds,h,n=>by simp only[cf,Hr];rw[if_neg λz=>n (by simp[z]),GI (by simpa using h) λm=>n (ao _ m)]
theorem RY(hv:fv fs=.ok (.t t) fs1)(h0:fs1[i]?=some (some (.bor (.ins C gs os))))(hj:fs1[j]?=some (vl (.str k)))(hz:fs1[z]?=some (vl (.str k2)))(hf:Bn gs os n=some (.dO (ks++[.inr k]) (ds++[.l ks2 ts2])))(hl:ks.length=ds.length)(hn:(.inr k:Key)∉ks)(hn2:(.inr k2:Key)∉ks2)(hl2:ks2.length<1000000)(hs:BK gs os n (.dO (ks++[.inr k]) (ds++[.l (ks2++[.inr k2]) (ts2++[t])]))=os'):dput2 C n i j z fv fs=.nx (fs1.set i (some (.bor (.ins C gs os')))):=by
 subst hs;have h3:Ew ks2 ts2 (.inr k2:Key) t=(ks2++[.inr k2],ts2++[t]):=by unfold Ew;rw[any_false hn2];rfl
 unfold dput2;rw[hv];simp only[SO.of,Rc h0,hj,hz,hf,if_true,Gm,GD hl hn,GI hl hn,h3];rw[if_pos (show ks2.length<big from hl2)];unfold FL.putAt;rw[h0];rfl
end
section
variable{Q:SO->Prop}{f:FS->Out Rv}{c ct:FS->Out Bool}{s s' h:FS->SO}{fs fs1:FS}{b b':Bool}{α β:Type}{ks:List Key}{ts:List T}{t:T}{k:Str}
theorem VC{J:β->FS}{P:β->Prop}(hc:c fs=.ok b fs1)(h1:b=true->∃x,P x/\s fs1=.nx (J x))(h2:b=false->∃x,P x/\s' fs1=.nx (J x))(k:∀x,P x->Sat Q (h (J x))):Sat Q (Am (ifS c s s') h fs):=by cases b with|true=>obtain⟨x,p,e⟩:=h1 rfl;exact LH (WJ hc e) (k x p)|false=>obtain⟨x,p,e⟩:=h2 rfl;exact LH (NI hc e) (k x p)
theorem Q8(h1:c fs=.ok b fs)(h2:ct fs=.ok b' fs):orT c ct fs=.ok (b||b') fs:=Yz h1 λ_=>h2
theorem YN{p:α->Str}{N:List α}(h:f fs=.ok (.t (.dF (N.map λa=>(.inr (p a):Key)) ts)) fs1):itD f fs=.ok (N.map λa=>.str (p a)) fs1:=by unfold itD;rw[h,BJ (x:=.t (.dF _ ts)) True.intro];show Out.ok _ fs1=_;rw[aU];rfl
theorem Z3{t:T}(h:CD ks ts (.inr k:Key)=some t):AZ (.t (.dF ks ts)) (.t (.str k)) fs=.ok (.t t) fs:=by show(match J6 (.t (.dF ks ts)) (.t (.str k)) fs with|o=>o)=_;unfold J6;simp only[RE,Gm,cE,h];rfl
theorem DV{L:List α}(hL:L≠[])(p:α->T)(x:Int):∃a∈L,atI (L.map p) (x%((L.map p).length:Int))=some (p a):=by
 have hl:0<L.length:=cg.mpr hL;rw[ar];have h1:=Int.emod_nonneg x (show(L.length:Int)≠0 by lia);have h2:=cJ x (show(0:Int)<L.length by lia);have hi:(x%(L.length:Int)).toNat<L.length:=by lia
 refine⟨L[(x%(L.length:Int)).toNat],List.getElem_mem hi,?_⟩;have:=BG (xs:=L.map p) (j:=(x%(L.length:Int)).toNat) (by rw[aP,ag hi];rfl);rwa[show(((x%(L.length:Int)).toNat:Nat):Int)=x%(L.length:Int) by lia]at this
inductive F2(R:α->β->Prop):List α->List β->Prop
 |nil:F2 R [] []
 |cons {a b as bs}:R a b->F2 R as bs->F2 R (a::as) (b::bs)
section
variable{R S:α->β->Prop}{as:List α}{bs:List β}
theorem F2.len(h:F2 R as bs):as.length=bs.length:=by induction h with|nil=>rfl|cons _ _ i=>simp[i]
theorem F2.imp(h:F2 R as bs)(i:∀a b,R a b->S a b):F2 S as bs:=by induction h with|nil=>exact .nil|cons h _ ih=>exact .cons (i _ _ h) ih
theorem F2.flip(h:F2 R as bs):F2 (λb a=>R a b) bs as:=by induction h with|nil=>exact .nil|cons h _ ih=>exact .cons h ih
theorem F2.snoc{a:α}{b:β}(h:F2 R as bs)(r:R a b):F2 R (as++[a]) (bs++[b]):=by induction h with|nil=>exact .cons r .nil|cons h _ ih=>exact .cons h ih
theorem Ug:∀{as:List α},(∀a∈as,∃b,R a b)->∃bs,F2 R as bs
 | [],_=>⟨[],.nil⟩
 |a::as,h=>let⟨b,r⟩:=h a aN;let⟨bs,rs⟩:=Ug λa m=>h a (ao _ m);⟨b::bs,.cons r rs⟩
end
theorem Ur{fe:FS->Out Rv}{p:α->T}{xs:List α}{vs:List T}{rest:FS}{x:Option Sl}(hx:Fre x)(hv:F2 (λa v=>fe (vl (p a)::rest)=.ok (.t v) (vl (p a)::rest)) xs vs)(hl:xs.length<=1000):Bh (tgN 0) DK fe (xs.map p) (x::rest) []=some (vs,CT p xs x::rest):=by
 have go:∀(xs:List α)(vs:List T)(x:Option Sl)(acc:List T),Fre x->F2 (λa v=>fe (vl (p a)::rest)=.ok (.t v) (vl (p a)::rest)) xs vs->acc.length+xs.length<=big->Bh (tgN 0) DK fe (xs.map p) (x::rest) acc=some (acc++vs,CT p xs x::rest):=by
  intro xs vs x acc hx h
  induction h generalizing x acc with|nil=>intro _;simp[Bh,CT]|@cons a v xs vs h _ ih =>intro hl;rw[aX]at hl;rw[aj,Lc (Gn (z:=x) rfl hx) h (by lia),ih (vl (p a)) (acc++[v]) An (by simp;lia)];simp[CT]
 exact go xs vs x [] hx hv (by show 0+_<=1000000;lia)
end
section
variable{f:FS->Out Rv}{fs fs1:FS}{b:Bool}{ts:List T}{n:Nat}{ks:List Key}
theorem UZ(h:f fs=.ok (.t (.o b)) fs1):Af HK (Ab f Aj) fs=.ok (.t (.int (if b=true then 1 else 0))) fs1:=Dg (CN h Cc) rfl
theorem UT(h:n<=ts.length):NO (.t (.lst ts)) none (some (n:Int)) fs=.ok (.t (.lst (ts.take n))) fs:=by have:=Ol (xs:=ts) (v:=(n:Int)) (by lia) (by simpa using h);rw[bD]at this;show Out.ok (Rv.t (.lst (Mp ts none (some (n:Int))))) fs=_;rw[this]
theorem XR{fe:FS->Out Rv}{vs:List T}{rest:FS}{x:Option Sl}(hx:Fre x)(hv:F2 (λa v=>fe (vl a::rest)=.ok (.t v) (vl a::rest)) ts vs)(hl:ts.length<=1000):Bh (tgN 0) DK fe ts (x::rest) []=some (vs,CT id ts x::rest):=by have:=Ur (p:=id) hx hv hl;rwa[List.map_id]at this
theorem R4(h:f fs=.ok (.t (.dF ks ts)) fs1):Af IS (Ab f Aj) fs=.ok (.nw (.l ks ts)) fs1:=Dg (CN h Cc) rfl
theorem YX{i:Nat}(h:fs[i]?=some (some (.own (.l ks ts)))):fzD (Aa i) fs=.ok (.t (.dF ks ts)) (fs.set i (vl (.dF ks ts))):=by unfold fzD;rw[Cf h,BJ (x:=.n i) True.intro];simp only[h]
end
section
variable{f:FS->Out Rv}{ga:FS->Out (List Rv)}{fs fs1:FS}{ts:List T}{n m:Nat}{a b j:Int}{α β γ:Type}
theorem YL(h:ga fs=.ok [.t (.int j)] fs1)(hj:j=(n:Int))(hn:n<1000):Mo ga fs=.ok ((List.range n).map λi=>T.int (i:Nat)) fs1:=by subst hj;rw[MM h ⟨by lia,by lia⟩,bD];unfold FL.upTo;simp
theorem Ys(ha:a=(n:Int))(hb:b=(m:Int))(h:n<=m/\m<=ts.length):NO (.t (.lst ts)) (some a) (some b) fs=.ok (.t (.lst ((ts.drop n).take (m-n)))) fs:=by subst ha hb;show Out.ok (Rv.t (.lst (Mp ts (some (n:Int)) (some (m:Int))))) fs=_;unfold Mp;rw[HT.MJ,HT.MJ,Nat.min_eq_left h.2,Nat.min_eq_left (by lia)]
theorem TQ(h:0<b/\b.natAbs.log2<9000):Qb (.t (.int a)) (.t (.int b)) fs=.ok (.t (.int (a/b))) fs:=if_pos h
theorem F2.ZV{S:α->β->Prop}{f:γ->β}{as:List α}{cs:List γ}(h:F2 (λa c=>S a (f c)) as cs):F2 S as (cs.map f):=by induction h with|nil=>exact .nil|cons h _ ih=>exact .cons h ih
theorem HN(p:α->T):∀(L:List α)(i:Nat),Eo (i:Int) (L.map p)=(L.zipIdx i).map λq=>.tup [.int q.2,p q.1]
 | [],_=>rfl
 |a::L,i=>by have:=HN p L (i+1);simp only[aj,Eo,List.zipIdx_cons];rw[<- this];simp
end
theorem KZ{k:Str}{xs:List Str}(h:k∉xs):(.inr k:Key)∉xs.map λm=>(.inr m:Key):=λm=>by obtain⟨x,hm,e⟩:=aI.mp m;exact h (Sum.inr.inj e▸hm)
theorem OZ{c:Str}{i:Nat}{z:Str}{fs:FS}(h:fs[i]?=some (vl (.str z)))(hz:C7 z=true):GK c (Aa i) fs=.exc c fs:=by unfold GK;rw[Al h];show(if C7 z=true then SO.exc c fs else .bad)=_;rw[if_pos hz]
section
variable{f fk fv:FS->Out Rv}{fs fs1 fs2 τ:FS}{ts:List T}{t u:T}{n j:Nat}{a:Int}{ks:List Key}{k:Str}{s:FS->SO}{args:FS}{A:FO->Prop}{o:FO}{r:Rv}
theorem Yt(h:n<=ts.length)(ha:a=(n:Int)):NO (.t (.lst ts)) (some a) none fs=.ok (.t (.lst (ts.drop n))) fs:=by subst ha;have:=Ja (xs:=ts) (v:=(n:Int)) (by lia) (by simpa using h);rw[bD]at this;unfold NO;simp only[Dm,this];rfl
theorem RZ(hk:fk fs=.ok (.t (.str k)) fs1)(hv:fv fs1=.ok (.t u) fs2):IY fk fv fs=.ok (.nw (.l [.inr k] [u])) fs2:=by unfold IY;rw[hk];show(match fv fs1 with|.ok (.t y) fs2=>_|_=>_)=_;rw[hv];rfl
theorem RU(h0:fs[j]?=some (some (.own (.l ks ts))))(hf:f ((AD fs).set j (vl (.dF ks ts)))=.ok (.t t) τ)(hn:noD t=true):Lz j f fs=.ok (.t t) fs:=by unfold Lz;rw[h0];simp only[hf,hn,if_true]
def Ro(A:FO->Prop)(so:SO):Prop:=∃i τ o,so=.ret (.n i) τ/\τ[i]?=some (some (.own o))/\A o
theorem Kz(k:Sat (Ro A) (s (args++List.replicate n none))):∃o τ,Bl n s args=.ok (.nw o) τ/\A o:=by unfold Sat at k;obtain⟨i,τ,o,e,h,a⟩:=k;exact⟨o,_,OV e h,a⟩
theorem X8{i:Nat}(h:fs[i]?=some (some (.own o)))(a:A o):Sat (Ro A) (.ret (.n i) fs):=by unfold Sat;exact⟨i,fs,o,rfl,h,a⟩
end
theorem Qy:DG [vl (.zK "NoFunction")]=.ok (.t (.str "NoFunction")) [vl (.zK "NoFunction")]:=by rfl
theorem Qx:DG [vl (.zK "NoMaker")]=.ok (.t (.str "NoMaker")) [vl (.zK "NoMaker")]:=by rfl
section
variable{Q:SO->Prop}{f:FS->Out Rv}{ga:FS->Out (List Rv)}{s g h:FS->SO}{fs fs1 fs2 fs3 args τ:FS}{i j n p:Nat}{c z y m:Str}{C:Addr}{Fn:FS->Out Rv}{a0 a1 a2 t:T}{okc:Str->Bool}{neg:Bool}{xs ts:List T}{r:Rv}
theorem MO(k:Sat (λso=>∃τ,so=.exc c τ) (s (args++List.replicate n none))):∃τ,Bl n s args=.exc c τ:=by obtain⟨τ,e⟩:=k;exact⟨_,OW e⟩
theorem Jbz:Sat (λso=>∃τ,so=.exc c τ) (.exc c fs):=⟨fs,rfl⟩
theorem JbC(h0:fs[i]?=some (vl (.str z)))(hz:C7 z=true)(k:Sat Q (.exc c fs)):Sat Q (Am (GK c (Aa i)) h fs):=by unfold Sat;rw[Kw (OZ h0 hz)];exact k
theorem Zv(h0:fs[i]?=some (vl (.str z)))(hz:C7 z=true)(h1:fs[j]?=some (vl (.str y)))(hy:C7 y=true)(k:Sat Q (.exc c fs)):Sat Q (Am (Fp c (Aa i) (Aa j)) h fs):=by
 have e:Fp c (Aa i) (Aa j) fs=.exc c fs:=by unfold Fp;rw[Al h0];simp only[SO.of,hz,if_true,Al h1,hy]
 unfold Sat;rw[Kw e];exact k
theorem YF(h1:f fs=.ok (.t a0) fs1)(h2:ga fs1=.ok [.t a1] fs2)(hf:Fn [vl a0,vl a1]=.exc c τ)(hi:EC C m fs1 (.t a0)=true):AM (CW C m 2 Fn f ga) fs=.exc c fs2:=by refine IW ?_;unfold CW;rw[h1,BJ (x:=.t a0) True.intro];show(if _ then _ else _)=_;rw[if_pos hi,h2];exact Jh (fa:=λfs=>.ok [.t a0,.t a1] fs) rfl rfl rfl hf
theorem YE(h1:f fs=.ok (.t a0) fs1)(h2:ga fs1=.ok [.t a1,.t a2] fs2)(hf:Fn [vl a0,vl a1,vl a2]=.exc c τ)(hi:EC C m fs1 (.t a0)=true):AM (CW C m 3 Fn f ga) fs=.exc c fs2:=by refine IW ?_;unfold CW;rw[h1,BJ (x:=.t a0) True.intro];show(if _ then _ else _)=_;rw[if_pos hi,h2];exact Jh (fa:=λfs=>.ok [.t a0,.t a1,.t a2] fs) rfl rfl rfl hf
theorem Yn(hg:g fs=.exc c fs1)(hc:okc c=true)(hs:JB i (.t (.zK c)) fs1=some fs2)(hh:h fs2=.nx fs3)(hv:fs3[i]?=some (vl t)):UH i okc g h fs=.nx (fs3.set i none):=by unfold UH;rw[hg];show UI i okc h c fs1=_;unfold UI;rw[if_pos hc,hs];simp only[hh,hv]
end
section
variable{f:FS->Out Rv}{fs τ:FS}{i j:Nat}{ts:List T}{o:FO}{C:Addr}{K:Kd}{hs:List T}{G:List Fd}
theorem Yx(h0:fs[i]?=some (some (.own (.lst ts)))):AM (Bv NQ (Aa i) Aj) fs=.nx (fs.set i (some (.own (.lst ts.reverse)))):=by refine Dx (r:=.t .v) ?_;unfold Bv;rw[Cf h0,BJ (x:=.n i) True.intro];simp only[MH h0,Option.isSome_some,if_true,Cc,Out.bind,NQ,UJ h0];unfold FL.putAt;rw[h0];rfl
theorem Y2(h0:fs[i]?=some (some (.own (.lst ts)))):AM (Bv IT (Aa i) Aj) fs=.nx (fs.set i (some (.own (.lst [])))):=by refine Dx (r:=.t .v) ?_;unfold Bv;rw[Cf h0,BJ (x:=.n i) True.intro];simp only[MH h0,Option.isSome_some,if_true,Cc,Out.bind,IT,UJ h0];unfold FL.putAt;rw[h0];rfl
theorem YO(h0:fs[i]?=some (some (.own (.lst ts)))):isG "list" (Aa i) fs=.ok (.t (.o true)) fs:=by unfold isG;rw[Cf h0,BJ (x:=.n i) True.intro];simp only[UJ h0];rfl
theorem RT(h0:fs[j]?=some (some (.own (.lst ts))))(hf:f ((AD fs).set j (vl (.z0 ts)))=.ok (.nw o) τ)(hn:IG o=true):Ly j f fs=.ok (.nw o) fs:=by unfold Ly;rw[h0];simp only[hf,hn,if_true]
theorem YU:fzR (.nw (Kt C K hs)) fs=.ok (.t (A5 C K hs)) fs:=rfl
end
theorem ZA{Q:SO->Prop}{s h:FS->SO}{fs fs':FS}(e:fs=fs')(k:Sat Q (Am s h fs')):Sat Q (Am s h fs):=by rw[e];exact k
abbrev cds(s:Str):List Nat:=s.cps.toList
theorem HS(x y:Str):cds (x++y)=cds x++cds y:=by show(x.cps++y.cps).toList=_;simp
theorem Bw(x:Str):x.length=(cds x).length:=by show x.cps.size=_;simp
structure Lw(s:Str):Prop where
 lo:1<=(cds s).length
 hi:(cds s).length<=12
 al:∀c∈cds s,97<=c/\c<=122
abbrev ch(c:Nat):Str:=⟨#[c]⟩
abbrev Ww:Str:="abcdefghijklmnopqrstuvwxyz"
noncomputable def sgn(c:Nat):Str:=⟨#[c]⟩
noncomputable def isL(c:Nat):Bool:=!(Builtin.Str.occurrences Ww (sgn c) 0 Ww.length 1).isEmpty
noncomputable def isNm(z:Str):Bool:=decide (1<=z.length/\z.length<=12)&&z.cps.toList.all isL
theorem WH{neg:Bool}{c:Nat}{fs:FS}:DC neg (.t (.str (sgn c))) (.t (.str Ww)) fs=.ok (.t (.o (if neg then !isL c else isL c))) fs:=rfl
theorem Ld{fe:FS->Out Rv}{h:Nat->T}:∀(cs:List Nat)(x:Option Sl)(acc:List T),Fre x->(∀c∈cs,fe [vl (.str (sgn c))]=.ok (.t (h c)) [vl (.str (sgn c))])->acc.length+cs.length<=1000->∃y,Bh (tgN 0) DK fe (cs.map λc=>T.str (sgn c)) [x] acc=some (acc++cs.map h,[y])
 | [],x,acc,_,_,_=>⟨x,by simp[Bh]⟩
 |c::cs,x,acc,fx,he,hl=>by rw[aX]at hl;obtain⟨y,e⟩:=Ld (fe:=fe) (h:=h) cs (vl (.str (sgn c))) (acc++[h c]) An (λc m=>he c (ao _ m)) (by rw[bg];simp;lia);refine⟨y,?_⟩;rw[aj,Lc (by unfold tgN;exact By rfl fx) (he c (by simp)) (by show _<1000000;lia),e];simp
theorem len_str{i:Nat}{z:Str}{fs:FS}(h:fs[i]?=some (vl (.str z)))(hz:z.length<=1000):Af Be (Ab (Aa i) Aj) fs=.ok (.t (.int z.length)) fs:=by have e:NS [.t (.str z)] fs=.ok (.t (.int z.length)) fs:=if_pos (show z.length<=1000000 by lia);refine Er (DI (Al h) rfl) ?_;unfold Be orC;show(match orC NS Qa [.t (.str z)] fs with|o=>o)=_;unfold orC;rw[e]
theorem between{f:FS->Out Rv}{n:Nat}{m:Int}{fs:FS}(h:f fs=.ok (.t (.int n)) fs):E8 (asB (chain gLe gLe (gc (.int 1)) f (gc (.int m)))) fs=.ok (!decide (1<=n/\(n:Int)<=m)) fs:=by
 have e1:gLe (.t (.int 1)) (.t (.int n)) fs=.ok (.t (.o (decide ((1:Int)<=n)))) fs:=rfl;have e2:gLe (.t (.int n)) (.t (.int m)) fs=.ok (.t (.o (decide ((n:Int)<=m)))) fs:=rfl;by_cases h1:(1:Int)<=n
 .rw[aV h1]at e1;simp only[E8,asB,chain,gc,Out.bnd,Out.bind,h,e1,e2];congr 2;rw[decide_eq_decide];constructor
  .exact λz=>⟨by lia,z⟩
  .exact λz=>z.2
 .rw[aT h1]at e1;simp only[E8,asB,chain,gc,Out.bnd,Out.bind,h,e1];rw[aT (by lia)]
theorem PJ{z:Str}(hz:z.length<=1000):AQ [vl (.str z)]=.ok (.t (.o (isNm z))) [vl (.str z)]:=by
 have hc:=between (m:=12) (len_str (i:=0) (fs:=[vl (.str z)]) rfl hz);refine(Ik (n:=0) (g:=Ge) (args:=[vl (.str z)]) (τ:=[vl (.str z)]) ?_).trans rfl;unfold Ge;by_cases h:1<=z.length/\(z.length:Int)<=12
 .rw[aV h]at hc;refine sq (DW hc rfl) ?_;obtain⟨y,e2⟩:=Ld (fe:=Ag (DC false) (fz (Aa 0)) (gc (.str Ww))) (h:=λc=>.o (isL c)) z.cps.toList none [] AH (λc m=>Au (BH (Al rfl)) B9 WH) (by rw[bP];show 0+z.length<=1000;lia);have e3:=Kf (src:=[none]) (fi:=itU (fz (Aa 0))) (fs:=[vl (.str z)]) (ts:=signs z) rfl ⟨by rw[show Dj [vl (.str z)] _=[]from rfl];exact aW,by rfl⟩ e2 (Bt rfl);rw[bN,show z.cps.toList.map (λc=>T.o (isL c))=(z.cps.toList.map isL).map T.o by rw[aU];rfl]at e3;refine B7 (Er (DI e3 rfl) ?_);simp only[WY,Dm,bE,Gj,okT];congr 3;unfold isNm;rw[aV (show 1<=z.length/\z.length<=12 by lia),List.all_map];rfl
 .rw[aT h]at hc;have:isNm z=false:=by unfold isNm;rw[aT (show ¬(1<=z.length/\z.length<=12) by lia)];rfl
  rw[this];exact E5 (NH hc (B7 B9))
theorem Ri(c:Nat):isL c=decide (97<=c/\c<=122):=by unfold isL sgn;rw[StrLaws.found_one,show Ww.cps.toList=List.range' 97 26 from by decide +kernel,decide_eq_decide,List.mem_range'_1];lia
theorem Wr(z:Str):isNm z=true↔Lw z:=by
 unfold isNm;rw[aL,decide_eq_true_iff,bx];constructor
 .exact λh=>⟨by rw[<- Bw];exact h.1.1,by rw[<- Bw];exact h.1.2,λc m=>by have:=h.2 c m;rw[Ri]at this;exact aO this⟩
 .exact λh=>⟨⟨by rw[Bw];exact h.lo,by rw[Bw];exact h.hi⟩,λc m=>by rw[Ri];exact aV (h.al c m)⟩
abbrev mkS(l:List Nat):Str:=⟨l.toArray⟩
theorem QY{f:FS->Out Rv}{l h:FS->Out (Option Int)}{fs:FS}{z:Str}{lo hi:Option Int}(h1:f fs=.ok (.t (.str z)) fs)(h2:l fs=.ok lo fs)(h3:h fs=.ok hi fs)(hz:z.length<=1000):slS f l h fs=.ok (.t (.str (Txt.slice z lo hi))) fs:=by unfold slS;rw[h1];show(l fs).bind _=_;rw[h2];show(h fs).bind _=_;rw[h3];show(if(Txt.slice z lo hi).length<=big then okT (.str (Txt.slice z lo hi)) fs else .bad)=_;rw[if_pos (aR (Txt.slice_le z lo hi) (aR hz (by decide)))];rfl
theorem Kv{g:FS->Out Rv}{fs:FS}{i:Int}(h:g fs=.ok (.t (.int i)) fs):Dl g fs=.ok (some i) fs:=by unfold Dl;rw[h];rfl
theorem ixS{z:Str}{i c:Nat}{fs:FS}(hz:(cds z).length<=1000)(h:(cds z)[i]?=some c):AZ (.t (.str z)) (.t (.int i)) fs=.ok (.t (.str (ch c))) fs:=by
 have:gIx (.t (.str z)) (.t (.int i)) fs=.ok (.t (.str (ch c))) fs:=by show(if z.length<=big then match atI z.cps.toList i with|some c=>okT (.str ⟨#[c]⟩) fs|none=>.bad else .bad)=_;rw[if_pos (by rw[Bw];exact aR hz (by decide)),BG h];rfl
 show(match gIx (.t (.str z)) (.t (.int i)) fs with|.bad=>_|o=>o)=_;rw[this]
theorem Zo{f g:FS->Out Rv}{fs:FS}{z:Str}{i:Nat}(h1:f fs=.ok (.t (.str z)) fs)(h2:g fs=.ok (.t (.int i)) fs)(hi:i<=(cds z).length)(hz:(cds z).length<=1000) :
  slS f noP (Dl g) fs=.ok (.t (.str (mkS ((cds z).take i)))) fs:=by
 rw[QY (l:=noP) (lo:=none) h1 rfl (Kv h2) (by rw[Bw];exact hz),beq_iff_eq.mp (PyProof.Rows.slice_closes_to (x:=z) (j:=i) ⟨by lia,Int.ofNat_le.mpr hi⟩)];rfl
theorem Zq{f g:FS->Out Rv}{fs:FS}{z:Str}{i:Nat}(h1:f fs=.ok (.t (.str z)) fs)(h2:g fs=.ok (.t (.int i)) fs)(hz:(cds z).length<=1000) :
  slS f (Dl g) noP fs=.ok (.t (.str (mkS ((cds z).drop i)))) fs:=by
 rw[QY (h:=noP) (hi:=none) h1 (Kv h2) rfl (by rw[Bw];exact hz)];have hl:=Bw z;rcases Nat.lt_or_ge (cds z).length i with q|q
 .rw[PyProof.Rows.slice_beyond (by lia),cU (by lia)];rfl
 .rw[PyProof.Rows.slice_from_eq (b:=(z.length:Int)) (by lia) (by lia) rfl];congr 4;show(((cds z).drop (i:Int).toNat).take _).toArray=((cds z).drop i).toArray;rw[bD,bU (by rw[bQ];lia)]
open PySem.Builtin.Int (intBits)
theorem Fq(m:Nat)(hm:m<=1000000){fs:FS}:Ag J2 (gc (.int 10)) (gc (.int m)) fs=.ok (.t (.int (10^m))) fs:=by refine Au B9 B9 ?_;show(if(0:Int)<=m/\(m:Int)<=1000000/\(10:Int).natAbs<2^64 then okT (.int (10^(m:Int).toNat)) fs else .bad)=_;rw[if_pos ⟨by lia,by lia,by decide⟩];rfl
theorem KQ{x q:Int}{n:Nat}(h0:0<q)(h:q.natAbs<=2^n):intBits (x%q)<=n:=EJ (by have h1:=Int.emod_nonneg x (show q≠0 by lia);have h2:=cJ x h0;lia)
theorem mix(c:Int){k:Nat}(hk:k<=100):∃(v:Int)(τ:FS),Cs [iv c,iv k]=.ok (.t (.int v)) τ:=by
 have run:∀{v:Int}{τ:FS},Oy [iv c,iv k,none]=.ret (.t (.int v)) τ->∃(v:Int)(τ:FS),Cs [iv c,iv k]=.ok (.t (.int v)) τ:=λ{v τ} h=>⟨v,_,Ik (n:=1) (g:=Oy) (args:=[iv c,iv k]) h⟩
 have big26:(2:Nat)^26=67108864:=by decide
 have c1:=RC (fa:=Ag Dw (Aa 0) (gc (.int 2))) (fb:=gc (.int 1)) (fs:=[iv c,iv k,none]) (i:=c%2) (Au (Al rfl) B9 (GW (by decide))) B9;have c2:asB (Ag gGt (Aa 0) (Ag J2 (gc (.int 10)) (gc (.int 30)))) [iv c,iv k,none]=.ok (decide ((10:Int)^30<c)) [iv c,iv k,none]:=Dz (Au (Al rfl) (Fq 30 (by decide)) rfl);have cc:=Km c1 c2;cases hb:(decide (c%2=1)&&decide ((10:Int)^30<c))with
 |true =>rw[hb]at cc;exact run (E5 (NH cc (B7 (Au (Al rfl) B9 (NT ⟨by decide,by decide⟩)))))
 |false =>
  rw[hb]at cc;have p60:(0:Int)<10^60:=by decide
  have n60:((10:Int)^60).natAbs<=2^200:=by decide
  have s1:AK 2 (Ag Dw (Aa 0) (Ag J2 (gc (.int 10)) (gc (.int 60)))) [iv c,iv k,none]=.nx [iv c,iv k,iv (c%10^60)]:=Hq (Au (Al rfl) (Fq 60 (by decide)) (GW p60)) rfl;have b0:intBits (c%10^60)<=200:=KQ p60 n60;generalize c%10^60=x at s1 b0;have bk:intBits (k:Int)<=7:=EJ (by show k<2^7;lia);have m1:Ag Bq (Ag Bq (gc (.int 40503)) (Aa 1)) (Aa 1) [iv c,iv k,iv x]=.ok (.t (.int (40503*k*k))) [iv c,iv k,iv x]:=Au (Au B9 (Al rfl) (J4 ⟨by decide,by decide⟩)) (Al rfl) (J3 ⟨by lia,by lia⟩);have m2:Ag Bq (Ag AG (Ag AG (Ag Bq (Aa 2) (Aa 2)) (Ag Bq (Ag Bq (gc (.int 40503)) (Aa 1)) (Aa 1))) (gc (.int 7919))) (gc (.int 1812433253982451697)) [iv c,iv k,iv x]=.ok (.t (.int ((x*x+40503*k*k+7919)*1812433253982451697))) [iv c,iv k,iv x] :=
   Au (Au (Au (Au (Al rfl) (Al rfl) (J5 ⟨by lia,by lia⟩)) m1 EG) B9 EG) B9 (J3 ⟨by decide,by decide⟩)
  generalize (x*x+40503*k*k+7919)*1812433253982451697=y at m2;have p18:(0:Int)<10^18+9:=by decide
  have n18:((10:Int)^18+9).natAbs<=2^61:=by decide
  have s2:AK 2 (Ag Dw (Ag Bq (Ag AG (Ag AG (Ag Bq (Aa 2) (Aa 2)) (Ag Bq (Ag Bq (gc (.int 40503)) (Aa 1)) (Aa 1))) (gc (.int 7919))) (gc (.int 1812433253982451697))) (Ag AG (Ag J2 (gc (.int 10)) (gc (.int 18))) (gc (.int 9)))) [iv c,iv k,iv x]=.nx [iv c,iv k,iv (y%(10^18+9))] :=
   Hq (Au m2 (Au (Fq 18 (by decide)) B9 EG) (GW p18)) rfl
  have b1:intBits (y%(10^18+9))<=61:=KQ p18 n18;generalize y%(10^18+9)=z at s2 b1;have b2:intBits (z*z+k)<=61+61+1:=bits_add (bits_mul b1 b1) (by lia);have bc:intBits 739108512309184756019283746561<=100:=EJ (by decide);have m3:Ag Bq (Ag AG (Ag Bq (Aa 2) (Aa 2)) (Aa 1)) (gc (.int 739108512309184756019283746561)) [iv c,iv k,iv z]=.ok (.t (.int ((z*z+k)*739108512309184756019283746561))) [iv c,iv k,iv z] :=
   Au (Au (Au (Al rfl) (Al rfl) (J5 ⟨by lia,by lia⟩)) (Al rfl) EG) B9 (J5 ⟨by lia,by lia⟩)
  have p40:(0:Int)<10^40+121:=by decide
  exact run (sq (DW cc rfl) (sq s1 (sq s2 (B7 (Au m3 (Au (Fq 40 (by decide)) B9 EG) (GW p40))))))
section
seal Sat Rr Src Am AK ifS retS AM Dk HX Ag Aa gc fz Ae Ab Aj Af Ah Aw Bv CW HD Bs asB E8 Kr Lq orT tgN AA Ad LA Av itU itZ itE itD Mo DD slF chain GX gEq AZ DC Dw Fb J1 AG Bq fzR JB Me EA HL Ca BI Kc dput2 JG fzD NO Bp Dc Eg L7 Lz Ly isG slS
set_option hygiene false
def Zz9(s:String):Lean.MacroM Lean.Syntax:=do
 let l<-(s.splitOn " ").toArray.mapM λx=>do
  let a<-((x.drop 1).toString.splitOn ",").toArray.mapM λy:String=>match y with
   |"!"=>`(by assumption)|"%"=>`(hr.mono (by first | decide | lia))|"&"=>`(by decide +kernel)|"#"=>`(Z1 hr)|"$"=>`(T.xt.t1 (by decide +kernel))|"^"=>`(by decide)|"~"=>`(⟨by omega,by omega⟩)|"="=>`(by first | exact lk.lk | exact Lks.no)|"+"=>`(by first | exact T.zU | exact T.zI | exact T.zO | exact T.zJ | exact T.zH)|"*"=>`(by first | exact Or.inl rfl | exact Or.inr rfl)|"?"=>`(?_)|"_"=>`(_)|_=>return Lean.mkIdent y.toName
  let t:=Lean.Syntax.mkApp a[0]! (a.extract 1)
  match x.front with
  |'a'=>`(Lean.Parser.Tactic.tacticSeq|apply $t)|'e'=>`(Lean.Parser.Tactic.tacticSeq|exact $t)|_=>`(Lean.Parser.Tactic.tacticSeq|refine $t)
 `(tactic|first $[|$l]*)
local macro_rules|`(tactic|infer_instance)=>`(tactic|(first|(refine(?_:_<=((_:Nat):Int));focus (first | omega | (simp;omega)))|(refine(?_:((_:Nat):Int)<=_);focus (first | omega | (simp;omega)))|(refine(?_:CD _ _ _=_);assumption)|(refine(?_:_=Out.ok _ _);assumption)))
local macro_rules|`(tactic|infer_instance)=>`(tactic|(refine(?_:(_:Bool)=false);focus (first | rfl | (simp [h1];done) | (simp [h];done) | (simp [hl];done))))
local macro_rules|`(tactic|infer_instance)=>`(tactic|(refine(?_:¬ _);focus (decide +kernel)))
local macro_rules|`(tactic|infer_instance)=>Zz9 "eJbu eJbt ePK,& ePL,&"
local macro_rules|`(tactic|infer_instance)=>`(tactic|(refine(?_:_<=big);focus (show _<=1000000;first | omega | (simp;omega))))
local macro_rules|`(tactic|infer_instance)=>Zz9 "eNat.le_of_ble_eq_true,rfl"
local macro_rules|`(tactic|infer_instance)=>`(tactic|(first|exact(rfl:DK _=_)|exact .inl rfl|exact .inr rfl|exact .inr (.inl rfl)))
local macro_rules|`(tactic|infer_instance)=>Zz9 "eso0 aso1 aso2,rfl aUY aYK aYM aYN aYL"
local macro_rules|`(tactic|infer_instance)=>`(tactic|(first|(refine(?_:Yb _=_);rfl)|(refine(?_:_/\List.length _ < 900);exact⟨rfl,Nat.le_of_ble_eq_true rfl⟩)|(refine(?_:¬ _∈([]:List Str));exact aZ)|(refine(?_:(_:FS)[(_:Nat)]?=_);rfl)|(refine(?_:¬ _);assumption)|(refine(?_:_ < 1000000);focus (first | omega | (simp;omega)))|(refine(?_:List.length _<=List.length _);focus (first | omega | (simp;omega)))|(refine(?_:List.length _=_);first | rfl | focus (simp;done))|(refine(?_:List.map _ _=List.map _ _);rfl)))
local macro_rules|`(tactic|infer_instance)=>Zz9 "aJbA aU4 eYA aRV"
local macro_rules|`(tactic|infer_instance)=>`(tactic|(refine(?_:_=_->Sat _ _);first | (focus (intro hb;exfalso;simp [Ma] at hb;first | done | contradiction | omega)) | (focus (intro hb;exfalso;simp [h] at hb;done)) | (focus (intro hb;exfalso;simp [h1] at hb;done)) | (focus (intro hb;exfalso;simp [hv] at hb;done)) | intro hb))
local macro_rules|`(tactic|infer_instance)=>do
 let w1<-Zz9 "eJbb eJba eJa9 eJa8 eJa7 eJbg eJbf eJbe eJbd eJbc"
 `(tactic|(refine(?_:(_:Option _)=_);first|(refine(?_:atI _ _=_);with_unfolding_all rfl)|$(⟨w1⟩):tactic|(refine(?_:atI _ _=_);assumption)))
local macro_rules|`(tactic|infer_instance)=>do
 let w1<-Zz9 "aYm aUP aYp eGn,rfl,True.intro eGn,rfl,! eYq eBy,rfl,True.intro eBy,rfl,! eQX,rfl,True.intro eQX,rfl,! eY9 aY8 eYr eat0 eat1 eat2"
 `(tactic|(refine(?_:(_:Option _)=_);$(⟨w1⟩):tactic))
local macro_rules|`(tactic|infer_instance)=>do
 let w1<-Zz9 "aU1 aRX aRY"
 `(tactic|(refine(?_:(_:SO)=_);$(⟨w1⟩):tactic))
local macro_rules|`(tactic|infer_instance)=>do
 let w1<-Zz9 "aQQ aRW aQP aYw aYv aY4 aB7 aY6,rfl aQR,rfl eYx,rfl eY2,rfl aDx aMw aYy aU0 aQR,rfl"
 `(tactic|(refine(?_:(_:SO)=_);$(⟨w1⟩):tactic))
local macro_rules|`(tactic|infer_instance)=>do
 let w1<-Zz9 "eZ9 aYZ aY1 eJaY eJa0 eJaZ eX9"
 let w2<-Zz9 "eRj eJbH,!"
 `(tactic|(refine(?_:(_:Out Rv)=_);first|$(⟨w1⟩):tactic|exact Tz (UJ rfl)|$(⟨w2⟩):tactic))
local macro_rules|`(tactic|infer_instance)=>do
 let w1<-Zz9 "aYC aYB aYY eEG eWT aUy aXY eGW,^"
 let w2<-Zz9 "eNT,^ eNT,~"
 let w3<-Zz9 "eJ4,~"
 let w4<-Zz9 "eZ7"
 `(tactic|(refine(?_:(_:Out Rv)=_);first|$(⟨w1⟩):tactic|exact GW (by omega)|$(⟨w2⟩):tactic|exact J4 ⟨by decide,by decide⟩|$(⟨w3⟩):tactic|exact J3 ⟨by split <;> decide,by split <;> decide⟩|exact TQ ⟨by decide,by decide +kernel⟩|$(⟨w4⟩):tactic))
local macro_rules|`(tactic|infer_instance)=>do
 let w1<-Zz9 "aRT,rfl eYO,rfl aYG aUO,rfl aYo aU3 aY7 aYu aZo aVm eUQ eUR aUS aUT aR0 aYD"
 `(tactic|(refine(?_:(_:Out Rv)=_);$(⟨w1⟩):tactic))
local macro_rules|`(tactic|infer_instance)=>do
 let w1<-Zz9 "eUW aJa6 aJa5 aJa4 aJa3 aJa2 aJa1 aJaW aJaV aJaU aYH aUZ aR4 eYX,rfl aRZ aRU,rfl"
 `(tactic|(refine(?_:(_:Out Rv)=_);$(⟨w1⟩):tactic))
local macro_rules|`(tactic|infer_instance)=>do
 let w1<-Zz9 "aY5 aHR aJN aJy"
 `(tactic|(refine(?_:(_:Out Bool)=_);$(⟨w1⟩):tactic))
local macro_rules|`(tactic|infer_instance)=>do
 let w1<-Zz9 "aVz"
 let w2<-Zz9 "aVx aZu aJbC,rfl aZv,rfl aJbB"
 let w3<-Zz9 "aZC aJbD aVA eJbz"
 `(tactic|(refine(?_:Sat _ _);first|(refine(?_:Sat _ (Am _ _ (List.set _ _ _)));apply ZA;focus (dsimp only [List.set_cons_zero,List.set_cons_succ,List.cons_append,List.nil_append,List.replicate_succ,List.replicate_zero,List.append_nil];try exact rfl))|$(⟨w1⟩):tactic|((first | refine(?_:Sat _ (Am (ifS (asB _) _ _) _ _)) | refine(?_:Sat _ (Am (ifS (E8 _) _ _) _ _)));apply Sn)|$(⟨w2⟩):tactic|((first | refine(?_:Sat _ (Am (AK _ _) _ _)) | refine(?_:Sat _ (Am (AM _) _ _)) | refine(?_:Sat _ (Am (HX _ _) _ _)) | refine(?_:Sat _ (Am (Ca _ _ _) _ _)) | refine(?_:Sat _ (Am (HL _ _ _ _) _ _)) | refine(?_:Sat _ (Am (BI _ _ _ _ _) _ _)) | refine(?_:Sat _ (Am (Kc _ _ _ _) _ _)));apply LH)|$(⟨w3⟩):tactic|(refine(?_:Sat _ (.ret _ _));first | exact JaL True.intro rfl | (apply JaL;exact True.intro))|(refine(?_:Sat _ (.nx _));first | exact Zw | exact Zy | apply Zx)|((first | refine(?_:Sat _ (AK _ _ _)) | refine(?_:Sat _ (AM _ _)) | refine(?_:Sat _ (HX _ _ _)) | refine(?_:Sat _ (Ca _ _ _ _)) | refine(?_:Sat _ (HL _ _ _ _ _)) | refine(?_:Sat _ (BI _ _ _ _ _ _)) | refine(?_:Sat _ (dput2 _ _ _ _ _ _ _)));apply VB)))
local macro_rules|`(tactic|infer_instance)=>`(tactic|(refine(?_:(_:Out (List Rv))=_);first|exact Cc|apply Bu|apply Mx))
local macro_rules|`(tactic|infer_instance)=>do
 let w1<-Zz9 "eYW aYI aYJ eTj aP4 aZ3 eJaQ eTN eZ5 eZ6 aU2"
 `(tactic|(refine(?_:(_:Out Rv)=_);$(⟨w1⟩):tactic))
local macro_rules|`(tactic|infer_instance)=>do
 let w1<-Zz9 "eAl,rfl eCf,rfl eHH,rfl eJbE"
 let w2<-Zz9 "aY3 aJaX eB9 eYQ eYS eYR,rfl eYT eYV eYU"
 `(tactic|(refine(?_:(_:Out Rv)=_);first|$(⟨w1⟩):tactic|exact Fq 18 (by decide)|exact Fq 40 (by decide)|exact Fq 41 (by decide)|$(⟨w2⟩):tactic))
local macro_rules|`(tactic|infer_instance)=>`(tactic|(refine(?_:_=_);with_reducible assumption))
local macro_rules|`(tactic|infer_instance)=>Zz9 "eTrue.intro"
local macro_rules|`(tactic|trivial)=>`(tactic|repeat infer_instance)
theorem Dq{D R:List Nat}{a c:Nat}(e:D++a::R=List.range c):a=D.length/\D.length<c:=by have h:=congrArg List.length e;simp at h;have:=congrArg (λl:List Nat=>l[D.length]?) e;simp only[bJ (aJ _),Nat.sub_self,cu]at this;rw[List.getElem?_range (by lia)]at this;exact⟨Option.some.inj this,by lia⟩
noncomputable def lt:Nat->Int->List Nat
 |0,_=>[]
 |k+1,n=>(97+(n%26).toNat)::lt k (n/26)
theorem GR:∀(k:Nat)(n:Int),(lt k n).length=k
 |0,_=>rfl
 |k+1,n=>by simp[lt,GR k]
theorem Wt:∀(k:Nat)(n:Int),∀c∈lt k n,97<=c/\c<=122
 |0,_,_,m=>nomatch m
 |k+1,n,c,m=>by
  rcases aH.mp m with rfl|m
  .lia
  .exact Wt k _ c m
theorem Tj{n:Int}{fs:FS}:AZ (.t (.str ("abcdefghijklmnopqrstuvwxyz":Str))) (.t (.int (n%26))) fs=.ok (.t (.str (ch (97+(n%26).toNat)))) fs:=by
 have key:∀j∈List.range 26,(cds ("abcdefghijklmnopqrstuvwxyz":Str))[j]?=some (97+j):=by decide +kernel
 have:=ixS (fs:=fs) (i:=(n%26).toNat) (by decide +kernel) (key _ (bT.mpr (by lia)));rwa[show(((n%26).toNat:Nat):Int)=n%26 by lia]at this
theorem Te(a b:List Nat):mkS a++mkS b=mkS (a++b):=Sg ((HS _ _).trans rfl)
theorem Ti{n:Int}{k:Nat}(hk:k<=100):∃τ,CZ [iv n,iv k]=.ok (.t (.str (mkS (lt k n)))) τ:=by
 apply B0;unfold Hg;trivial;apply B8 (I:=λ(D:List Nat) fs=>∃(m:Int)(z:List Nat)(y:Option Sl),fs=[iv m,iv k,vl (.str (mkS z)),y]/\Fre y/\z.length=D.length/\∀c,z++lt c m=lt (D.length+c) n) (xs:=List.range k) (p:=λi=>.int (i:Nat))
 case hi =>
  trivial
  .rfl
  .lia
 case h0=>exact⟨n,[],none,by rw[show mkS []=("":Str)from Oc.symm],True.intro,rfl,λc=>by simp⟩
 case st =>
  rintro D i R _ e ⟨m,z,y,rfl,f,lz,hz⟩
  have:=Dq e;trivial
  .apply J7;rw[Bw,Bw];show z.length+1<=1000000;lia
  trivial;exact⟨m/26,z++[97+(m%26).toNat],_,by rw[<- Te];rfl,An,by simp[lz],λc=>by have:=hz (c+1);rw[bu,bg,List.length_singleton,Nat.add_assoc,Nat.add_comm 1 c];exact this⟩
 case k =>
  rintro _ ⟨m,z,y,rfl,f,lz,hz⟩
  have:=hz 0;rw[lt,bj,bG]at this;subst this;trivial
theorem Kk{α:Type}{P:Nat->α->Prop}{l:List α}{x:α}(h:∀(j:Nat) t,l[j]?=some t->P j t)(hx:P l.length x):∀(j:Nat) t,(l++[x])[j]?=some t->P j t:=λj t ht=>by
 rcases Nat.lt_trichotomy j l.length with q|q|q
 .rw[b4 q]at ht;exact h j t ht
 .subst q;rw[List.getElem?_concat_length]at ht;cases ht;exact hx
 .rw[cA (by simp;lia)]at ht;cases ht
structure Wd1(p q:Nat)(s:Str):Prop where
 lw:Lw s
 at_:(cds s)[p]?=some q
theorem Za{p i j:Nat}{n:Int}{s t:Str}(h1:Wd1 p (97+(((i:Int)+n)%26).toNat) s)(h2:Wd1 p (97+(((j:Int)+n)%26).toNat) t)(hi:i<26)(hj:j<26)(h:i≠j):s≠t:=λe=>by subst e;have:=h1.at_.symm.trans h2.at_;simp only[Option.some.injEq]at this;lia
theorem Vm{f g:FS->Out Rv}{fs:FS}{z:Str}{i:Nat}{j:Int}(h1:f fs=.ok (.t (.str z)) fs)(h2:g fs=.ok (.t (.int j)) fs)(hj:j=(i:Int))(hz:(cds z).length<=1000):slS f (Dl g) noP fs=.ok (.t (.str (mkS ((cds z).drop i)))) fs:=Zq h1 (hj▸h2) hz
theorem JbE{fs:FS}:Ag J2 (gc (.int 7919)) (gc (.int 4)) fs=.ok (.t (.int (7919^4))) fs:=by unfold Ag gc;show(if 0<=(4:Int)/\(4:Int)<=1000000/\(7919:Int).natAbs<2^64 then okT (.int (7919^(4:Int).toNat)) fs else .bad)=_;rw[if_pos (by decide)];rfl
theorem words(n:Int){c:Nat}(hc:c<=100):∃(p:Nat)(vs:List Str)(τ:FS),vs.length=c/\(∀(j:Nat) s,vs[j]?=some s->Wd1 p (97+(((j:Int)+n)%26).toNat) s)/\BD [iv n,iv c]=.ok (.nw (.lst (vs.map T.str))) τ:=by
 obtain⟨p,hp⟩:∃p:Nat,n%8=(p:Int):=⟨(n%8).toNat,by lia⟩
 obtain⟨m,hm1,hm2⟩:∃m:Nat,n/24%(12-(p:Int))=(m:Int)/\p+1+m<=12:=by have h1:=Int.emod_nonneg (n/24) (show(12-(p:Int))≠0 by lia);have h2:=cJ (n/24) (show 0<(12-(p:Int)) by lia);exact⟨(n/24%(12-(p:Int))).toNat,by lia,by lia⟩
 suffices h:∃o τ,BD [iv n,iv c]=.ok (.nw o) τ/\∃vs:List Str,o=.lst (vs.map .str)/\vs.length=c/\∀(j:Nat) s,vs[j]?=some s->Wd1 p (97+(((j:Int)+n)%26).toNat) s by obtain⟨_,τ,e,vs,rfl,a,b⟩:=h;exact⟨p,vs,τ,a,b,e⟩
 have lt1:∀o:Int,∃τ,CZ [iv o,iv ((p:Int)+1+n/24%(12-(p:Int)))]=.ok (.t (.str (mkS (lt (p+1+m) o)))) τ:=λo=>by rw[hm1,show(p:Int)+1+(m:Int)=((p+1+m:Nat):Int) by lia];exact Ti (by lia)
 have lt2:=λo=>(lt1 o).choose_spec
 apply Kz;unfold Ll;trivial;apply B8 (I:=λ(D:List Nat) fs=>∃(vs:List Str)(y4 y5 y6 y7:Option Sl),fs=[iv n,iv c,iv p,some (.own (.lst (vs.map .str))),y4,y5,y6,y7]/\Fre y4/\Fre y5/\Fre y6/\Fre y7/\vs.length=D.length/\∀(j:Nat) s,vs[j]?=some s->Wd1 p (97+(((j:Int)+n)%26).toNat) s) (xs:=List.range c) (p:=λi=>.int (i:Nat))
 case hi =>
  trivial
  .rfl
  .lia
 case h0=>exact⟨[],none,none,none,none,by rw[hp];rfl,True.intro,True.intro,True.intro,True.intro,rfl,λj s h=>by simp at h⟩
 case st =>
  rintro D k R _ e ⟨vs,y4,y5,y6,y7,rfl,f4,f5,f6,f7,lv,hv⟩
  have rm:=Dq e;have hkk:(k:Int)*k<10000:=by
   have:k*k<=99*99:=Nat.mul_le_mul (by lia) (by lia);have e:(k:Int)*k=((k*k:Nat):Int):=by simp
   lia
  have hk0:0<=(k:Int)*k:=Int.mul_nonneg (by lia) (by lia);have ln:∀l:List Nat,(mkS l).length=l.length:=λl=>Bw (mkS l)
  trivial
  .exact lt2 _
  trivial
  .show p<=(lt (p+1+m) _).length;rw[GR];lia
  .show(lt (p+1+m) _).length<=_;rw[GR];lia
  trivial
  .apply J7;rw[ln,ln,bt];show _+1<=1000000;lia
  trivial
  .show(p:Int)+1=((p+1:Nat):Int);lia
  .show(lt (p+1+m) _).length<=_;rw[GR];lia
  trivial
  .apply J7;rw[Bw,HS,bg,ln,bQ];show(List.take p _).length+1+((lt (p+1+m) _).length-_)<=1000000;rw[bt,GR];lia
  trivial;generalize hw:lt (p+1+m) _=w;have lw:w.length=p+1+m:=by rw[<- hw,GR]
  have al:∀c∈w,97<=c/\c<=122:=by rw[<- hw];exact Wt _ _
  have ht:(w.take p).length=p:=by rw[bt];lia
  refine⟨vs++[mkS (w.take p)++mkS [97+((k+n)%26).toNat]++mkS (w.drop (p+1))],_,_,_,_,by rw[aq];rfl,An,An,An,An,by simp[lv],Kk hv ?_⟩;rw[lv,<- rm.1];have cs:cds (mkS (w.take p)++mkS [97+((k+n)%26).toNat]++mkS (w.drop (p+1)))=w.take p++[97+((k+n)%26).toNat]++w.drop (p+1):=by rw[HS,HS]
  refine⟨⟨?_,?_,λc hc=>?_⟩,?_⟩
  .rw[cs];simp;lia
  .rw[cs,bg,bg,ht,bQ];show p+1+_<=12;lia
  .rw[cs]at hc;rcases av.mp hc with hc|hc
   .rcases av.mp hc with hc|hc
    .exact al c (bL hc)
    .rw[aG.mp hc];lia
   .exact al c (cD hc)
  .rw[cs,bu,bJ (by lia),ht,Nat.sub_self];rfl
 case k =>
  rintro _ ⟨vs,y4,y5,y6,y7,rfl,f4,f5,f6,f7,lv,hv⟩
  rw[bG]at lv;trivial;exact X8 rfl ⟨vs,rfl,lv,hv⟩
structure Rw1(ks ws:List Str)(a k:Nat)(r:Str×List Str):Prop where
 nm:ws[4*a+k]?=some r.1
 two:r.2.length<=2
 za:∀x∈r.2,x∈ks.take (if k=0 then a else ks.length)
def Rws(ks ws:List Str)(a:Nat)(rs:List (Str×List Str)):Prop:=∀(j:Nat) r,rs[j]?=some r->Rw1 ks ws a j r
structure Kd1(ks ws:List Str)(a:Nat)(kd:Str×List (Str×List Str)):Prop where
 nm:ks[a]?=some kd.1
 lo:2<=kd.2.length
 hi:kd.2.length<=4
 rw:Rws ks ws a kd.2
structure Wds(n:Int)(vs:List Str):Prop where
 ex:∃p,∀(j:Nat) s,vs[j]?=some s->Wd1 p (97+(((j:Int)+n)%26).toNat) s
theorem V5{f g:FS->Out Rv}{fs:FS}{a b:Bool}(h1:f fs=.ok (.t (.o a)) fs)(h2:g fs=.ok (.t (.o b)) fs):orV f g fs=.ok (.t (.o (a||b))) fs:=by unfold orV;rw[h1];cases a with|true=>rfl|false=>exact h2
theorem kinds(ns:List Int):∃(K:Kd)(ks ws:List Str)(n m:Int),1<=ks.length/\ks.length<=3/\ws.length=16/\Wds n ks/\Wds m ws/\K.length=ks.length/\(∀(j:Nat) kd,K[j]?=some kd->Kd1 ks ws j kd) /\
  (∃τ,BD [iv m,iv 16]=.ok (.nw (.lst (ws.map T.str))) τ)/\(∃τ,Cs [iv (ns.getD 2 0),iv 3]=.ok (.t (.int m)) τ) /\
  ∃τ,Em [vl (.z0 (ns.map T.int))]=.ok (.nw (.lst (K.map As))) τ:=by
 have c1:=DZ ns 1;have c2:=DZ ns 2;obtain⟨v,_,e1⟩:=mix (ns.getD 1 0) (k:=1) (by lia);obtain⟨n,_,e2⟩:=mix (ns.getD 2 0) (k:=2) (by lia);obtain⟨m,τ3,e3⟩:=mix (ns.getD 2 0) (k:=3) (by lia);obtain⟨c,hc,evc⟩:∃c:Nat,c<3/\v%3=(c:Int):=⟨(v%3).toNat,by lia,by lia⟩
 obtain⟨p,ks,_,k1,k2,k3⟩:=words n (c:=1+c) (by lia);obtain⟨q,ws,τw,w1,w2,w3⟩:=words m (c:=16) (by lia)
 suffices h:∃o τ,Em [vl (.z0 (ns.map T.int))]=.ok (.nw o) τ/\∃K:Kd,o=.lst (K.map As)/\K.length=ks.length/\∀(j:Nat) kd,K[j]?=some kd->Kd1 ks ws j kd by obtain⟨_,τ,e,K,rfl,a,b⟩:=h;exact⟨K,ks,ws,n,m,by lia,by lia,w1,⟨p,k2⟩,⟨q,w2⟩,a,b,⟨τw,w3⟩,⟨τ3,e3⟩,τ,e⟩
 rw[show((1+c:Nat):Int)=1+v%3 by lia]at k3;apply Kz;unfold Ln;trivial;apply B8 (I:=λ(D:List Nat) fs=>∃(K:Kd)(y5 y6 y7 y8 y9 y10:Option Sl),fs=[vl (.z0 (ns.map T.int)),iv (1+v%3),vl (.lst (ks.map .str)),vl (.lst (ws.map .str)),some (.own (.lst (K.map As))),y5,y6,y7,y8,y9,y10]/\(Fre y5/\Fre y6/\Fre y7/\Fre y8/\Fre y9/\Fre y10)/\K.length=D.length/\∀(j:Nat) kd,K[j]?=some kd->Kd1 ks ws j kd) (xs:=List.range (1+c)) (p:=λi=>.int (i:Nat))
 case hi =>
  trivial
  .lia
  .lia
 case h0=>exact⟨[],none,none,none,none,none,none,rfl,⟨True.intro,True.intro,True.intro,True.intro,True.intro,True.intro⟩,rfl,λj s h=>by simp at h⟩
 case st =>
  rintro D a R _ e ⟨K,y5,y6,y7,y8,y9,y10,rfl,⟨f5,f6,f7,f8,f9,f10⟩,lK,hK⟩
  have rm:=Dq e;have ca:=DZ ns (3+a);rw[show((3+a:Nat):Int)=3+(a:Int) by lia]at ca;obtain⟨nu,_,ea⟩:=mix (ns.getD (3+a) 0) (k:=4) (by lia);obtain⟨c2,hc2,ec2⟩:∃c:Nat,(2<=c/\c<=4)/\2+nu%3=(c:Int):=⟨(2+nu%3).toNat,by lia,by lia⟩
  trivial;apply B8 (I:=λ(Z:List Nat) fs=>∃(num:Int)(rs:List (Str×List Str))(y8 y9 y10:Option Sl),fs=[vl (.z0 (ns.map T.int)),iv (1+v%3),vl (.lst (ks.map .str)),vl (.lst (ws.map .str)),some (.own (.lst (K.map As))),iv a,iv num,some (.own (.lst (rs.map CB))),y8,y9,y10]/\(Fre y8/\Fre y9/\Fre y10)/\rs.length=Z.length/\Rws ks ws a rs) (xs:=List.range c2) (p:=λi=>.int (i:Nat))
  case hi =>trivial;lia
  case h0=>exact⟨_,[],_,_,_,rfl,⟨f8,f9,f10⟩,rfl,λj s h=>by simp at h⟩
  case st =>
   rintro Z k R2 _ e2 ⟨num,rs,y8,y9,y10,rfl,⟨f8,f9,f10⟩,lr,hr⟩
   have rm2:=Dq e2;obtain⟨c3,hc3,ec3⟩:∃c3:Nat,(c3<=2/\(a=0->k=0->c3=0))/\num/3%3*(if(decide ((0:Int)<a)||decide ((0:Int)<k))=true then 1 else 0)=(c3:Int):=by
    by_cases h:a=0/\k=0
    .exact⟨0,⟨by lia,λ_ _=>rfl⟩,by simp[h.1,h.2]⟩
    .refine⟨(num/3%3).toNat,⟨by lia,λp q=>absurd ⟨p,q⟩ h⟩,?_⟩;rw[if_pos (by rw[bY,decide_eq_true_iff,decide_eq_true_iff];lia)];lia
   obtain⟨m2,hm2⟩:∃m2,m2=if k=0 then a else ks.length:=⟨_,rfl⟩
   have am:atI [T.int (1+v%3),T.int a] (if decide ((k:Int)=0)=true then 1 else 0)=some (.int (m2:Nat)):=by
    by_cases h:k=0
    .rw[hm2,if_pos h,if_pos (by simp[h])];exact at1
    .rw[hm2,if_neg h,if_neg (by simp[h]),show((ks.length:Nat):Int)=1+v%3 by lia];exact at0
   have ww:ws[4*a+k]?=some ws[4*a+k]:=ag (by lia);have aw:atI (ws.map T.str) (4*(a:Int)+k)=some (.str ws[4*a+k]):=by rw[show 4*(a:Int)+k=((4*a+k:Nat):Int) by lia];exact BG (by rw[aP,ww];rfl)
   trivial;apply B8 (I:=λ(Y:List Nat) fs=>∃(nu:Int)(ps:List Str)(y10:Option Sl),fs=[vl (.z0 (ns.map T.int)),iv (1+v%3),vl (.lst (ks.map .str)),vl (.lst (ws.map .str)),some (.own (.lst (K.map As))),iv a,iv nu,some (.own (.lst (rs.map CB))),iv k,some (.own (.lst (ps.map .str))),y10]/\Fre y10/\ps.length=Y.length/\∀x∈ps,x∈ks.take m2) (xs:=List.range c3) (p:=λi=>.int (i:Nat))
   case hi =>
    trivial
    .apply V5;trivial
    trivial;lia
   case h0=>exact⟨_,[],_,rfl,f10,rfl,λ_ h=>nomatch h⟩
   case st =>
    rintro Y i R3 _ e3 ⟨nu,ps,y10,rfl,f10,lp,hp⟩
    have rm3:=Dq e3;have hm:1<=m2/\m2<=ks.length:=by rw[hm2];split<;>lia
    obtain⟨x,mx,ex⟩:∃x∈ks.take m2,atI (ks.map T.str) (nu/3%(m2:Int))=some (.str x):=by
     have g1:=Int.emod_nonneg (nu/3) (show(m2:Int)≠0 by lia);have g2:=cJ (nu/3) (show(0:Int)<m2 by lia);have hi:(nu/3%(m2:Int)).toNat<ks.length:=by lia
     refine⟨ks[(nu/3%(m2:Int)).toNat],cK.mpr ⟨(nu/3%(m2:Int)).toNat,by lia,rfl⟩,?_⟩;have:=BG (xs:=ks.map T.str) (j:=(nu/3%(m2:Int)).toNat) (by rw[aP,ag hi];rfl);rwa[show(((nu/3%(m2:Int)).toNat:Nat):Int)=nu/3%(m2:Int) by lia]at this
    trivial;exact⟨_,ps++[x],_,by rw[aq];rfl,An,by simp[lp],λz mz=>(av.mp mz).elim (hp z) λh=>by rw[aG.mp h];exact mx⟩
   case k =>
    rintro _ ⟨nu,ps,y10,rfl,f10,lp,hp⟩
    rw[bG]at lp;trivial;exact⟨_,rs++[(ws[4*a+k],ps)],_,some (.own (.lst (ps.map .str))),_,by rw[aq];rfl,⟨An,True.intro,f10⟩,by simp[lr],Kk hr (by rw[lr,<- rm2.1];exact⟨ww,by show ps.length<=2;lia,by rw[<- hm2];exact hp⟩)⟩
  case k =>
   rintro _ ⟨num,rs,y8,y9,y10,rfl,⟨f8,f9,f10⟩,lr,hr⟩
   rw[bG]at lr;have ha:ks[a]?=some ks[a]:=ag (by lia);have a1:atI (ks.map T.str) (a:Int)=some (.str ks[a]):=BG (by rw[aP,ha];rfl);trivial;exact⟨K++[(ks[a],rs)],_,_,_,_,_,_,by rw[aq];rfl,⟨An,An,An,f8,f9,f10⟩,by simp[lK],Kk hK (by rw[lK,<- rm.1];exact⟨ha,by show 2<=rs.length;lia,by show rs.length<=4;lia,hr⟩)⟩
 case k =>
  rintro _ ⟨K,y5,y6,y7,y8,y9,y10,rfl,⟨f5,f6,f7,f8,f9,f10⟩,lK,hK⟩
  rw[bG]at lK;trivial;exact X8 rfl ⟨K,rfl,by lia,hK⟩
theorem Wds.lw{n:Int}{vs:List Str}(h:Wds n vs){s:Str}(hs:s∈vs):Lw s:=by obtain⟨p,h⟩:=h.ex;obtain⟨j,hj⟩:=bB.mp hs;exact(h j s hj).lw
theorem Wds.inj{n:Int}{vs:List Str}(h:Wds n vs)(hl:vs.length<=26){i j:Nat}{s:Str}(h1:vs[i]?=some s)(h2:vs[j]?=some s):i=j:=by
 obtain⟨p,h⟩:=h.ex;have l1:=(ak.mp h1).1;have l2:=(ak.mp h2).1;rcases Nat.decEq i j with z|z
 .exact absurd rfl (Za (h i s h1) (h j s h2) (by lia) (by lia) z)
 .exact z
theorem FJ{s:Str}(h:Lw s):AQ [vl (.str s)]=.ok (.t (.o true)) [vl (.str s)]:=by have:=PJ (z:=s) (by rw[Bw];have:=h.hi;lia);rwa[(Wr s).mpr h]at this
section
variable{K:Kd}{ks ws:List Str}{n m:Int}(k1:1<=ks.length)(k3:ks.length<=3)(w16:ws.length=16)(hk:Wds n ks)(hw:Wds m ws)(hl:K.length=ks.length)(h:∀(j:Nat) kd,K[j]?=some kd->Kd1 ks ws j kd)
include hl h in
theorem Tq:K.map (·.1)=ks:=by
 apply List.ext_getElem?;intro j;rw[aP];cases e:K[j]? with
 |none =>
  have:ks.length<=j:=by rw[<- hl];exact List.getElem?_eq_none_iff.mp e
  rw[cA this];rfl
 |some kd=>exact(h j kd e).nm.symm
include h in
theorem JX{a:Nat}{kd:Str×List (Str×List Str)}{r:Str×List Str}(ha:K[a]?=some kd)(hr:r∈kd.2):∃j,j<4/\kd.2[j]?=some r/\ws[4*a+j]?=some r.1:=by obtain⟨j,hj⟩:=bB.mp hr;have:=(ak.mp hj).1;have:=(h a kd ha).hi;exact⟨j,by lia,hj,((h a kd ha).rw j r hj).nm⟩
include k1 k3 w16 hk hw hl h in
theorem U6:Well K:=by
 have hn:=Tq hl h;have mk:∀s∈mks K,∃a j,j<4/\ws[4*a+j]?=some s:=λs hs=>by obtain⟨kd,m1,m2⟩:=bK.mp hs;obtain⟨r,m3,rfl⟩:=aI.mp m2;obtain⟨a,ha⟩:=bB.mp m1;obtain⟨j,j1,_,j2⟩:=JX h ha m3;exact⟨a,j,j1,j2⟩
 have mlw:∀s∈mks K,Lw s:=λs hs=>by obtain⟨a,j,_,e⟩:=mk s hs;exact hw.lw (bq e)
 have at_:∀kd∈K,∃a:Nat,K[a]?=some kd:=λkd m=>bB.mp m
 refine⟨by lia,by lia,?_,λkd mk=>?_,λkd mk=>?_,?_,λs hs=>FJ (mlw s hs),λs hs=>by rw[Bw];exact(mlw s hs).hi,λkd mk r mr=>?_,λkd mk r mr x mx=>?_,λD kd R e r er x mx=>?_⟩
 .rw[hn];refine bz.mpr λi j hi hj hij e=>?_
  have:=hk.inj (by lia) (i:=i) (j:=j) (s:=ks[i]) (ag hi) (by rw[e];exact ag hj);lia
 .exact FJ (hk.lw (by rw[<- hn];exact aI.mpr ⟨kd,mk,rfl⟩))
 .obtain⟨a,ha⟩:=at_ kd mk;have g1:=(h a kd ha).lo;exact⟨by lia,(h a kd ha).hi⟩
 .refine List.pairwise_flatMap.mpr ⟨λkd m1=>?_,bz.mpr λa b ha hb hab x mx y my e=>?_⟩
  .obtain⟨a,ha⟩:=at_ kd m1;refine bz.mpr λi j hi hj hij e=>?_
   rw[ar]at hi hj;rw[bR,bR]at e;have g1:=((h a kd ha).rw i _ (ag hi)).nm;have g2:=((h a kd ha).rw j _ (ag hj)).nm;rw[e]at g1;have:=hw.inj (by lia) g1 g2;lia
  .obtain⟨r,m3,rfl⟩:=aI.mp mx;obtain⟨r2,m4,rfl⟩:=aI.mp my;obtain⟨i,i1,_,i2⟩:=JX h (ag ha) m3;obtain⟨j,j1,_,j2⟩:=JX h (ag hb) m4;rw[<- e]at j2;have:=hw.inj (by lia) i2 j2;lia
 .obtain⟨a,ha⟩:=at_ kd mk;obtain⟨j,_,ej,_⟩:=JX h ha mr;exact((h a kd ha).rw j r ej).two
 .obtain⟨a,ha⟩:=at_ kd mk;obtain⟨j,_,ej,_⟩:=JX h ha mr;rw[hn];exact bL (((h a kd ha).rw j r ej).za x mx)
 .have ha:K[D.length]?=some kd:=by rw[e];simp
  have:=((h D.length kd ha).rw 0 r er).za x mx;rw[if_pos rfl,<- hn,<- List.map_take,e]at this;simpa using this
end
theorem WC{K:Kd}(W:Well K){kd z:Str×List (Str×List Str)}(hk:kd∈K)(mz:z∈K)(e:z.1=kd.1):z=kd:=by
 obtain⟨i,hi,rfl⟩:=cj mz;obtain⟨j,hj,rfl⟩:=cj hk;have nd:=bz.mp W.nd;rcases Nat.lt_trichotomy i j with q|q|q
 .exact absurd (by rw[bR,bR];exact e) (nd i j (by simpa using hi) (by simpa using hj) q)
 .subst q;rfl
 .exact absurd (by rw[bR,bR];exact e.symm) (nd j i (by simpa using hj) (by simpa using hi) q)
theorem makers{K:Kd}(W:Well K){kd:Str×List (Str×List Str)}(hk:kd∈K):∃τ,B3 [vl (.lst (K.map As)),vl (.str kd.1)]=.ok (.t (.lst (kd.2.map CB))) τ:=by
 have go:∀(R:Kd)(x2 x3:Option Sl),kd∈R->(∀z∈R,z∈K)->Fre x2->Fre x3->∃τ,GX (AA 2 (Ad (tgN 2) (Ad (tgN 3) Av))) (ifS (asB (Ag (gEq false) (Aa 2) (Aa 1))) (retS (Aa 3)) nxS) (R.map As) [vl (.lst (K.map As)),vl (.str kd.1),x2,x3]=.ret (.t (.lst (kd.2.map CB))) τ:=by
  intro R
  induction R with
  |nil=>exact λ_ _ m=>nomatch m
  |cons z R ih =>
   intro x2 x3 m u f2 f3;by_cases h:z.1=kd.1
   .rw[WC W hk (u z aN) h];exact⟨_,TY (D5 (Gn rfl f2) (Gn rfl f3)) (NH ((K5 (x:=kd.1) (y:=kd.1) (Al rfl) (Al rfl)).trans (by rw[aV rfl])) (B7 (Al rfl)))⟩
   .obtain⟨τ,g⟩:=ih (vl (.str z.1)) (vl (.lst (z.2.map CB))) ((aH.mp m).resolve_left λe=>h (by rw[e])) (λz m=>u z (ao _ m)) An An;exact⟨τ,(W7 (D5 (Gn rfl f2) (Gn rfl f3)) (DW (h:=nxS) ((K5 (x:=z.1) (y:=kd.1) (Al rfl) (Al rfl)).trans (by rw[aT h])) rfl)).trans g⟩
 obtain⟨τ,g⟩:=go K none none hk (λ_ m=>m) AH AH;exact⟨_,Ik (n:=2) (g:=Jo) (args:=[vl (.lst (K.map As)),vl (.str kd.1)]) (E5 (Mw (Tw (BH (Al rfl))) g))⟩
noncomputable def Yd(K:Kd):List (Str×Str×List Str):=K.flatMap λkd=>kd.2.map λr=>(kd.1,r)
theorem Nm(K:Kd):AW K=(Yd K).map λq=>Cq q.2:=by rw[FH];unfold Yd allR;rw[b9,b9];simp only[aU];rfl
theorem NJ(K:Kd):DN K=(Yd K).map λq=>T.str q.1:=by unfold DN LY Yd;rw[b9];simp only[aU];rfl
theorem QV{K:Kd}(W:Well K){kd:Str×List (Str×List Str)}{r:Str×List Str}(m:kd∈K)(m2:r∈kd.2):CD (AW K) (DN K) (.inr r.1:Key)=some (.str kd.1):=by have h:(AW K).Nodup:=BB W.yO;rw[Nm]at h;rw[Nm,NJ];exact BY (f:=λq:Str×Str×List Str=>Cq q.2) (g:=λq=>T.str q.1) (x:=(kd.1,r)) (bK.mpr ⟨kd,m,aI.mpr ⟨r,m2,rfl⟩⟩) h
abbrev stT(C:Addr)(K:Kd):T:=A5 C K (DN K)
section
variable{C:Addr}{K:Kd}{hs:List T}
theorem Rp{i:Nat}{fs:FS}(h:fs[i]?=some (vl (A5 C K hs))):DD C "home_by_maker" (Aa i) fs=.ok (.t (.l (AW K) hs)) fs:=by unfold DD;rw[Al h];obtain⟨hAB,hAH,hBH⟩:=E9;unfold A5;generalize ("makers_by_kind":Str)=A at *;generalize ("parts_by_maker":Str)=B at *;generalize ("home_by_maker":Str)=H at *;simp[Out.bnd,Out.bind,WW,EN,okT,Ne.symm hAH,Ne.symm hBH]
theorem Sh(W:Well K){kd:Str×List (Str×List Str)}{r:Str×List Str}(m:kd∈K)(m2:r∈kd.2):CK C [vl (stT C K),vl (.str r.1)]=.ok (.t (.str kd.1)) [vl (stT C K),vl (.str r.1)]:=by
 have all:CP C [vl (stT C K),vl (.str r.1)]=.ret (.t (.str kd.1)) [vl (stT C K),vl (.str r.1)]:=by
  unfold CP;refine sq (DW (Dz (b:=false) (Au (BH (Al (t:=.str r.1) rfl)) (Rp rfl) ?_)) rfl) ?_
  .rw[X9,QV W m m2];rfl
  exact B7 (Au (Rp rfl) (BH (Al (t:=.str r.1) rfl)) (P4 (QV W m m2)))
 exact(Ik (n:=0) (g:=CP C) (args:=[vl (stT C K),vl (.str r.1)]) all).trans rfl
end
theorem F2.prs{R:T->Str->Prop}{ts:List T}{ps:List Str}(h:F2 R ts ps):∀u∈FL.pairs ts (ps.map .str),∃t k,u=.tup [t,.str k]/\R t k:=by
 induction h with
 |nil=>exact λ_ m=>nomatch m
 |cons h _ ih =>
  intro u m;rcases aH.mp m with rfl|m
  .exact⟨_,_,rfl,h⟩
  .exact ih u m
section
variable(K:Kd)(kn:Str->Str->Prop)(cl:Str->List Str->Str->List T->Prop)
def Ty:Nat->T->Str->Prop
 |0,_,_=>False
 |n+1,t,k=>(∃x,kn x k/\t=exN x)\/(∃m ps ts,(∃kd∈K,kd.1=k/\(m,ps)∈kd.2)/\F2 (Ty n) ts ps/\t=exP "make" m ts)\/∃f ps ts,cl f ps k ts/\F2 (Ty n) ts ps/\t=exP "call" f ts
end
theorem Ty.mono{K:Kd}{kn kn':Str->Str->Prop}{cl cl':Str->List Str->Str->List T->Prop}(h1:∀x k,kn x k->kn' x k)(h2:∀f ps k ts,cl f ps k ts->cl' f ps k ts):∀{n m:Nat}{t:T}{k:Str},Ty K kn cl n t k->n<=m->Ty K kn' cl' m t k
 |n+1,m+1,t,k,h,l=>by
  rcases h with⟨x,a,b⟩|⟨f,ps,ts,a,b,c⟩|⟨f,ps,ts,a,b,c⟩
  .exact .inl ⟨x,h1 _ _ a,b⟩
  .exact .inr (.inl ⟨f,ps,ts,a,b.imp λ_ _ q=>Ty.mono h1 h2 q (by lia),c⟩)
  .exact .inr (.inr ⟨f,ps,ts,h2 _ _ _ _ a,b.imp λ_ _ q=>Ty.mono h1 h2 q (by lia),c⟩)
theorem Ma:("call":Str)≠"make"/\("make":Str)≠"name"/\("call":Str)≠"name"/\("make":Str)≠"call":=by decide +kernel
abbrev SF:List Str:=["stock","heads","kinds_by_name","own","lessers"]
theorem OT:(("heads":Str) == "stock")=false/\(("kinds_by_name":Str) == "stock")=false/\(("kinds_by_name":Str) == "heads")=false/\(("own":Str) == "stock")=false/\(("own":Str) == "heads")=false/\(("own":Str) == "kinds_by_name")=false /\
  (("lessers":Str) == "stock")=false/\(("lessers":Str) == "heads")=false/\(("lessers":Str) == "kinds_by_name")=false/\(("lessers":Str) == "own")=false:=by decide +kernel
section
variable{a b c d e:T}
theorem Jbb:EN SF [a,b,c,d,e] "stock"=some a:=by simp[EN]
theorem Jba:EN SF [a,b,c,d,e] "heads"=some b:=by simp[EN,OT]
theorem Ja9:EN SF [a,b,c,d,e] "kinds_by_name"=some c:=by simp[EN,OT]
theorem Ja8:EN SF [a,b,c,d,e] "own"=some d:=by simp[EN,OT]
theorem Ja7:EN SF [a,b,c,d,e] "lessers"=some e:=by simp[EN,OT]
end
structure Sco where
 zW:Addr
 z8:Addr
 K:Kd
 hk:List Key
 hv:List T
 xk:List Key
 xv:List T
 own:Str
 ls:List Str
abbrev Sco.t(s:Sco):T:=.ins s.zW SF [stT s.z8 s.K,.l s.hk s.hv,.l s.xk s.xv,.str s.own,.lst (s.ls.map exN)]
structure SOk(s:Sco)(kn:Str->Str->Prop)(cl:Str->List Str->Str->List T->Prop):Prop where
 W:Well s.K
 nm:∀x k,kn x k->CD s.xk s.xv (.inr x:Key)=some (.str k)
 hd:∀f ps k ts,cl f ps k ts->CD s.hk s.hv (.inr f:Key)=some (.tup [.tup (ps.map .str),.str k])/\(f=s.own->∃x∈s.ls,ts[0]?=some (exN x))
section
variable{s:Sco}{kn:Str->Str->Prop}{cl:Str->List Str->Str->List T->Prop}
theorem B1{x:Str}{t:T}(h:CD s.xk s.xv (.inr x:Key)=some t):∃τ,BS s.zW [vl s.t,vl (.str x)]=.ok (.t t) τ:=by apply B0;unfold DP;trivial
theorem TB(W:Well s.K){m:Str}{ps:List Str}{kd:Str×List (Str×List Str)}(hk:kd∈s.K)(hr:(m,ps)∈kd.2):∃τ,A3 s.zW s.z8 [vl s.t,vl (.str "make"),vl (.str m)]=.ok (.t (.tup [.tup (ps.map .str),.str kd.1])) τ:=by have h1:=Ku (C:=s.z8) (hs:=DN s.K) W hk hr;have h2:=Sh (C:=s.z8) W hk hr;apply B0;unfold Cz;trivial
theorem TC{f:Str}{t:T}(h:CD s.hk s.hv (.inr f:Key)=some t):∃τ,A3 s.zW s.z8 [vl s.t,vl (.str "call"),vl (.str f)]=.ok (.t t) τ:=by apply B0;unfold Cz;trivial
theorem IM(x:Str):∀ls:List Str,Rk (exN x) (ls.map exN)=some (decide (x∈ls))
 | []=>by simp[Rk]
 |y::ls=>by
  have e:eqT 9 (exN y) (exN x)=some (decide (y=x)):=by unfold exN;rw[N7];simp only[Js,N8];by_cases h:y=x<;>simp[h]
  rw[aj,Rk,e,IM x ls];by_cases h:y=x
  .simp[h]
  .have h2:¬x=y:=λz=>h z.symm
   simp[h,h2]
theorem JbH{x:Str}{ls:List Str}{fs:FS}(h:x∈ls):L5 (.t (exN x)) (.t (.lst (ls.map exN))) fs=.ok (.t (.o false)) fs:=by unfold L5;simp only[Dm,bE,IM,h,decide_true];rfl
theorem A7(O:SOk s kn cl):∀(n:Nat)(t:T)(k:Str),Ty s.K kn cl n t k->∃τ,AL s.zW s.z8 n [vl s.t,vl t]=.ok (.t (.str k)) τ
 |n+1,t,k,h=>by
  have key:(∃x,kn x k/\t=exN x)\/∃f m ps ts,(∃τ,A3 s.zW s.z8 [vl s.t,vl (.str f),vl (.str m)]=.ok (.t (.tup [.tup (ps.map .str),.str k])) τ)/\f≠"name"/\(f="call"->m=s.own->∃x∈s.ls,ts[0]?=some (exN x))/\F2 (λt k=>∃τ,AL s.zW s.z8 n [vl s.t,vl t]=.ok (.t (.str k)) τ) ts ps/\t=exP f m ts:=by
   have lp:=λt k=>A7 O n t k
   rcases h with h|⟨m,ps,ts,⟨kd,m1,rfl,m2⟩,b,rfl⟩|⟨f,ps,ts,a,b,rfl⟩
   .exact .inl h
   .exact .inr ⟨_,m,ps,ts,TB O.W m1 m2,Ma.2.1,λh=>absurd h Ma.2.2.2,b.imp lp,rfl⟩
   .exact .inr ⟨_,f,ps,ts,TC (O.hd f ps k ts a).1,Ma.2.2.1,λ_=>(O.hd f ps k ts a).2,b.imp lp,rfl⟩
  clear h;apply B0;unfold Dh;rcases key with⟨x,a,rfl⟩|⟨f,m,ps,ts,⟨_,e⟩,hf,ho,b,rfl⟩
  .obtain⟨_,e⟩:=B1 (s:=s) (O.nm x k a);unfold exN;trivial
  .have hl:=b.len;unfold exP;trivial
   .by_cases h1:f="call"
    .apply My;trivial
     .simp[h1]
     by_cases h2:m=s.own
     .obtain⟨x,mx,ex⟩:=ho h1 h2;have e1:atI ts 0=some (exN x):=BG ex;apply My;trivial
      .simp[h2]
      trivial
     .apply QT;trivial
      .simp[h2]
    .apply QT;trivial
   trivial;apply MR (Pe:=λu=>∃t k,u=.tup [t,.str k]/\∃τ,AL s.zW s.z8 n [vl s.t,vl t]=.ok (.t (.str k)) τ) (I:=λfs=>∃y7 y8,fs=[vl s.t,vl (exP f m ts),vl (.str f),vl (.str m),vl (.tup ts),vl (.tup (ps.map .str)),vl (.str k),y7,y8]/\Fre y7/\Fre y8)
   .trivial
   .exact b.prs
   .exact⟨_,_,rfl,True.intro,True.intro⟩
   .rintro _ _ ⟨t,z,rfl,_,h⟩ ⟨y7,y8,rfl,f7,f8⟩
    trivial;exact⟨_,_,rfl,True.intro,True.intro⟩
   .rintro _ ⟨y7,y8,rfl,f7,f8⟩
    trivial
end
abbrev RS(x:Str):Prop:=AQ [vl (.str x)]=.ok (.t (.o true)) [vl (.str x)]
abbrev ky(x:Str):Key:=.inr x
theorem Rg{xs D R:List Str}{a:Str}(e:D++a::R=xs)(nd:xs.Nodup):a∉D:=λm=>(ah.mp (e▸nd)).2.2 a m a aN rfl
theorem mem_mid{α:Type}{xs D R:List α}{a:α}(e:D++a::R=xs):a∈xs:=by rw[<- e];simp
theorem Du{α:Type}{xs D R:List α}{a:α}(e:D++a::R=xs):D.length<xs.length:=by rw[<- e];simp
theorem Cu{xs:List Str}(nd:xs.Nodup)(hn:∀x∈xs,RS x)(hl:xs.length<=1000):∃τ,Cg [vl (.lst (xs.map .str))]=.ok (.t .v) τ:=by
 apply MP;unfold Et;trivial;apply Im (I:=λ(D:List Str) fs=>∃(vs:List T)(y2:Option Sl),fs=[vl (.lst (xs.map .str)),some (.own (.l (D.map ky) vs)),y2]/\Fre y2)
 .trivial
 .exact⟨_,_,rfl,True.intro⟩
 .rintro D x R _ e ⟨vs,y2,rfl,f2⟩
  have hx:=hn x (mem_mid e);have nx:=KZ (Rg e nd);have nv:=BZ (ts:=vs) nx;have:=Du e;trivial
  .simp[nv]
  trivial;exact⟨_,_,by rw[aq];rfl,An⟩
 .intro fs h;trivial
section
variable{z8:Addr}{K:Kd}(W:Well K)
include W
theorem Ef{x:Str}(hx:x∉mks K):∃τ,DE z8 [vl (stT z8 K),vl (.str x)]=.ok (.t (.o false)) τ:=by
 have h1:=Hm (C:=z8) (K:=K) (hs:=DN K);have h2:=λkd (m:kd∈K)=>Fm (C:=z8) (hs:=DN K) W m
 simp only[aU,Function.comp_def]at h1;have hl:=W.hi;apply B0;unfold He;trivial;apply Oo
 .trivial
 .intro kd m;have h2:=h2 kd m;trivial
 .exact aR hl (by decide)
 trivial;congr 2;refine cO.mpr λkd m=>?_
 have:x∉kd.2.map (·.1):=λh=>hx (bK.mpr ⟨kd,m,h⟩)
 simp[this]
end
structure Fd where
 nm:Str
 ks:List Str
 k:Str
 z7:List Str
 rows:List (Str×List Str×T)
noncomputable def rwT(r:Str×List Str×T):T:=.tup [.tup (r.2.1.map .str),r.2.2]
abbrev Fd.t(g:Fd):T:=.tup [.str g.nm,.tup (g.ks.map .str),.str g.k,.tup (g.z7.map .str),.tup (g.rows.map rwT)]
section
variable{z8:Addr}{K:Kd}(W:Well K)
include W
theorem C3{g:Fd}{hk:List Key}{hv:List T}{kd:Str×List (Str×List Str)}{ks:List Str}(hkd:kd∈K)(hn:RS g.nm)(hnh:ky g.nm∉hk)(hnm:g.nm∉mks K)(hks:g.ks=kd.1::ks)(ho:g.z7.length=ks.length)(h2:ks.length<=2)(hr:g.rows.length=kd.2.length)(hin:∀x∈g.ks++[g.k],x∈K.map (·.1)) :
  ∃τ,CJ z8 [vl (stT z8 K),vl (.l hk hv),vl g.t]=.ok (.t .v) τ:=by
 have h1:=Hm (C:=z8) (K:=K) (hs:=DN K);have h3:=Fm (C:=z8) (hs:=DN K) W hkd;obtain⟨_,h4⟩:=Ef (z8:=z8) W hnm;have nv:=BZ (ts:=hv) hnh;obtain⟨nm,gks,k,z7,rows⟩:=g;simp only at hn hnh hnm hks ho hr hin h4 nv;subst hks;apply MP;unfold EU;trivial
 .apply UU;trivial
  .simp[nv]
  trivial
 trivial;apply MR (Pe:=λu=>∃x,u=.str x/\x∈K.map (·.1)) (I:=λfs=>∃y8,fs=[vl (stT z8 K),vl (.l hk hv),vl (Fd.t ⟨nm,kd.1::ks,k,z7,rows⟩),vl (.str nm),vl (.tup ((kd.1::ks).map .str)),vl (.str k),vl (.tup (z7.map .str)),vl (.tup (rows.map rwT)),y8]/\Fre y8)
 .trivial
 .intro u m;have m:u∈((kd.1::ks)++[k]).map T.str:=by rw[aq];exact m
  obtain⟨x,mx,rfl⟩:=aI.mp m;exact⟨x,rfl,hin x mx⟩
 .exact⟨_,rfl,True.intro⟩
 .rintro _ _ ⟨x,rfl,mx⟩ ⟨y8,rfl,f8⟩
  trivial
  .simp only[mx];rfl
  trivial;exact⟨_,rfl,True.intro⟩
 .rintro _ ⟨y8,rfl,f8⟩
  trivial
  .simp[ho]
  trivial
  .simp[hr]
  trivial
end
theorem LF{c:Addr}{A B D E F:T}:∃τ,CL c [some (.bor (.ins c [] [])),vl A,vl B,vl D,vl E,vl F]=.ok (.t .v) (some (.bor (.ins c SF [.val A,.val B,.val D,.val E,.val F]))::τ):=by apply JaM;unfold EV;trivial
section
variable{zW z8:Addr}{K:Kd}{nm k:Str}{ks z7:List Str}{rows:List T}{hk:List Key}{hv:List T}{kd:Str×List (Str×List Str)}{m:Str}{ys ps:List Str}{body:T}{kn:Str->Str->Prop}{cl:Str->List Str->Str->List T->Prop}{kf:Str->Str}
theorem Dy(O:SOk ⟨zW,z8,K,hk,hv,(ys++z7).map ky,ps.map .str++ks.map .str,nm,ys.filter λx=>decide (kf x=kd.1)⟩ kn cl)(hkf:∀x∈ys,CD ((ys++z7).map ky) (ps.map .str++ks.map .str) (ky x)=some (.str (kf x)))(hkd:kd∈K)(hm:(m,ps)∈kd.2)(hl:ys.length=ps.length)(ho:z7.length=ks.length)(nd:(ys++z7).Nodup)(hn:∀x∈ys++z7,RS x)(hb:ys.length<=2/\z7.length<=2)(ht:Ty K kn cl 20 body k) :
  ∃τ,De zW z8 [vl (stT z8 K),vl (.l hk hv),vl (.tup [.str nm,.tup ((kd.1::ks).map .str),.str k,.tup (z7.map .str),.tup rows]),vl (.str m),vl (.tup [.tup (ys.map .str),body])]=.ok (.t .v) τ:=by
 have h1:=Ku (C:=z8) (hs:=DN K) O.W hkd hm;obtain⟨_,h2⟩:=Cu nd hn (by simp;lia);obtain⟨_,h3⟩:=LF (c:=zW) (A:=stT z8 K) (B:=.l hk hv) (D:=.l ((ys++z7).map ky) (ps.map .str++ks.map .str)) (E:=.str nm) (F:=.lst ((ys.filter λx=>decide (kf x=kd.1)).map exN));obtain⟨_,h4⟩:=A7 O 20 body k ht;rw[aq]at h2;apply MP;unfold Gf;trivial
 .exact congrArg some aq.symm
 trivial
 .exact nd
 .simp[hl,ho]
 trivial
 .apply GZ
  .trivial
  .intro x mx;have:=hkf x mx;trivial
  .intro x mx _;trivial
  .lia
 trivial
end
abbrev PF:List Str:=["stock","heads","rows_by_function"]
theorem LL:(("heads":Str) == "stock")=false/\(("rows_by_function":Str) == "stock")=false/\(("rows_by_function":Str) == "heads")=false:=by decide +kernel
section
variable{a b c:T}{x y z w:FO}
theorem Jbg:EN PF [a,b,c] "stock"=some a:=by simp[EN]
theorem Jbf:EN PF [a,b,c] "heads"=some b:=by simp[EN,LL]
theorem Jbe:EN PF [a,b,c] "rows_by_function"=some c:=by simp[EN,LL]
theorem Jbd:Bn PF [x,y,z] "heads"=some y:=by simp[Bn,LL]
theorem Jbc:Bn PF [x,y,z] "rows_by_function"=some z:=by simp[Bn,LL]
theorem Jbu:BK PF [x,y,z] "heads" w=[x,w,z]:=by simp[BK,LL]
theorem Jbt:BK PF [x,y,z] "rows_by_function" w=[x,y,w]:=by simp[BK,LL]
end
abbrev hkD(D:List Fd):List Key:=D.map λg=>ky g.nm
abbrev hvT(g:Fd):T:=.tup [.tup (g.ks.map .str),.str g.k]
abbrev hvD(D:List Fd):List T:=D.map hvT
noncomputable def rvT(g:Fd)(r:Str×List Str×T):T:=.tup [.tup (r.2.1.map .str++g.z7.map .str),r.2.2]
abbrev kyR(r:Str×List Str×T):Key:=ky r.1
noncomputable def rwD(g:Fd):FO:=.l (g.rows.map kyR) (g.rows.map (rvT g))
structure ROk(K:Kd)(D:List Fd)(g:Fd)(kd:Str×List (Str×List Str))(ks:List Str)(r:Str×List Str×T):Prop where
 two:r.2.1.length<=2
 nd:(r.2.1++g.z7).Nodup
 nm:∀x∈r.2.1++g.z7,RS x
 ex:∃(ps:List Str)(kn:Str->Str->Prop)(cl:Str->List Str->Str->List T->Prop)(kf:Str->Str),(r.1,ps)∈kd.2/\r.2.1.length=ps.length/\(∀zW z8,SOk ⟨zW,z8,K,hkD (D++[g]),hvD (D++[g]),(r.2.1++g.z7).map ky,ps.map .str++ks.map .str,g.nm,r.2.1.filter λx=>decide (kf x=kd.1)⟩ kn cl)/\(∀x∈r.2.1,CD ((r.2.1++g.z7).map ky) (ps.map .str++ks.map .str) (ky x)=some (.str (kf x)))/\Ty K kn cl 20 r.2.2 g.k
structure FOk(K:Kd)(D:List Fd)(g:Fd):Prop where
 nm:RS g.nm
 new:g.nm∉D.map Fd.nm
 yJ:g.nm∉mks K
 ind:∀x∈g.ks++[g.k],x∈K.map (·.1)
 ex:∃kd ks,kd∈K/\g.ks=kd.1::ks/\g.z7.length=ks.length/\ks.length<=2/\g.rows.map (·.1)=kd.2.map (·.1)/\∀r∈g.rows,ROk K D g kd ks r
theorem GP:∀R:List (Str×List Str×T),FL.pairs ((R.map (·.1)).map .str) (R.map rwT)=R.map λr=>.tup [.str r.1,rwT r]
 | []=>rfl
 |r::R=>by simp only[aj,FL.pairs,GP R]
section
variable{cP zW z8:Addr}{K:Kd}{g:Fd}{D:List Fd}{x2:Option Sl}
theorem kyD{x:Str}(h:x∉D.map Fd.nm):ky x∉hkD D:=by have:=KZ h;rwa[aU]at this
theorem Iq(W:Well K){G:List Fd}{F:T}(hF:F=.lst (G.map Fd.t)\/F=.tup (G.map Fd.t)\/F=.z0 (G.map Fd.t))(hl:G.length<=100)(hne:G≠[])(hG:∀A g B,A++g::B=G->FOk K A g) :
  ∃τ,BU cP zW z8 [some (.bor (.ins cP [] [])),vl (stT z8 K),vl F]=.ok (.t .v) (some (.bor (.ins cP PF [.val (stT z8 K),.l (hkD G) (hvD G),.dO (hkD G) (G.map rwD)]))::τ):=by
 apply JaM;unfold DQ;trivial;apply Im (I:=λD fs=>∃RO y3 y4 y5 y6 y7 y8 y9 y10,fs=[some (.bor (.ins cP PF [.val (stT z8 K),.l (hkD D) (hvD D),RO])),vl (stT z8 K),vl F,y3,y4,y5,y6,y7,y8,y9,y10]/\X3 RO=some (hkD D,D.map rwD)/\(D≠[]->RO=.dO (hkD D) (D.map rwD))/\Fre y3/\Fre y4/\Fre y5/\Fre y6/\Fre y7/\Fre y8/\Fre y9/\Fre y10) (xs:=G) (p:=Fd.t)
 .apply UY;trivial;exact hF
 .exact⟨_,_,_,_,_,_,_,_,_,rfl,rfl,λh=>absurd rfl h,True.intro,True.intro,True.intro,True.intro,True.intro,True.intro,True.intro,True.intro⟩
 .rintro D g R _ e ⟨RO,y3,y4,y5,y6,y7,y8,y9,y10,rfl,hR,_,f3,f4,f5,f6,f7,f8,f9,f10⟩
  have hD:=Du e;have O:=hG D g R e;obtain⟨kd,ks,hkd,hks,ho,h2,hr,hrows⟩:=O.ex;have nk:=kyD O.new;have hrl:g.rows.length=kd.2.length:=by simpa using congrArg List.length hr
  obtain⟨_,c1⟩:=C3 (z8:=z8) (hk:=hkD D) (hv:=hvD D) W hkd O.nm nk O.yJ hks ho h2 hrl O.ind;have h3:=Fm (C:=z8) (hs:=DN K) W hkd;trivial;apply Im (I:=λQ fs=>∃y9 y10,fs=[some (.bor (.ins cP PF [.val (stT z8 K),.l (hkD D++[ky g.nm]) (hvD D++[hvT g]),.dO (hkD D++[ky g.nm]) (D.map rwD++[.l (Q.map kyR) (Q.map (rvT g))])])),vl (stT z8 K),vl F,vl g.t,vl (.str g.nm),vl (.tup (g.ks.map .str)),vl (.str g.k),vl (.tup (g.z7.map .str)),vl (.tup (g.rows.map rwT)),y9,y10]/\Fre y9/\Fre y10) (xs:=g.rows) (p:=λr=>.tup [.str r.1,rwT r])
  case hi =>
   rw[<- GP,hr];have h0:atI (g.ks.map T.str) 0=some (.str kd.1):=by rw[hks];exact at0
   trivial
  case h0=>exact⟨_,_,rfl,f9,f10⟩
  case st =>
   rintro Q r Z _ e2 ⟨y9,y10,rfl,f9,f10⟩
   obtain⟨m,ys,body⟩:=r;have hq:=Du e2;have Or:=hrows _ (mem_mid e2);obtain⟨ps,kn,cl,kf,hm,hl2,hS,hkf,ht⟩:=Or.ex;have h4:=W.rw kd hkd;have hy:ys.length<=2:=Or.two;have ho2:g.z7.length<=2:=by lia
   have nr:ky m∉Q.map kyR:=by
    have nd:(g.rows.map (·.1)).Nodup:=by rw[hr];exact(W.part (bV hkd).choose_spec.choose_spec.symm).2.2.2
    rw[<- e2,aq,aj]at nd;have:=KZ (Rg rfl nd);rwa[aU]at this
   have hS:=hS zW z8;rw[show hkD (D++[g])=hkD D++[ky g.nm]from aq,show hvD (D++[g])=hvD D++[hvT g]from aq]at hS;obtain⟨_,c2⟩:=Dy (rows:=g.rows.map rwT) hS hkf hkd hm hl2 ho Or.nd Or.nm ⟨Or.two,by lia⟩ ht;rw[<- hks]at c2;trivial;exact⟨_,_,by rw[aq,aq];rfl,An,An⟩
  case k =>
   rintro _ ⟨y9,y10,rfl,f9,f10⟩
   trivial;exact⟨_,_,_,_,_,_,_,_,_,by simp only[hkD,hvD,aq];rfl,by simp only[hkD,hvD,aq];rfl,λ_=>by simp only[hkD,hvD,aq];rfl,An,An,An,An,An,An,f9,f10⟩
 .rintro _ ⟨RO,y3,y4,y5,y6,y7,y8,y9,y10,rfl,hR,h,f3,f4,f5,f6,f7,f8,f9,f10⟩
  rw[h hne];trivial
end
section
variable{K:Kd}(W:Well K){kn:Str->Str->Prop}{cl:Str->List Str->Str->List T->Prop}
abbrev kT(K:Kd):T:=.lst (K.map As)
include W
theorem least:∀(d n:Nat),d<n->∀D kd R,D++kd::R=K->D.length<=d->∃t,(∃τ,CM n [vl (kT K),vl (.str kd.1)]=.ok (.t t) τ)/\Ty K kn cl (d+1) t kd.1
 |d,n+1,hn,D,kd,R,e,hd=>by
  have hk:=mem_mid e;obtain⟨_,h1⟩:=makers W hk;obtain⟨r,rs,er⟩:=List.exists_cons_of_length_pos (W.rw kd hk).1;have hr:r∈kd.2:=by rw[er];exact aN
  have h2:=W.two kd hk r hr;obtain⟨vs,hv⟩:∃vs,F2 (λp v=>(∃τ,CM n [vl (kT K),vl (.str p)]=.ok (.t v) τ)/\Ty K kn cl d v p) r.2 vs:=Ug λp mp=>by
   have mp:=W.gr D kd R e.symm r (by rw[er];rfl) p mp;obtain⟨kp,mk,rfl⟩:=aI.mp mp;obtain⟨A,B,rfl⟩:=bV mk;rw[bg,aX]at hd;obtain⟨d,rfl⟩:∃e,d=e+1:=⟨d-1,by lia⟩
   exact least d n (by lia) A kp (B++kd::R) (by rw[<- e];simp) (by lia)
  rw[er]at h1;refine⟨exP "make" r.1 vs,?_,.inr (.inl ⟨r.1,r.2,vs,⟨kd,hk,rfl,hr⟩,(hv.imp λ_ _ h=>h.2).flip,rfl⟩)⟩;apply B0;unfold HW;trivial
  .apply Ur
   .trivial
   .exact hv.imp λp v ⟨⟨_,h⟩,_⟩=>by trivial
   .lia
  trivial
end
section
variable{K:Kd}(W:Well K){N:List (Str×Str)}{D:List Fd}
abbrev nK(N:List (Str×Str)):List Key:=N.map λp=>.inr p.1
abbrev nV(N:List (Str×Str)):List T:=N.map λp=>.str p.2
abbrev knN(N:List (Str×Str)):Str->Str->Prop:=λx k=>(x,k)∈N
abbrev clD(D:List Fd):Str->List Str->Str->List T->Prop:=λf ps k _=>∃g∈D,g.nm=f/\g.ks=ps/\g.k=k
theorem U8(nd:(N.map (·.1)).Nodup){p:Str×Str}(m:p∈N):CD (nK N) (nV N) (.inr p.1:Key)=some (.str p.2) :=
 BY (f:=λp:Str×Str=>(.inr p.1:Key)) (g:=λp=>T.str p.2) m (by have:=BB nd;rwa[aU]at this)
theorem MA(nd:(D.map Fd.nm).Nodup){g:Fd}(m:g∈D):CD (hkD D) (hvD D) (.inr g.nm:Key)=some (hvT g) :=
 BY (f:=λg:Fd=>ky g.nm) (g:=hvT) m (by have:=BB nd;rwa[aU]at this)
include W
theorem stream(n1:(N.map (·.1)).Nodup)(n2:(D.map Fd.nm).Nodup)(l1:N.length<=1000)(l2:D.length<=1000)(hN:∀p∈N,p.2∈K.map (·.1))(hD:∀g∈D,∀x∈g.ks,x∈K.map (·.1))(hK:K.length<=3)(h3:∀g∈D,g.ks.length<=100):∀(l n:Nat),l<n->∀kd∈K,∀num:Int,∃(e:T)(num':Int),(∃τ,BE n [vl (kT K),vl (.dF (nK N) (nV N)),vl (.dF (hkD D) (hvD D)),vl (.str kd.1),iv num,iv ((l+1:Nat):Int)]=.ok (.t (.lst [e,.int num'])) τ)/\Ty K (knN N) (clD D) (l+3) e kd.1
 |l,n+1,hn,kd,hk,num=>by
  obtain⟨A,B,eK⟩:=bV hk;have hA:A.length<=2:=by have:=congrArg List.length eK;simp at this;lia
  obtain⟨lt,⟨_,h1⟩,ht⟩:=least (kn:=knN N) (cl:=clD D) W 2 8 (by lia) A kd B eK.symm hA;obtain⟨_,h2⟩:=makers W hk;have h4:=W.rw kd hk
  suffices hs:∃r τ,BE (n+1) [vl (kT K),vl (.dF (nK N) (nV N)),vl (.dF (hkD D) (hvD D)),vl (.str kd.1),iv num,iv ((l+1:Nat):Int)]=.ok r τ/\∃(e:T)(num':Int),r=.t (.lst [e,.int num'])/\Ty K (knN N) (clD D) (l+3) e kd.1 by obtain⟨_,τ,e,a,b,rfl,c⟩:=hs;exact⟨a,b,⟨τ,e⟩,c⟩
  apply MQ;unfold Gg;trivial
  .apply GZ
   .trivial
   .intro p mp;have:=U8 n1 mp;trivial
   .intro p mp _;trivial
   .exact l1
  trivial
  .apply GZ
   .trivial
   .intro g mg;have:=MA n2 mg;trivial
   .intro g mg _;trivial
   .exact l2
  trivial;apply Sn
  .apply Km;trivial;apply Q8;trivial
  .intro hb;have hne:N.filter (λp=>decide (p.2=kd.1))≠[]:=λh=>by simp[h]at hb
   have g1:=cg.mpr hne;have g2:=aR (List.length_filter_le (λp=>decide (p.2=kd.1)) N) l1;obtain⟨p,mp,hp⟩:=DV hne (λp=>T.str p.1) (num/5);rw[<- ar (f:=λp:Str×Str=>T.str p.1)]at g1 g2;obtain⟨mp,ep⟩:=bH.mp mp;trivial;exact⟨_,_,rfl,.inl ⟨p.1,by rw[<- aO ep];exact mp,rfl⟩⟩
  .intro _;trivial
   .exact⟨_,_,rfl,ht.mono (λ_ _ h=>h) (λ_ _ _ _ h=>h) (by lia)⟩
   intro hb;have hl:=of_decide_eq_false hb;obtain⟨l,rfl⟩:∃j,l=j+1:=⟨l-1,by lia⟩
   have hne:kd.2≠[]:=λh=>by simp[h]at h4
   obtain⟨r,mr,hr⟩:=DV hne CB (num/5);have g1:0<(kd.2.map CB).length:=by rw[ar];lia
   trivial;apply VC (J:=λx:Str×Str×List Str=>[vl (kT K),vl (.dF (nK N) (nV N)),vl (.dF (hkD D) (hvD D)),vl (.str kd.1),iv (num/5),iv ((l+1+1:Nat):Int),vl (.lst ((N.filter λp=>decide (p.2=kd.1)).map λp=>T.str p.1)),vl (.lst ((D.filter λg=>decide (g.k=kd.1)).map λg=>T.str g.nm)),iv (num%5),vl (.str x.1),vl (.lst (kd.2.map CB)),vl (.str x.2.1),vl (.tup (x.2.2.map .str)),none,none,none]) (P:=λx=>(∀p∈x.2.2,p∈K.map (·.1))/\x.2.2.length<=100/\∀vs,F2 (Ty K (knN N) (clD D) (l+3)) vs x.2.2->Ty K (knN N) (clD D) (l+1+3) (exP x.1 x.2.1 vs) kd.1)
   .apply Km;trivial
   .intro hb;have hne:D.filter (λg=>decide (g.k=kd.1))≠[]:=λh=>by simp[h]at hb
    have g1:=cg.mpr hne;obtain⟨g,mg,hg⟩:=DV hne (λg=>T.str g.nm) (num/5);rw[<- ar (f:=λg:Fd=>T.str g.nm)]at g1;obtain⟨mg,eg⟩:=bH.mp mg;have:=MA n2 mg;refine⟨("call",g.nm,g.ks),⟨hD g mg,?_,λvs h=>.inr (.inr ⟨g.nm,g.ks,vs,⟨g,mg,rfl,rfl,aO eg⟩,h,rfl⟩)⟩,?_⟩
    .exact h3 g mg
    .trivial
   .intro _;refine⟨("make",r.1,r.2),⟨W.za kd hk r mr,aR (W.two kd hk r mr) (by decide),λvs h=>.inr (.inl ⟨r.1,r.2,vs,⟨kd,hk,rfl,mr⟩,h,rfl⟩)⟩,rfl⟩
   rintro⟨w,m,ps⟩ ⟨p1,p2,p3⟩
   trivial;apply B8 (I:=λZ fs=>∃(vs:List T)(nu:Int)(y14 y15:Option Sl),fs=[vl (kT K),vl (.dF (nK N) (nV N)),vl (.dF (hkD D) (hvD D)),vl (.str kd.1),iv nu,iv ((l+1+1:Nat):Int),vl (.lst ((N.filter λp=>decide (p.2=kd.1)).map λp=>T.str p.1)),vl (.lst ((D.filter λg=>decide (g.k=kd.1)).map λg=>T.str g.nm)),iv (num%5),vl (.str w),vl (.lst (kd.2.map CB)),vl (.str m),vl (.tup (ps.map .str)),some (.own (.lst vs)),y14,y15]/\Fre y14/\Fre y15/\F2 (Ty K (knN N) (clD D) (l+3)) vs Z) (xs:=ps) (p:=T.str)
   case hi=>trivial
   case h0=>exact⟨_,_,_,_,rfl,True.intro,True.intro,.nil⟩
   case st =>
    rintro Z p R _ e ⟨vs,nu,y14,y15,rfl,f14,f15,hv⟩
    obtain⟨kp,mk,rfl⟩:=aI.mp (p1 _ (mem_mid e));obtain⟨v,nu',⟨_,h⟩,ht⟩:=stream n1 n2 l1 l2 hN hD hK h3 l n (by lia) kp mk nu;rw[show((l+1:Nat):Int)=((l+1+1:Nat):Int)-1 by lia]at h;have:=hv.len;have:=Du e;simp only at p2;trivial;exact⟨_,_,_,_,rfl,An,An,hv.snoc ht⟩
   case k =>
    rintro _ ⟨vs,nu,y14,y15,rfl,f14,f15,hv⟩
    trivial;exact⟨_,_,rfl,p3 vs hv⟩
end
section
variable{K:Kd}(W:Well K){N:List (Str×Str)}{D:List Fd}
include W
theorem grown(n1:(N.map (·.1)).Nodup)(n2:(D.map Fd.nm).Nodup)(l1:N.length<=1000)(l2:D.length<=1000)(hN:∀p∈N,p.2∈K.map (·.1))(hD:∀g∈D,∀x∈g.ks,x∈K.map (·.1))(hK:K.length<=3)(h3:∀g∈D,g.ks.length<=100){kd:Str×List (Str×List Str)}(hk:kd∈K)(num:Int):∃e:T,(∃τ,En [vl (kT K),vl (.dF (nK N) (nV N)),vl (.dF (hkD D) (hvD D)),vl (.str kd.1),iv num,iv 3]=.ok (.t e) τ)/\Ty K (knN N) (clD D) 5 e kd.1:=by obtain⟨e,num',⟨_,h⟩,ht⟩:=stream W n1 n2 l1 l2 hN hD hK h3 2 6 (by lia) kd hk num;refine⟨e,?_,ht⟩;apply B0;unfold Lo;trivial
end
theorem put{K:Kd}{kn kn':Str->Str->Prop}{cl cl':Str->List Str->Str->List T->Prop}{k0:Str}{o:T}{j:Nat}(hk:∀x k,kn' x k->(x=""/\k=k0)\/(x≠""/\kn x k))(hc:∀f ps k ts,cl f ps k ts->(∀ts',cl' f ps k ts')/\ps.length<=100)(h2:∀kd∈K,∀r∈kd.2,r.2.length<=2)(ho:Ty K kn cl' j o k0):∀m n,m<=n->∀t k,Ty K kn' cl m t k->∃t',(∃τ,ET n [vl t,vl (.str ""),vl o]=.ok (.t t') τ)/\Ty K kn cl' (m+j) t' k
 |m+1,n+1,hn,t,k,h=>by
  have key:(∃x,kn' x k/\t=exN x)\/∃(f s:Str)(ps:List Str)(ts:List T),f≠"name"/\F2 (Ty K kn' cl m) ts ps/\ps.length<=100/\(∀vs,F2 (Ty K kn cl' (m+j)) vs ps->Ty K kn cl' (m+j+1) (exP f s vs) k)/\t=exP f s ts:=by
   rcases h with h|⟨s,ps,ts,⟨kd,m1,rfl,m2⟩,b,rfl⟩|⟨f,ps,ts,a,b,rfl⟩
   .exact .inl h
   .exact .inr ⟨_,s,ps,ts,Ma.2.1,b,aR (h2 kd m1 _ m2) (by decide),λvs hv=>.inr (.inl ⟨s,ps,vs,⟨kd,m1,rfl,m2⟩,hv,rfl⟩),rfl⟩
   .exact .inr ⟨_,f,ps,ts,Ma.2.2.1,b,(hc _ _ _ _ a).2,λvs hv=>.inr (.inr ⟨f,ps,vs,(hc _ _ _ _ a).1 vs,hv,rfl⟩),rfl⟩
  rcases key with⟨x,a,rfl⟩|⟨f,s,ps,ts,hf,b,hl,hT,rfl⟩
  .rcases hk x k a with⟨rfl,rfl⟩|⟨hx,hkn⟩
   .refine⟨o,?_,ho.mono (λ_ _ h=>h) (λ_ _ _ _ h=>h) (by lia)⟩;apply B0;unfold Jn exN;trivial
   .refine⟨exN x,?_,Ty.mono (n:=1) (λ_ _ h=>h) (λ_ _ _ _ h=>h) (.inl ⟨x,hkn,rfl⟩) (by lia)⟩;apply B0;unfold Jn exN;trivial
    .rw[if_neg (by simp[hx])];exact at0
    trivial
  .have go:∀{ts:List T}{ps:List Str},F2 (Ty K kn' cl m) ts ps->∃vs,F2 (λt v=>∃τ,ET n [vl t,vl (.str ""),vl o]=.ok (.t v) τ) ts vs/\F2 (Ty K kn cl' (m+j)) vs ps:=λh=>by induction h with|nil=>exact⟨[],.nil,.nil⟩|cons h _ ih =>obtain⟨vs,a,b⟩:=ih;obtain⟨v,c,d⟩:=put hk hc h2 ho m n (by lia) _ _ h;exact⟨v::vs,.cons c a,.cons d b⟩
   obtain⟨vs,hv,hw⟩:=go b;have hl2:=b.len;refine⟨exP f s vs,?_,by rw[Nat.add_right_comm];exact hT vs hw⟩;apply B0;unfold Jn exP;trivial
   .apply XR
    .trivial
    .exact hv.imp λt v ⟨_,h⟩=>by trivial
    .lia
   trivial
theorem Ex:∀xs ys:List Str,FL.pairs (xs.map .str) (ys.map .str)=(xs.zip ys).map λq=>.tup [.str q.1,.str q.2]
 | [],_=>by simp[FL.pairs]
 |x::xs,[]=>by simp[FL.pairs]
 |x::xs,y::ys=>by simp[FL.pairs,Ex xs ys]
noncomputable def cpE(own k:Str)(q:Str×Str):T:=if q.2=k then exP "call" own [exN q.1]else exN q.1
theorem Qu{own k m:Str}{ps ws:List Str}(h1:ps.length<=ws.length)(h2:ws.length<=100):∃τ,Df [vl (.str own),vl (.str k),vl (.str m),vl (.tup (ps.map .str)),vl (.lst (ws.map .str))]=.ok (.t (.tup [.tup ((ws.take ps.length).map .str),exP "make" m ((ws.zip ps).map (cpE own k))])) τ:=by
 apply B0;unfold Gi;trivial;apply B8 (I:=λZ fs=>∃y6 y7,fs=[vl (.str own),vl (.str k),vl (.str m),vl (.tup (ps.map .str)),vl (.lst (ws.map .str)),some (.own (.lst (Z.map (cpE own k)))),y6,y7]/\Fre y6/\Fre y7) (xs:=ws.zip ps) (p:=λq=>.tup [.str q.1,.str q.2])
 case hi =>rw[<- Ex];trivial
 case h0=>exact⟨_,_,rfl,True.intro,True.intro⟩
 case st =>
  rintro Z q R _ e ⟨y6,y7,rfl,f6,f7⟩
  have:=Du e;rw[cF]at this;trivial
  .exact⟨vl (.str q.1),vl (.str q.2),by rw[aq];unfold cpE exP exN;simp at hb;simp[hb],An,An⟩
  trivial
  .exact⟨vl (.str q.1),vl (.str q.2),by rw[aq];unfold cpE exP exN;simp at hb;simp[hb],An,An⟩
 case k =>
  rintro _ ⟨y6,y7,rfl,f6,f7⟩
  trivial;rw[ar,<- List.map_take];rfl
abbrev clO(D:List Fd)(own:Str)(ps:List Str)(k:Str)(ls:List Str):Str->List Str->Str->List T->Prop:=λf qs k' ts=>clD D f qs k' ts\/(f=own/\qs=ps/\k'=k/\∃x∈ls,ts[0]?=some (exN x))
section
variable{K:Kd}(W:Well K){N:List (Str×Str)}{D:List Fd}
include W
theorem body(n1:(N.map (·.1)).Nodup)(n2:(D.map Fd.nm).Nodup)(l1:N.length<=100)(l2:D.length<=100)(hN:∀p∈N,p.2∈K.map (·.1))(hD:∀g∈D,∀x∈g.ks,x∈K.map (·.1))(hK:K.length<=3)(h3:∀g∈D,g.ks.length<=100){kd:Str×List (Str×List Str)}(hk:kd∈K){own w0:Str}{ws ls:List Str}(hw:∀x∈ws,x∈K.map (·.1))(lw:ws.length<=2)(ll:ls.length<=2)(hls:∀x∈ls,(x,w0)∈N)(hne:∀p∈N,p.1≠"")(dg:Int) :
  ∃e:T,(∃τ,FX [vl (kT K),vl (.dF (hkD D) (hvD D)),vl (.tup [.str own,.lst ((w0::ws).map .str),.str kd.1]),vl (.dF (nK N) (nV N)),vl (.lst (ls.map .str)),iv dg]=.ok (.t e) τ)/\Ty K (knN N) (clO D own (w0::ws) kd.1 ls) 20 e kd.1:=by
 suffices hs:∃r τ,FX [vl (kT K),vl (.dF (hkD D) (hvD D)),vl (.tup [.str own,.lst ((w0::ws).map .str),.str kd.1]),vl (.dF (nK N) (nV N)),vl (.lst (ls.map .str)),iv dg]=.ok r τ/\∃e:T,r=.t e/\Ty K (knN N) (clO D own (w0::ws) kd.1 ls) 20 e kd.1 by obtain⟨_,τ,e,a,rfl,c⟩:=hs;exact⟨a,⟨τ,e⟩,c⟩
 obtain⟨e1,⟨_,g1⟩,t1⟩:=grown W n1 n2 (by lia) (by lia) hN hD hK h3 hk (dg/8);apply MQ;unfold Oz;trivial;apply Sn
 .apply Q8;trivial
 .intro _;trivial;exact⟨_,rfl,t1.mono (λ_ _ h=>h) (λ_ _ _ _ h=>.inl h) (by lia)⟩
 intro hb;have hne':ls≠[]:=λh=>by simp[h]at hb
 have p1:0<(ls.map T.str).length:=by rw[ar];exact cg.mpr hne'
 obtain⟨x,mx,hx⟩:=DV hne' T.str (dg/4);have ne:(.inr "":Key)∉nK N:=λm=>by obtain⟨p,mp,e⟩:=aI.mp m;exact hne p mp (Sum.inr.inj e)
 trivial;apply B8 (I:=λZ fs=>∃(vs:List T)(d:Int)(y11 y12:Option Sl),fs=[vl (kT K),vl (.dF (hkD D) (hvD D)),vl (.tup [.str own,.lst ((w0::ws).map .str),.str kd.1]),vl (.dF (nK N) (nV N)),vl (.lst (ls.map .str)),iv d,vl (.str own),vl (.lst ((w0::ws).map .str)),vl (.str kd.1),some (.own (.l (nK N++[.inr ""]) (nV N++[.str kd.1]))),some (.own (.lst (exN x::vs))),y11,y12]/\Fre y11/\Fre y12/\F2 (Ty K (knN N) (clD D) 4) vs Z) (xs:=ws) (p:=T.str)
 case hi=>trivial
 case h0=>exact⟨_,_,_,_,rfl,True.intro,True.intro,.nil⟩
 case st =>
  rintro Z p R _ e ⟨vs,d,y11,y12,rfl,f11,f12,hv⟩
  obtain⟨kp,mk,rfl⟩:=aI.mp (hw _ (mem_mid e));obtain⟨v,d',⟨_,h⟩,ht⟩:=stream W n1 n2 (by lia) (by lia) hN hD hK h3 1 6 (by lia) kp mk d;have:=hv.len;have:=Du e;trivial;exact⟨vs++[v],_,_,_,rfl,An,An,hv.snoc ht⟩
 case k =>
  rintro _ ⟨vs,d,y11,y12,rfl,f11,f12,hv⟩
  obtain⟨e2,⟨_,g2⟩,t2⟩:=grown (N:=N++[(("":Str),kd.1)]) (D:=D) W (by
   rw[aq];exact ah.mpr ⟨n1,by simp,λa ma b mb e=>by obtain⟨p,mp,rfl⟩:=aI.mp ma;exact hne p mp (by rw[e];simpa using mb)⟩) n2 (by simp;lia) (by lia) (λp mp=>by
   rcases av.mp mp with mp|mp
   .exact hN p mp
   .rw[aG.mp mp];exact aI.mpr ⟨kd,hk,rfl⟩) hD hK h3 hk d
  rw[show nK (N++[((("":Str)),kd.1)])=nK N++[.inr ""]from aq,show nV (N++[((("":Str)),kd.1)])=nV N++[.str kd.1]from aq]at g2;have to:Ty K (knN N) (clO D own (w0::ws) kd.1 ls) 5 (exP "call" own (exN x::vs)) kd.1:=.inr (.inr ⟨own,w0::ws,_,.inr ⟨rfl,rfl,rfl,x,mx,rfl⟩,.cons (.inl ⟨x,hls x mx,rfl⟩) (hv.imp λ_ _ h=>h.mono (λ_ _ h=>h) (λ_ _ _ _ h=>.inl h) (aJ _)),rfl⟩);obtain⟨e3,⟨_,g3⟩,t3⟩:=put (kn:=knN N) (kn':=knN (N++[((("":Str)),kd.1)])) (cl:=clD D) (k0:=kd.1) (λz k h=>by
   rcases av.mp h with h|h
   .exact .inr ⟨hne _ h,h⟩
   .have:=aG.mp h;cases this;exact .inl ⟨rfl,rfl⟩) (λf ps k ts h=>⟨λ_=>.inl h,by obtain⟨g,m,_,rfl,_⟩:=h;exact h3 g m⟩) W.two to 5 20 (by lia) e2 kd.1 t2
  unfold exP at g3;trivial;exact⟨_,rfl,t3.mono (λ_ _ h=>h) (λ_ _ _ _ h=>h) (by lia)⟩
end
theorem Mt{xs ys:List Str}(h:xs.length=ys.length):nK (xs.zip ys)=xs.map λx=>(.inr x:Key):=by
 have:=b8 (l₁:=xs) (l₂:=ys) (by lia)
 conv=>rhs;rw[<- this,aU]
 rfl
theorem Mr{xs ys:List Str}(h:xs.length=ys.length):nV (xs.zip ys)=ys.map T.str:=by
 have:=List.map_snd_zip (l₁:=xs) (l₂:=ys) (by lia)
 conv=>rhs;rw[<- this,aU]
 rfl
theorem US{α β:Type}{xs:List α}{ys:List β}{p:α->T}{q:β->T}{fs:FS}(h:ys.length<=xs.length):NO (.t (.lst (xs.map p))) none (some ((ys.map q).length:Int)) fs=.ok (.t (.lst ((xs.take ys.length).map p))) fs:=by rw[UT (by rw[ar,ar];exact h),ar,List.map_take]
theorem Wds.nd{n:Int}{vs:List Str}(h:Wds n vs)(hl:vs.length<=26):vs.Nodup :=
 bz.mpr λi j hi hj hij e=>by have:=h.inj hl (ag hi) (by rw[e];exact ag hj);lia
theorem F2.r{α β:Type}{R:α->β->Prop}{as:List α}{bs:List β}(h:F2 R as bs):∀b∈bs,∃a,R a b:=by
 induction h with
 |nil=>exact λ_ m=>nomatch m
 |cons h _ ih =>
  intro b m;rcases aH.mp m with rfl|m
  .exact⟨_,h⟩
  .exact ih b m
structure Fun1(K:Kd)(D:List Fd)(g:Fd):Prop where
 ind:∀x∈g.ks++[g.k],x∈K.map (·.1)
 ex:∃kd ks,kd∈K/\g.ks=kd.1::ks/\g.z7.length=ks.length/\ks.length<=2/\g.rows.map (·.1)=kd.2.map (·.1)/\∀r∈g.rows,ROk K D g kd ks r
theorem QZ{K:Kd}(W:Well K){D:List Fd}{own m k1:Str}{names z7 ps kn:List Str}{kd:Str×List (Str×List Str)}{X:List (Str×List Str×T)}{e:T}(n2:(D.map Fd.nm).Nodup)(ho:own∉D.map Fd.nm)(hr:(m,ps)∈kd.2)(ln:names.length=ps.length)(lo:z7.length=kn.length)(l2:names.length<=2)(nd:(names++z7).Nodup)(nm:∀x∈names++z7,RS x)
  (te:Ty K (knN ((names++z7).zip (ps++kn))) (clO D own (kd.1::kn) k1 (((names.zip ps).filter λq=>decide (q.2=kd.1)).map (·.1))) 20 e k1):ROk K D ⟨own,kd.1::kn,k1,z7,X⟩ kd kn (m,names,e):=by
 have lN:(names++z7).length=(ps++kn).length:=by simp;lia
 have z1:=Mt lN;have z2:=Mr lN;have z3:=List.zip_append (l₁:=names) (l₂:=ps) (r₁:=z7) (r₂:=kn) ln;have val:∀x k,(x,k)∈(names++z7).zip (ps++kn)->CD ((names++z7).map ky) (ps.map .str++kn.map .str) (ky x)=some (.str k):=λx k h=>by have:=U8 (by rw[b8 (by lia)];exact nd) h;rwa[z1,z2,aq (f:=T.str)]at this
 obtain⟨kf,hkf⟩:∃kf:Str->Str,∀x k,(x,k)∈(names++z7).zip (ps++kn)->kf x=k:=⟨λx=>match CD ((names++z7).map ky) (ps.map .str++kn.map .str) (ky x)with|some (.str k)=>k|_=>"",λx k h=>by simp only[val x k h]⟩
 have n3:∀X,((D++[(⟨own,kd.1::kn,k1,z7,X⟩:Fd)]).map Fd.nm).Nodup:=λX=>by rw[aq];exact ah.mpr ⟨n2,by simp,λa ma b mb e=>ho (by have hb:b=own:=aG.mp mb;rw[<- hb,<- e];exact ma)⟩
 refine⟨l2,nd,nm,ps,_,_,kf,hr,ln,λzW z8=>⟨W,val,λf qs k ts h=>?_⟩,λx mx=>?_,te⟩
 .rcases h with⟨g,mg,rfl,rfl,rfl⟩|⟨rfl,rfl,rfl,x,mx,ex⟩
  .exact⟨MA (n3 X) (aB _ mg),λh=>absurd (aI.mpr ⟨g,mg,h⟩) ho⟩
  .refine⟨MA (n3 X) (aC _ (aG.mpr rfl)),λ_=>⟨x,?_,ex⟩⟩;obtain⟨⟨a,b⟩,mq,rfl⟩:=aI.mp mx;obtain⟨mq,eq⟩:=bH.mp mq;have eq:=aO eq;exact bH.mpr ⟨(cq mq).1,aV ((hkf a b (by rw[z3];exact aB _ mq)).trans eq)⟩
 .have:x∈(names.zip ps).map (·.1):=by rw[b8 (by lia)];exact mx
  obtain⟨⟨a,b⟩,mq,rfl⟩:=aI.mp this;have mq:(a,b)∈(names++z7).zip (ps++kn):=by rw[z3];exact aB _ mq
  rw[hkf a b mq];exact val a b mq
section
variable{K:Kd}(W:Well K){D:List Fd}
include W
theorem JV(num:Int):∃kd∈K,atI (K.map As) (num%((K.map As).length:Int))=some (As kd):=DV (λh=>by have:=W.lo;simp[h]at this) As num
theorem function(n2:(D.map Fd.nm).Nodup)(l2:D.length<=100)(hD:∀g∈D,∀x∈g.ks,x∈K.map (·.1))(hK:K.length<=3)(h3:∀g∈D,g.ks.length<=100){own:Str}(ho:own∉D.map Fd.nm)(num:Int) :
  ∃g:Fd,g.nm=own/\Fun1 K D g/\∃τ,Ct [vl (kT K),vl (.str own),vl (.dF (hkD D) (hvD D)),iv num]=.ok (.t g.t) τ:=by
 obtain⟨pl,wd,_,w1,w2,hw⟩:=words (num/11) (c:=4) (by lia);have Wd:Wds (num/11) wd:=⟨pl,w2⟩
 obtain⟨c,hc,ec⟩:∃c:Nat,c<=2/\1+num%3=((1+c:Nat):Int):=⟨(num%3).toNat,by lia,by lia⟩
 obtain⟨kds,hkds⟩:∃kds,F2 (λ(i:Nat) kd=>i<1+c/\kd∈K/\atI (K.map As) (num/(3+2*(i:Int))%((K.map As).length:Int))=some (As kd)) (List.range (1+c)) kds:=Ug λi m=>let⟨kd,a,b⟩:=JV W (num/(3+2*(i:Int)));⟨kd,bT.mp m,a,b⟩
 obtain⟨k1,mk1,hk1⟩:=JV W (num/100);have kl:0<(K.map As).length:=by rw[ar];exact W.lo
 have lk:=hkds.len;rw[bG]at lk;obtain⟨kd,ks,rfl⟩:∃kd ks,kds=kd::ks:=by cases kds with|nil=>simp at lk|cons a b=>exact⟨a,b,rfl⟩
 suffices hs:∃r τ,Ct [vl (kT K),vl (.str own),vl (.dF (hkD D) (hvD D)),iv num]=.ok r τ/\∃g:Fd,r=.t g.t/\g.nm=own/\Fun1 K D g by obtain⟨_,τ,e,g,rfl,a,b⟩:=hs;exact⟨g,a,b,τ,e⟩
 apply MQ;unfold Gh;trivial
 .lia
 trivial
 .apply Ur
  .trivial
  .exact F2.ZV (f:=λkd:Str×List (Str×List Str)=>T.str kd.1) (hkds.imp λi kd ⟨hi,m,h⟩=>by trivial)
  .simp;lia
 trivial
 .apply Ys (n:=2) (m:=1+(1+c))
  .rfl
  .simp at lk ⊢;lia
  .exact⟨by lia,by rw[ar];lia⟩
 trivial;rw[<- List.map_drop,<- List.map_take,show 1+(1+c)-2=c by lia,show(kd::ks).map (λkd=>T.str kd.1)=(kd.1::ks.map (·.1)).map T.str by simp];have mk:kd∈K:=let⟨_,_,h,_⟩:=hkds.r kd aN;h;have mks:∀x∈ks.map (·.1),x∈K.map (·.1):=λx mx=>by obtain⟨z,mz,rfl⟩:=aI.mp mx;obtain⟨_,_,h,_⟩:=hkds.r z (ao _ mz);exact aI.mpr ⟨z,h,rfl⟩
 obtain⟨z7,hoth⟩:∃z7,z7=(wd.drop 2).take c:=⟨_,rfl⟩
 obtain⟨kn,hkn⟩:∃kn,kn=ks.map (·.1):=⟨_,rfl⟩
 have lkn:kn.length=c:=by rw[hkn];simp at lk ⊢;lia
 have lo:z7.length=c:=by rw[hoth];simp;lia
 rw[<- hkn]at mks ⊢;rw[<- hoth];obtain⟨_,hmk⟩:=makers W mk;apply B8 (I:=λ(Z:List ((Str×List Str)×Nat)) fs=>∃(rows:List (Str×List Str×T))(nu:Int)(y9 y10 y11 y12 y13 y14 y15:Option Sl),fs=[vl (kT K),vl (.str own),vl (.dF (hkD D) (hvD D)),iv nu,vl (.lst (wd.map .str)),vl (.lst ((kd.1::kn).map .str)),vl (.str k1.1),vl (.lst (z7.map .str)),some (.own (.lst (rows.map rwT))),y9,y10,y11,y12,y13,y14,y15]/\(Fre y9/\Fre y10/\Fre y11/\Fre y12/\Fre y13/\Fre y14/\Fre y15)/\rows.map (·.1)=Z.map (λq=>q.1.1)/\∀r∈rows,∀X,ROk K D ⟨own,kd.1::kn,k1.1,z7,X⟩ kd kn r) (xs:=kd.2.zipIdx) (p:=λq=>.tup [.int q.2,CB q.1])
 case hi =>rw[<- HN CB kd.2 0];trivial
 case h0=>exact⟨[],_,_,_,_,_,_,_,_,rfl,⟨True.intro,True.intro,True.intro,True.intro,True.intro,True.intro,True.intro⟩,rfl,λ_ m=>nomatch m⟩
 case st =>
  rintro Z ⟨⟨m,ps⟩,i⟩ R _ e ⟨rows,nu,y9,y10,y11,y12,y13,y14,y15,rfl,⟨f9,f10,f11,f12,f13,f14,f15⟩,hrw,z9⟩
  have hi:=List.mk_mem_zipIdx_iff_getElem?.mp (mem_mid e);have hr:=bq hi;have hi:=(ak.mp hi).1;have h4:=(W.rw kd mk).2;have l2p:ps.length<=2:=W.two kd mk _ hr;obtain⟨v,_,hm⟩:=mix (nu%10^18) (k:=70+i) (by lia);rw[show((70+i:Nat):Int)=70+(i:Int) by lia]at hm;have nd:(wd.take ps.length++z7).Nodup:=by
   refine List.Nodup.sublist ?_ (Wd.nd (by lia));rw[hoth,<- cz 2 wd];refine List.Sublist.append ?_ ?_
   .rw[cz];exact List.take_sublist_take_left l2p
   .rw[cz];exact cy _ _
  obtain⟨nms,hnms⟩:∃nms,nms=wd.take ps.length:=⟨_,rfl⟩
  have ln:nms.length=ps.length:=by rw[hnms,bt];lia
  rw[<- hnms]at nd;have lw:∀x∈nms++z7,Lw x:=λx mx=>Wd.lw (by
   rcases av.mp mx with mx|mx
   .rw[hnms]at mx;exact bL mx
   .rw[hoth]at mx;exact cD (bL mx))
  have nm:∀x∈nms++z7,RS x:=λx mx=>FJ (lw x mx)
  have lN:(nms++z7).length=(ps++kn).length:=by simp;lia
  have z1:=Mt lN;have z2:=Mr lN;have z3:=List.zip_append (l₁:=nms) (l₂:=ps) (r₁:=z7) (r₂:=kn) ln;have bd:=λdg=>body (N:=(nms++z7).zip (ps++kn)) (D:=D) W (by rw[b8 (by lia)];exact nd) n2 (by rw[cF];simp;lia) l2 (λq mq=>by
   rcases av.mp (cq mq).2 with h|h
   .exact W.za kd mk _ hr _ h
   .exact mks _ h) hD hK h3 mk1 (own:=own) (w0:=kd.1) (ws:=kn) (ls:=((nms.zip ps).filter λq=>decide (q.2=kd.1)).map (·.1)) mks (by lia) (by rw[ar];exact aR (List.length_filter_le _ _) (by rw[cF];lia)) (λx mx=>by
   obtain⟨⟨a,b⟩,mq,rfl⟩:=aI.mp mx;obtain⟨mq,eq⟩:=bH.mp mq;rw[z3,<- aO eq];exact aB _ mq) (λq mq h=>by
   have:=(lw _ (cq mq).1).lo;rw[h]at this;exact absurd this (by decide +kernel)) dg
  have fin:∀e,Ty K (knN ((nms++z7).zip (ps++kn))) (clO D own (kd.1::kn) k1.1 (((nms.zip ps).filter λq=>decide (q.2=kd.1)).map (·.1))) 20 e k1.1->∀r∈rows++[(m,nms,e)],∀X,ROk K D ⟨own,kd.1::kn,k1.1,z7,X⟩ kd kn r:=λe te r mr X=>by
   rcases av.mp mr with mr|mr
   .exact z9 r mr X
   .rw[aG.mp mr];exact QZ W n2 ho hr ln (by lia) (by lia) nd nm te
  obtain⟨e1,⟨_,b1⟩,t1⟩:=bd (nu/10^40);obtain⟨e2,⟨_,b2⟩,t2⟩:=bd v;rw[z1,z2,aU,aq (f:=T.str)]at b1 b2;have lr:rows.length<4:=by have h1:=Du e;have h2:=congrArg List.length hrw;simp at h1 h2;lia
  subst hnms;dsimp only;trivial
  .exact congrArg some aq.symm
  trivial
  .exact nd
  .simp;lia
  trivial
  .rw[Ex];apply Oq
   .trivial
   .trivial
   .exact λ_=>rfl
   .intro q mq;trivial
   .intro q mq _;trivial
   .simp;lia
  trivial
  .exact⟨rows++[(m,wd.take ps.length,e1)],_,_,_,_,_,_,_,_,by rw[aq (f:=rwT)];rfl,⟨An,An,An,An,An,An,An⟩,by rw[aq,aq,hrw];rfl,fin e1 t1⟩
  trivial;exact⟨rows++[(m,wd.take ps.length,e2)],_,_,_,_,_,_,_,_,by rw[aq (f:=rwT)];rfl,⟨An,An,An,An,An,An,An⟩,by rw[aq,aq,hrw];rfl,fin e2 t2⟩
 case k =>
  rintro _ ⟨rows,nu,y9,y10,y11,y12,y13,y14,y15,rfl,⟨f9,f10,f11,f12,f13,f14,f15⟩,hrw,z9⟩
  trivial;refine⟨⟨own,kd.1::kn,k1.1,z7,rows⟩,rfl,rfl,λx mx=>?_,kd,kn,mk,rfl,by show z7.length=_;lia,by lia,?_,λr mr=>z9 r mr _⟩
  .rcases av.mp mx with mx|mx
   .rcases aH.mp mx with rfl|mx
    .exact aI.mpr ⟨kd,mk,rfl⟩
    .exact mks x mx
   .rw[aG.mp mx];exact aI.mpr ⟨k1,mk1,rfl⟩
  .show rows.map (·.1)=_;have:=congrArg (List.map (·.1)) (List.zipIdx_map_fst 0 kd.2);rw[aU]at this;exact hrw.trans this
end
section
variable{K:Kd}(W:Well K)
theorem JaO:Lw ("z":Str)/\Lw ("zz":Str):=⟨⟨by decide +kernel,by decide +kernel,by decide +kernel⟩,⟨by decide +kernel,by decide +kernel,by decide +kernel⟩⟩
include W
theorem Qg{own:Str}{kd:Str×List (Str×List Str)}(hk:kd∈K){ws:List Str}(lw:ws.length=2)(nd:ws.Nodup)(nm:∀x∈ws,RS x):Fun1 K [] ⟨own,[kd.1],kd.1,[],kd.2.map λr=>(r.1,ws.take r.2.length,exP "make" r.1 ((ws.zip r.2).map (cpE own kd.1)))⟩:=by
 have mk:kd.1∈K.map (·.1):=aI.mpr ⟨kd,hk,rfl⟩;refine⟨λx mx=>?_,kd,[],hk,rfl,rfl,by simp,by rw[aU];rfl,λr mr=>?_⟩
 .simp at mx;rcases mx with rfl|rfl<;>exact mk
 .obtain⟨⟨m,ps⟩,m2,rfl⟩:=aI.mp mr;clear mr;dsimp only;have l2:ps.length<=2:=W.two kd hk (m,ps) m2;have tk:(ws.take ps.length).length=ps.length:=by rw[bt];lia
  have zz:ws.zip ps=(ws.take ps.length).zip ps:=by
   conv=>lhs;rw[<- cz ps.length ws]
   rw[<- bj ps,List.zip_append (by rw[bj];exact tk)];simp
  refine QZ W (by simp) (by simp) m2 tk rfl (by lia) (by simpa using nd.sublist (cy _ _)) (λx mx=>nm x (bL (by simpa using mx))) ?_;refine .inr (.inl ⟨m,ps,_,⟨kd,hk,rfl,m2⟩,?_,rfl⟩);rw[zz];have go:∀(N:List (Str×Str)),(∀q∈N,q∈(ws.take ps.length).zip ps)->F2 (Ty K (knN ((ws.take ps.length++[]).zip (ps++[]))) (clO [] own [kd.1] kd.1 ((((ws.take ps.length).zip ps).filter λq=>decide (q.2=kd.1)).map (·.1))) 19) (N.map (cpE own kd.1)) (N.map (·.2)):=by
   intro N
   induction N with
   |nil=>exact λ_=>.nil
   |cons q N ih =>
    intro h;refine .cons ?_ (ih λq m=>h q (ao _ m));have mq:=h q aN;have mq':q∈(ws.take ps.length++[]).zip (ps++[]):=by simpa using mq
    show Ty _ _ _ 19 (cpE own kd.1 q) q.2;unfold cpE;by_cases hq:q.2=kd.1
    .rw[if_pos hq,hq];refine .inr (.inr ⟨own,[kd.1],_,.inr ⟨rfl,rfl,rfl,q.1,aI.mpr ⟨q,bH.mpr ⟨mq,aV hq⟩,rfl⟩,rfl⟩,.cons (.inl ⟨q.1,?_,rfl⟩) .nil,rfl⟩);rw[<- hq];exact mq'
    .rw[if_neg hq];exact .inl ⟨q.1,mq',rfl⟩
  have:=go ((ws.take ps.length).zip ps) (λ_ m=>m);rwa[List.map_snd_zip (by lia)]at this
end
mutual
theorem KP:∀ts:List T,(∀t∈ts,noD t=true)->OF ts=true
 | [],_=>by simp[OF]
 |t::ts,h=>by simp[OF,h t aN,KP ts λt m=>h t (ao _ m)]
end
theorem Ey{s:Str}:noD (.str s)=true:=by simp[noD]
theorem Ds{ts:List T}(h:∀t∈ts,noD t=true):noD (.tup ts)=true:=by rw[noD];exact KP ts h
theorem Ea(xs:List Str):noD (.tup (xs.map .str))=true:=Ds λt m=>by obtain⟨x,_,rfl⟩:=aI.mp m;exact Ey
theorem Ty.noD{K:Kd}{kn:Str->Str->Prop}{cl:Str->List Str->Str->List T->Prop}:∀{n:Nat}{t:T}{k:Str},Ty K kn cl n t k->noD t=true
 |n+1,t,k,h=>by
  rcases h with⟨x,a,rfl⟩|⟨f,ps,ts,a,b,rfl⟩|⟨f,ps,ts,a,b,rfl⟩
  .simp[exN,FL.noD,FL.OF]
  all_goals
   have:∀t∈ts,FL.noD t=true:=λt m=>by obtain⟨p,h⟩:=b.flip.r t m;exact Ty.noD h
   unfold exP;exact Ds λt m=>by
    simp at m;rcases m with rfl|rfl|rfl
    .exact Ey
    .exact Ey
    .exact Ds this
theorem Xa{K:Kd}{D:List Fd}{g:Fd}(h:Fun1 K D g):noD g.t=true:=by
 obtain⟨kd,ks,_,_,_,_,_,hr⟩:=h.ex;refine Ds λt m=>?_
 simp only[aH,aZ,or_false]at m;rcases m with rfl|rfl|rfl|rfl|rfl
 .exact Ey
 .exact Ea _
 .exact Ey
 .exact Ea _
 .refine Ds λt m=>?_
  obtain⟨r,mr,rfl⟩:=aI.mp m;obtain⟨ps,kn,cl,kf,_,_,_,_,ht⟩:=(hr r mr).ex;exact Ds λt m=>by
   simp only[aH,aZ,or_false]at m;rcases m with rfl|rfl
   .exact Ea _
   .exact ht.noD
theorem OS{α:Type}{A B G:List α}{x g:α}(h:A++x::B=G++[g]):(A=G/\x=g)\/∃B',A++x::B'=G:=by
 rcases List.eq_nil_or_concat B with rfl|⟨B',b,rfl⟩
 .have:=List.append_inj' h rfl;exact .inl ⟨this.1,by simpa using this.2⟩
 .have h:(A++x::B')++[b]=G++[g]:=by simpa using h
  exact .inr ⟨B',(List.append_inj' h rfl).1⟩
section
variable{K:Kd}(W:Well K)
include W
theorem Ba{ns:List Int}{m:Int}{ws:List Str}(hK:K.length<=3)(w16:ws.length=16)(hw:Wds m ws)(hnm:∀(j:Nat) s,ws[12+j]?=some s->s∉mks K)(h1:∃τ,BD [iv m,iv 16]=.ok (.nw (.lst (ws.map T.str))) τ)(h2:∃τ,Cs [iv (ns.getD 2 0),iv 3]=.ok (.t (.int m)) τ) :
  ∃G:List Fd,G≠[]/\G.length<=4/\G.map Fd.nm=(ws.drop 12).take G.length/\(∀A g B,A++g::B=G->FOk K A g)/\∃τ,B4 [vl (.z0 (ns.map T.int)),vl (kT K)]=.ok (.nw (.lst (G.map Fd.t))) τ:=by
 obtain⟨_,h1⟩:=h1;obtain⟨_,h2⟩:=h2;have c2:=DZ ns 2;have c6:=DZ ns 6;obtain⟨num,_,h6⟩:=mix (ns.getD 6 0) (k:=5) (by lia);obtain⟨kd,mk,hkd⟩:=JV W num;have kl:0<(K.map As).length:=by rw[ar];exact W.lo
 obtain⟨pl,vs,_,v1,v2,hv⟩:=words (num/5) (c:=2) (by lia);have Vs:Wds (num/5) vs:=⟨pl,v2⟩
 obtain⟨own,hown⟩:∃s,ws[12]?=some s:=⟨_,ag (by lia)⟩
 have a0:atI ((ws.drop 12).map T.str) 0=some (.str own):=BG (j:=0) (by rw[aP,List.getElem?_drop];simp[hown]);obtain⟨c,hc,ec⟩:∃c:Nat,c<=3/\num/3%4=(c:Int):=⟨(num/3%4).toNat,by lia,by lia⟩
 suffices hs:∃o τ,B4 [vl (.z0 (ns.map T.int)),vl (kT K)]=.ok (.nw o) τ/\∃G:List Fd,o=.lst (G.map Fd.t)/\G≠[]/\G.length<=4/\G.map Fd.nm=(ws.drop 12).take G.length/\(∀A g B,A++g::B=G->FOk K A g) by obtain⟨_,τ,e,G,rfl,a,b,c,d⟩:=hs;exact⟨G,a,b,c,d,τ,e⟩
 have h4:=(W.rw kd mk).2;apply Kz;unfold EW;trivial
 .apply Yt (n:=12)
  .rw[ar];lia
  .rfl
 rw[<- List.map_drop];trivial
 .apply HQ
  .trivial
  .trivial
  .exact λ_=>rfl
  .intro r mr;have:=W.two kd mk r mr;obtain⟨_,h⟩:=Qu (own:=own) (k:=kd.1) (m:=r.1) (ps:=r.2) (ws:=vs) (by lia) (by lia);trivial
  .lia
 trivial;have dn:(ws.drop 12).Nodup:=(hw.nd (by lia)).sublist (List.drop_sublist _ _);have dl:(ws.drop 12).length=4:=by rw[bQ];lia
 have ok1:∀(G:List Fd)(g:Fd),G.map Fd.nm=(ws.drop 12).take G.length->G.length<4->(ws.drop 12)[G.length]?=some g.nm->Fun1 K G g->FOk K G g:=λG g e l h F=>by have mg:g.nm∈ws:=cD (bq h);refine⟨FJ (hw.lw mg),λm=>?_,hnm G.length _ (by rwa[List.getElem?_drop]at h),F.ind,F.ex⟩;rw[e]at m;obtain⟨i,hi,ei⟩:=cK.mp m;have:=bz.mp dn i G.length (by lia) (by lia) (by lia);rw[ei]at this;exact this (ak.mp h).2.symm
 apply B8 (I:=λ(Z:List Nat) fs=>∃(G:List Fd)(y10 y11:Option Sl),fs=[vl (.z0 (ns.map T.int)),vl (kT K),vl (.lst ((ws.drop 12).map .str)),iv num,vl (.str kd.1),vl (.lst (kd.2.map CB)),vl (.lst (vs.map .str)),vl (.lst (kd.2.map λr=>.tup [.tup ((vs.take r.2.length).map .str),exP "make" r.1 ((vs.zip r.2).map (cpE own kd.1))])),some (.own (.lst (G.map Fd.t))),some (.own (.l (hkD G) (hvD G))),y10,y11]/\Fre y10/\Fre y11/\G.length=1+Z.length/\G.map Fd.nm=(ws.drop 12).take G.length/\∀A g B,A++g::B=G->FOk K A g) (xs:=List.range c) (p:=λi=>.int (i:Nat))
 case hi =>trivial;lia
 case h0 =>
  have ow:(ws.drop 12)[0]?=some own:=by rw[List.getElem?_drop];exact hown
  refine⟨[⟨own,[kd.1],kd.1,[],kd.2.map λr=>(r.1,vs.take r.2.length,exP "make" r.1 ((vs.zip r.2).map (cpE own kd.1)))⟩],none,none,by simp only[aj,cn,Fd.t,aU];rfl,True.intro,True.intro,rfl,?_,λA g B e=>?_⟩
  .cases hd:ws.drop 12 with|nil=>rw[hd]at dl;cases dl|cons a l=>rw[hd]at ow;cases ow;rfl
  .cases A with|nil =>obtain⟨rfl,rfl⟩:=List.cons.inj e;exact ok1 [] _ rfl (by decide) ow (Qg W mk v1 (Vs.nd (by lia)) λx mx=>FJ (Vs.lw mx))|cons a A=>cases A<;>cases e
 case st =>
  rintro Z i R _ e ⟨G,y10,y11,rfl,f10,f11,lG,nG,hG⟩
  have lZ:=Du e;rw[bG]at lZ;have hi:i=Z.length:=by have:=congrArg (λl:List Nat=>l[Z.length]?) e;simp only[bJ (aJ _),Nat.sub_self,cu]at this;rw[List.getElem?_range lZ]at this;exact Option.some.inj this
  subst hi;obtain⟨own',ho'⟩:∃s,(ws.drop 12)[G.length]?=some s:=⟨_,ag (by lia)⟩
  have a1:atI ((ws.drop 12).map T.str) (1+(Z.length:Int))=some (.str own'):=by rw[show(1:Int)+(Z.length:Int)=(G.length:Nat) by lia];exact BG (by rw[aP,ho'];rfl)
  have ck:=DZ ns (7+Z.length);rw[show((7+Z.length:Nat):Int)=7+(Z.length:Int) by lia]at ck;obtain⟨nu,_,hm⟩:=mix (ns.getD (7+Z.length) 0) (k:=7) (by lia);have gok:∀g∈G,∃A,FOk K A g:=λg mg=>let⟨A,B,e⟩:=bV mg;⟨A,hG A g B e.symm⟩
  have gnd:(G.map Fd.nm).Nodup:=by rw[nG];exact dn.sublist (cy _ _)
  have new:own'∉G.map Fd.nm:=λm=>by rw[nG]at m;obtain⟨i,hi,ei⟩:=cK.mp m;have:=bz.mp dn i G.length (by lia) (by lia) (by lia);rw[ei]at this;exact this (ak.mp ho').2.symm
  obtain⟨g,rfl,hF,_,hfn⟩:=function (D:=G) W gnd (by lia) (λg mg x mx=>by obtain⟨A,O⟩:=gok g mg;exact O.ind x (aB _ mx)) hK (λg mg=>by obtain⟨A,O⟩:=gok g mg;obtain⟨kd,ks,_,e,_,h,_⟩:=O.ex;rw[e];simp;lia) new nu;have nD:=Xa hF;have kyn:=kyD new;trivial;refine⟨G++[g],_,_,by simp only[hkD,hvD,aq];rfl,An,An,by simp;lia,?_,λA g' B e=>?_⟩
  .rw[aq,nG,bg,List.length_singleton,List.take_add_one,ho'];rfl
  .rcases OS e with⟨rfl,rfl⟩|⟨B',e⟩
   .exact ok1 A g' nG (by lia) ho' hF
   .exact hG A g' B' e
 case k =>
  rintro _ ⟨G,y10,y11,rfl,f10,f11,lG,nG,hG⟩
  trivial;rw[bG]at lG;exact X8 rfl ⟨G,rfl,λh=>by rw[h,List.length_nil]at lG;lia,by lia,nG,hG⟩
end
section
variable{fs:FS}{neg:Bool}{xs ts:List T}
theorem FY{e:T->T->Option Bool}:∀{ts:List T},(∀t∈ts,e t t=some true)->Js e ts ts=some true
 | [],_=>rfl
 |t::ts,h=>by simp[Js,h t aN,FY λt m=>h t (ao _ m)]
theorem K6(h:∀t∈xs,eqT 60 t t=some true):eqB neg xs xs fs=.ok (.t (.o (!neg))) fs:=by unfold eqB;rw[FY h];cases neg<;>simp[okT]
theorem YZ(h:∀t∈xs,eqT 60 t t=some true):L7 neg (.t (.tup xs)) (.t (.tup xs)) fs=.ok (.t (.o (!neg))) fs:=by unfold L7;simp only[LD];exact K6 h
theorem Y1(h:∀t∈xs,eqT 60 t t=some true):L7 neg (.t (.lst xs)) (.t (.lst xs)) fs=.ok (.t (.o (!neg))) fs:=by unfold L7;simp only[LD,Dm];exact K6 h
theorem Md{n:Nat}{x:Str}:eqT n (.str x) (.str x)=some true:=by rw[N8];simp
theorem Ui{n:Nat}(h:∀t∈xs,eqT n t t=some true):eqT (n+1) (.tup xs) (.tup xs)=some true:=by rw[N7,FY h];simp
theorem N9{n:Nat}(xs:List Str):eqT (n+1) (.tup (xs.map .str)) (.tup (xs.map .str))=some true:=Ui λt m=>by obtain⟨x,_,rfl⟩:=aI.mp m;exact Md
theorem Ty.eq{K:Kd}{kn:Str->Str->Prop}{cl:Str->List Str->Str->List T->Prop}:∀{n m:Nat}{t:T}{k:Str},Ty K kn cl n t k->2*n<=m->eqT m t t=some true
 |n+1,m+2,t,k,h,l=>by
  rcases h with⟨x,a,rfl⟩|⟨f,ps,ts,a,b,rfl⟩|⟨f,ps,ts,a,b,rfl⟩
  .exact N9 ["name",x]
  all_goals
   have:∀t∈ts,eqT m t t=some true:=λt mt=>by obtain⟨p,h⟩:=b.flip.r t mt;exact Ty.eq h (by lia)
   unfold exP;exact Ui λt mt=>by
    simp only[aH,aZ,or_false]at mt;rcases mt with rfl|rfl|rfl
    .exact Md
    .exact Md
    .exact Ui this
theorem Pz{x:Str}(h:Lw x):C7 x=true:=by
 unfold C7;rw[aL];refine⟨aV (by rw[Bw];have:=h.hi;lia),bx.mpr λc m=>aV ?_⟩;have:=(h.al c m).2;have:(122:Nat)<16^8:=by decide
 lia
end
abbrev rwV(g:Fd):T:=.l (g.rows.map kyR) (g.rows.map (rvT g))
abbrev prT(cP z8:Addr)(K:Kd)(G:List Fd):T:=.ins cP PF [stT z8 K,.l (hkD G) (hvD G),.l (hkD G) (G.map rwV)]
section
variable{cP z8:Addr}{K:Kd}{G:List Fd}{g:Fd}{r:Str×List Str×T}{x y:Str}
theorem PL{mt:Str}{fs:FS}{ts:List T}(h:PF.any (·==mt)=false):EC cP mt fs (.t (.ins cP PF ts))=true:=by unfold EC;simp[h]
theorem U7(nd:(G.map Fd.nm).Nodup)(m:g∈G):CD (hkD G) (G.map rwV) (.inr g.nm:Key)=some (rwV g) :=
 BY (f:=λg:Fd=>ky g.nm) (g:=rwV) m (by have:=BB nd;rwa[aU]at this)
theorem Zb(nd:(g.rows.map (·.1)).Nodup)(m:r∈g.rows):CD (g.rows.map kyR) (g.rows.map (rvT g)) (.inr r.1:Key)=some (rvT g r) :=
 BY (f:=kyR) (g:=rvT g) m (by have:=BB nd;rwa[aU]at this)
theorem Fs:∃τ,AF cP [vl (prT cP z8 K G)]=.ok (.nw (.lst (G.map λg=>.str g.nm))) τ:=by
 rw[show(G.map λg=>T.str g.nm)=(hkD G).map Mn by rw[aU];rfl];obtain⟨r,τ,e,rfl⟩:∃r τ,AF cP [vl (prT cP z8 K G)]=.ok r τ/\r=.nw (.lst ((hkD G).map Mn)):=by apply MQ;unfold CA;apply VA;apply UX;trivial
 exact⟨τ,e⟩
theorem SQ(nd:(G.map Fd.nm).Nodup)(m:g∈G):∃τ,AB cP [vl (prT cP z8 K G),vl (.str g.nm)]=.ok (.t (hvT g)) τ:=by have h:=MA nd m;apply B0;unfold BF;trivial
theorem LN(h:x∉G.map Fd.nm)(hx:C7 x=true):∃τ,AB cP [vl (prT cP z8 K G),vl (.str x)]=.exc "NoFunction" τ:=by have hv:=BZ (ts:=hvD G) (kyD h);apply MO;unfold BF;trivial
theorem ZO(nd:(G.map Fd.nm).Nodup)(m:g∈G)(n2:(g.rows.map (·.1)).Nodup)(m2:r∈g.rows):∃τ,AV cP [vl (prT cP z8 K G),vl (.str g.nm),vl (.str r.1)]=.ok (.t (rvT g r)) τ:=by have h1:=U7 nd m;have h:=Zb n2 m2;apply B0;unfold Cn;trivial
theorem Pg(h:x∉G.map Fd.nm)(hx:C7 x=true):∃τ,AV cP [vl (prT cP z8 K G),vl (.str x),vl (.str y)]=.exc "NoFunction" τ:=by have hv:=BZ (ts:=G.map rwV) (kyD h);apply MO;unfold Cn;trivial
theorem Ph(nd:(G.map Fd.nm).Nodup)(m:g∈G)(h:y∉g.rows.map (·.1))(hx:C7 g.nm=true)(hy:C7 y=true):∃τ,AV cP [vl (prT cP z8 K G),vl (.str g.nm),vl (.str y)]=.exc "NoMaker" τ:=by have h1:=U7 nd m;have hv:CD (g.rows.map kyR) (g.rows.map (rvT g)) (.inr y:Key)=none:=BZ (by have:=KZ h;rwa[aU]at this);apply MO;unfold Cn;trivial
end
section
variable{cP z8:Addr}{K:Kd}{G:List Fd}{x y c:Str}{w:Int}
theorem refused(h0:w=0->∃τ,AB cP [vl (prT cP z8 K G),vl (.str x)]=.exc c τ)(h1:w≠0->∃τ,AV cP [vl (prT cP z8 K G),vl (.str x),vl (.str y)]=.exc c τ)(hc:(xrs.contains c&&Hi c "SayError")=true)(hl:∃τ,DG [vl (.zK c)]=.ok (.t (.str c)) τ) :
  ∃τ,CY cP [vl (prT cP z8 K G),iv w,vl (.str x),vl (.str y)]=.ok (.t (.str c)) τ:=by
 obtain⟨_,hl⟩:=hl;apply B0;unfold Hf;trivial;apply LH
 .apply Yn (c:=c)
  .apply JaC;trivial;by_cases hw:w=0
   .obtain⟨_,h⟩:=h0 hw;rw[aV hw];apply YF;trivial
   .obtain⟨_,h⟩:=h1 hw;rw[aT hw];apply YE;trivial
  .exact hc
  .trivial
  .trivial
  .trivial
 trivial
theorem Ka(W:Well K):∃τ,Bd [vl (kT K)]=.ok (.nw (.lst ((mks K).map .str))) τ:=by
 suffices h:∃o τ,Bd [vl (kT K)]=.ok (.nw o) τ/\o=.lst ((mks K).map .str) by obtain⟨_,τ,e,rfl⟩:=h;exact⟨τ,e⟩
 apply Kz;unfold DR;trivial;have len:∀D kd R Z r Y,D++kd::R=K->Z++r::Y=kd.2->(mks D).length+Z.length<1000:=λD kd R Z r Y e e2=>by
  have h1:=JP W.hi λkd m=>(W.rw kd m).2
  rw[<- e,FG,Eb,<- e2]at h1;simp at h1;lia
 apply B8 (I:=λD fs=>∃y2 y3 y4 y5,fs=[vl (kT K),some (.own (.lst ((mks D).map .str))),y2,y3,y4,y5]/\Fre y2/\Fre y3/\Fre y4/\Fre y5) (xs:=K) (p:=As)
 case hi=>trivial
 case h0=>exact⟨none,none,none,none,rfl,True.intro,True.intro,True.intro,True.intro⟩
 case st =>
  rintro D kd R _ e ⟨y2,y3,y4,y5,rfl,f2,f3,f4,f5⟩
  trivial;apply Im (I:=λ(Z:List (Str×List Str)) fs=>∃y4 y5,fs=[vl (kT K),some (.own (.lst ((mks D++Z.map (·.1)).map .str))),vl (.str kd.1),vl (.lst (kd.2.map CB)),y4,y5]/\Fre y4/\Fre y5) (xs:=kd.2) (p:=CB)
  case hi=>trivial
  case h0=>exact⟨y4,y5,by rw[cn,bj];rfl,f4,f5⟩
  case st =>
   rintro Z r Y _ e2 ⟨y4,y5,rfl,f4,f5⟩
   have:=len D kd R Z r Y e e2;trivial;exact⟨_,_,by rw[aq (f:=Prod.fst),<- bu,aq (l₂:=[r].map Prod.fst)];rfl,An,An⟩
  case k =>
   rintro _ ⟨y4,y5,rfl,f4,f5⟩
   trivial;exact⟨_,_,_,_,by rw[FG,Eb,show mks []=[]from rfl,bj],An,An,f4,f5⟩
 case k =>
  rintro _ ⟨y2,y3,y4,y5,rfl,f2,f3,f4,f5⟩
  trivial;exact X8 rfl rfl
end
section
variable{cP z8:Addr}{K:Kd}{G:List Fd}
theorem right(W:Well K)(nd:(G.map Fd.nm).Nodup)(lG:G.length<=100)(hG:∀g∈G,∃A,FOk K A g):∃τ,El cP [vl (prT cP z8 K G),vl (kT K),vl (.lst (G.map Fd.t))]=.ok (.t (.o true)) τ:=by
 obtain⟨_,pf⟩:=Fs (cP:=cP) (z8:=z8) (K:=K) (G:=G);apply B0;unfold Lm;apply B8 (I:=λ(D:List Fd) fs=>∃y3 y4 y5 y6 y7 y8 y9 y10 y11,fs=[vl (prT cP z8 K G),vl (kT K),vl (.lst (G.map Fd.t)),y3,y4,y5,y6,y7,y8,y9,y10,y11]/\Fre y3/\Fre y4/\Fre y5/\Fre y6/\Fre y7/\Fre y8/\Fre y9/\Fre y10/\Fre y11) (xs:=G) (p:=Fd.t)
 case hi=>trivial
 case h0=>exact⟨none,none,none,none,none,none,none,none,none,rfl,True.intro,True.intro,True.intro,True.intro,True.intro,True.intro,True.intro,True.intro,True.intro⟩
 case st =>
  rintro D g R _ e ⟨y3,y4,y5,y6,y7,y8,y9,y10,y11,rfl,f3,f4,f5,f6,f7,f8,f9,f10,f11⟩
  have mg:=mem_mid e;obtain⟨A,O⟩:=hG g mg;obtain⟨kd,ks,mk,hks,lo,l2,hr,hrows⟩:=O.ex;have h0:atI (g.ks.map T.str) 0=some (.str kd.1):=by rw[hks];exact at0
  obtain⟨_,pk⟩:=SQ (cP:=cP) (z8:=z8) (K:=K) nd mg;obtain⟨_,hm⟩:=makers W mk;have h4:=(W.rw kd mk).2;have n2:(g.rows.map (·.1)).Nodup:=by rw[hr];exact(W.part (bV mk).choose_spec.choose_spec.symm).2.2.2
  trivial
  .intro t mt;simp only[aH,aZ,or_false]at mt;rcases mt with rfl|rfl
   .exact N9 _
   .exact Md
  trivial
  .apply HQ
   .trivial
   .trivial
   .exact λ_=>rfl
   .intro r mr;trivial
   .lia
  trivial;apply Im (I:=λ(Z:List ((Str×List Str×T)×Nat)) fs=>∃y9 y10 y11,fs=[vl (prT cP z8 K G),vl (kT K),vl (.lst (G.map Fd.t)),vl (.str g.nm),vl (.tup (g.ks.map .str)),vl (.str g.k),vl (.tup (g.z7.map .str)),vl (.tup (g.rows.map rwT)),vl (.lst (kd.2.map λr=>.str r.1)),y9,y10,y11]/\Fre y9/\Fre y10/\Fre y11) (xs:=g.rows.zipIdx) (p:=λq=>.tup [.int q.2,rwT q.1])
  case hi =>rw[<- HN rwT g.rows 0];trivial
  case h0=>exact⟨y9,y10,y11,rfl,f9,f10,f11⟩
  case st =>
   rintro Z ⟨r,i⟩ Y _ e2 ⟨y9,y10,y11,rfl,f9,f10,f11⟩
   have hi:=List.mk_mem_zipIdx_iff_getElem?.mp (mem_mid e2);have mr:=bq hi;have a1:atI (kd.2.map λr=>T.str r.1) (i:Int)=some (.str r.1):=BG (by have:=congrArg (λl:List Str=>(l.map T.str)[i]?) hr;simp only[aU,aP,hi]at this;rw[aP];exact this.symm);obtain⟨_,pr⟩:=ZO (cP:=cP) (z8:=z8) (K:=K) nd mg n2 mr;obtain⟨ps,kn,cl,kf,_,_,_,_,ht⟩:=(hrows r mr).ex;have ht:=ht.eq (m:=60) (by lia);have l1:=(hrows r mr).two;dsimp only;trivial
   .intro t mt;simp only[aH,aZ,or_false]at mt;rcases mt with rfl|rfl
    .rw[<- aq];exact N9 _
    .exact ht
   trivial;exact⟨_,_,_,rfl,An,An,An⟩
  case k =>
   rintro _ ⟨y9,y10,y11,rfl,f9,f10,f11⟩
   trivial;exact⟨_,_,_,_,_,_,_,_,_,rfl,An,An,An,An,An,An,f9,f10,f11⟩
 case k =>
  rintro _ ⟨y3,y4,y5,y6,y7,y8,y9,y10,y11,rfl,f3,f4,f5,f6,f7,f8,f9,f10,f11⟩
  trivial
  .apply Oo
   .trivial
   .intro g mg;trivial
   .lia
  trivial
  .intro t mt;obtain⟨g,_,rfl⟩:=aI.mp mt;exact Md
  trivial
end
mutual
theorem Tc:∀t:T,noD t=true->noS t=true
 |.tup ts,h=>by rw[noS];rw[noD]at h;exact Rf ts h
 |.v,_|.o _,_|.int _,_|.str _,_=>by simp[noS]
 |.zK _,h|.lst _,h|.z0 _,h|.l _ _,h|.dT _ _,h|.dF _ _,h|.ins _ _ _,h=>by simp[noD]at h
theorem Rf:∀ts:List T,OF ts=true->Gy ts=true
 | [],_=>by simp[Gy]
 |t::ts,h=>by simp[OF]at h;simp[Gy,Tc t h.1,Rf ts h.2]
end
theorem C8:∀ts:List T,(∀t∈ts,noS t=true)->Gy ts=true
 | [],_=>by simp[Gy]
 |t::ts,h=>by simp[Gy,h t aN,C8 ts λt m=>h t (ao _ m)]
theorem IF:∀os:List FO,(∀o∈os,IG o=true)->FF os=true
 | [],_=>by simp[FF]
 |t::ts,h=>by simp[FF,h t aN,IF ts λt m=>h t (ao _ m)]
theorem Wo{C:Addr}{K:Kd}:noS (stT C K)=true:=by
 have s1:∀xs:List Str,Gy (xs.map T.str)=true:=λxs=>C8 _ λt m=>by obtain⟨x,_,rfl⟩:=aI.mp m;simp[noS]
 unfold stT A5;simp only[noS,Gy,Bool.and_true,aL];refine⟨C8 _ λt m=>?_,C8 _ λt m=>?_,C8 _ λt m=>?_⟩
 .obtain⟨kd,_,rfl⟩:=aI.mp m;simp only[noS];exact s1 _
 .rw[KC]at m;obtain⟨r,_,rfl⟩:=aI.mp m;simp only[noS];exact s1 _
 .rw[NJ]at m;obtain⟨q,_,rfl⟩:=aI.mp m;simp[noS]
theorem Wq{cP z8:Addr}{K:Kd}{G:List Fd}(hG:∀g∈G,∃A,FOk K A g):IG (.ins cP PF [.val (stT z8 K),.l (hkD G) (hvD G),.dO (hkD G) (G.map rwD)])=true:=by
 simp only[IG,FF,Bool.and_true,aL];refine⟨Wo,C8 _ λt m=>?_,IF _ λo m=>?_⟩
 .obtain⟨g,mg,rfl⟩:=aI.mp m;exact Tc _ (Ds λt mt=>by
   simp only[aH,aZ,or_false]at mt;rcases mt with rfl|rfl
   .exact Ea _
   .exact Ey)
 .obtain⟨g,mg,rfl⟩:=aI.mp m;unfold rwD;rw[IG];refine C8 _ λt mt=>?_
  obtain⟨r,mr,rfl⟩:=aI.mp mt;obtain⟨A,O⟩:=hG g mg;obtain⟨kd,ks,_,_,_,_,_,hr⟩:=O.ex;obtain⟨ps,kn,cl,kf,_,_,_,_,ht⟩:=(hr r mr).ex;exact Tc _ (Ds λt mt=>by
   simp only[aH,aZ,or_false]at mt;rcases mt with rfl|rfl
   .rw[<- aq];exact Ea _
   .exact ht.noD)
section
variable{fs:FS}{C:Addr}{G:List Fd}
theorem Ks:∀G:List Fd,Mm (G.map rwD)=G.map rwV
 | []=>by simp[Mm]
 |g::G=>by simp[Mm,Ks G,rwD,toT]
theorem YW{t:T}{ks:List Key}{vs:List T}:fzR (.nw (.ins C PF [.val t,.l ks vs,.dO ks (G.map rwD)])) fs=.ok (.t (.ins C PF [t,.l ks vs,.l ks (G.map rwV)])) fs:=by unfold fzR;simp only[toT,Mm,Ks]
end
theorem Yk{n:Int}{vs:List Str}(h:Wds n vs)(hl:vs.length<=26):¬(("z":Str)∈vs/\("zz":Str)∈vs):=λ⟨h1,h2⟩=>by
 obtain⟨p,hw⟩:=h.ex;obtain⟨i,hi⟩:=bB.mp h1;obtain⟨j,hj⟩:=bB.mp h2;have a1:=(hw i _ hi).at_;have a2:=(hw j _ hj).at_;have l1:=(ak.mp hi).1;have l2:=(ak.mp hj).1;have c1:cds ("z":Str)=[122]:=by decide +kernel
 have c2:cds ("zz":Str)=[122,122]:=by decide +kernel
 rw[c1]at a1;rw[c2]at a2;have hp:p=0:=by
  rcases p with _|p
  .rfl
  .simp at a1
 subst hp;simp at a1 a2;have:i=j:=by lia
 subst this;rw[hi]at hj;exact absurd (Option.some.inj hj) (by decide +kernel)
theorem good(cP zW z8:Addr):∀ns:List Int,ns.length<=63->CU ns<=2^20->∃fs,XD cP zW z8 [some (.val (.z0 (ns.map T.int)))]=.ok (.t (.o true)) fs:=by
 intro ns hl hbits;obtain⟨K,ks,ws,n,m,k1,k3,w16,hk,hw,lK,hKd,hws,hmx,_,hkn⟩:=kinds ns;have W:=U6 k1 k3 w16 hk hw lK hKd;have hnm:∀(j:Nat) s,ws[12+j]?=some s->s∉mks K:=λj s e ms=>by obtain⟨kd,m1,m2⟩:=bK.mp ms;obtain⟨r,m3,rfl⟩:=aI.mp m2;obtain⟨a,ha⟩:=bB.mp m1;obtain⟨i,i4,_,ei⟩:=JX hKd ha m3;have:=hw.inj (by lia) ei e;have:=(ak.mp ha).1;lia
 have mws:∀s∈mks K,s∈ws:=λs ms=>by obtain⟨kd,m1,m2⟩:=bK.mp ms;obtain⟨r,m3,rfl⟩:=aI.mp m2;obtain⟨a,ha⟩:=bB.mp m1;obtain⟨i,i4,_,ei⟩:=JX hKd ha m3;exact bq ei
 obtain⟨G,gne,g4,gnm,gok,_,hfn⟩:=Ba (ns:=ns) W (by lia) w16 hw hnm hws hmx;have gws:∀s∈G.map Fd.nm,s∈ws:=λs ms=>cD (bL (gnm▸ms))
 have gnd:(G.map Fd.nm).Nodup:=by rw[gnm];exact((hw.nd (by lia)).sublist (List.drop_sublist _ _)).sublist (cy _ _)
 have gk:∀g∈G,∃A,FOk K A g:=λg mg=>let⟨A,B,e⟩:=bV mg;⟨A,gok A g B e.symm⟩
 have c0:=DZ ns 0;obtain⟨hd,_,hmd⟩:=mix (ns.getD 0 0) (k:=0) (by lia);have si:=LB (C:=z8) W;obtain⟨_,pi⟩:=Iq (cP:=cP) (zW:=zW) (z8:=z8) (F:=.z0 (G.map Fd.t)) W (.inr (.inr rfl)) (by lia) gne gok;have nS:=Wq (cP:=cP) (z8:=z8) gk;obtain⟨_,rt⟩:=right (cP:=cP) (z8:=z8) W gnd (by lia) gk;obtain⟨_,pf⟩:=Fs (cP:=cP) (z8:=z8) (K:=K) (G:=G);obtain⟨_,em⟩:=Ka W;obtain⟨g,mg,hg⟩:=DV gne Fd.t hd;obtain⟨_,O⟩:=gk g mg;obtain⟨kd,kr,mk,hks,_,_,hr,_⟩:=O.ex;have a0:atI (g.ks.map T.str) 0=some (.str kd.1):=by rw[hks];exact at0
 obtain⟨_,hm⟩:=makers W mk;have gl:0<(G.map Fd.t).length:=by rw[ar];exact cg.mpr gne
 obtain⟨t0,a1⟩:∃t,atI (G.map Fd.t) 0=some t:=by cases G with|nil=>exact absurd rfl gne|cons a l=>exact⟨_,at0⟩
 have h4:=(W.rw kd mk).2;have ml:=JP W.hi λkd m=>(W.rw kd m).2
 have skn:=Hm (C:=z8) (K:=K) (hs:=DN K);simp only[aU,Function.comp_def]at skn;obtain⟨sp,asp,nsp,lsp⟩:∃sp,atI (((["z","zz"]:List Str).filter λx=>if true=true then !decide (x∈G.map Fd.nm++mks K)else decide (x∈G.map Fd.nm++mks K)).map T.str) 0=some (.str sp)/\sp∉G.map Fd.nm++mks K/\Lw sp:=by
  by_cases h:("z":Str)∈G.map Fd.nm++mks K
  .have h2:("zz":Str)∉G.map Fd.nm++mks K:=λh2=>Yk hw (by lia) ⟨(av.mp h).elim (gws _) (mws _),(av.mp h2).elim (gws _) (mws _)⟩
   exact⟨"zz",by simp only[cb,h,h2,decide_true,decide_false];exact at0,h2,JaO.2⟩
  .exact⟨"z",by simp only[cb,h,decide_false];exact at0,h,JaO.1⟩
 obtain⟨_,rf1⟩:=refused (cP:=cP) (z8:=z8) (K:=K) (G:=G) (x:=sp) (y:=sp) (c:="NoFunction") (w:=hd/5%2) (λ_=>LN (λh=>nsp (aB _ h)) (Pz lsp)) (λ_=>Pg (λh=>nsp (aB _ h)) (Pz lsp)) (by decide +kernel) ⟨_,Qy⟩;obtain⟨y,ay,ny,ly⟩:∃y,atI (((mks K).filter λx=>if true=true then !decide (x∈kd.2.map (·.1))else decide (x∈kd.2.map (·.1))).map T.str++[.str sp]) (hd/10%(((((mks K).filter λx=>if true=true then !decide (x∈kd.2.map (·.1))else decide (x∈kd.2.map (·.1))).map T.str).length:Int)+1))=some (.str y)/\y∉kd.2.map (·.1)/\Lw y:=by
  obtain⟨y,my,e⟩:=DV (L:=((mks K).filter λx=>if true=true then !decide (x∈kd.2.map (·.1))else decide (x∈kd.2.map (·.1)))++[sp]) (by simp) T.str (hd/10);rw[aq,bg,show(([sp]:List Str).map T.str).length=1 from rfl,Int.natCast_add]at e;refine⟨y,e,?_⟩;rcases av.mp my with my|my
  .obtain⟨my,ey⟩:=bH.mp my;exact⟨by simpa using ey,hw.lw (mws y my)⟩
  .rw[aG.mp my];exact⟨λh=>nsp (aC _ (bK.mpr ⟨kd,mk,h⟩)),lsp⟩
 obtain⟨_,rf2⟩:=refused (cP:=cP) (z8:=z8) (K:=K) (G:=G) (x:=g.nm) (y:=y) (c:="NoMaker") (w:=1) (λh=>absurd h (by decide)) (λ_=>Ph gnd mg (by rw[hr];exact ny) (Pz (hw.lw (gws _ (aI.mpr ⟨g,mg,rfl⟩)))) (Pz ly)) (by decide +kernel) ⟨_,Qx⟩;apply B0;unfold X1;trivial
 .apply HQ
  .trivial
  .trivial
  .exact λ_=>rfl
  .intro r mr;trivial
  .lia
 rw[show(kd.2.map λr=>T.str r.1)=(kd.2.map (·.1)).map T.str by rw[aU];rfl];trivial
 .apply GZ
  .trivial
  .intro x mx;trivial
  .intro x mx _;trivial
  .lia
 trivial
 .apply Oo
  .trivial
  .intro g mg;trivial
  .lia
 trivial
 .rw[show(G.map (λg=>T.str g.nm)++(mks K).map T.str)=(G.map Fd.nm++mks K).map T.str by rw[aq,aU];rfl];apply GZ (xs:=["z","zz"]) (p:=T.str)
  .trivial
  .intro x mx;trivial
  .intro x mx _;trivial
  .decide
 trivial
 .show _<=1000000;rw[ar];exact aR (Nat.add_le_add_right (List.length_filter_le _ _) _) (by show(mks K).length+1<=_;lia)
 trivial
 .apply X6;trivial
  .apply HQ
   .trivial
   .trivial
   .exact λ_=>rfl
   .intro r mr;trivial
   .lia
  trivial;intro t mt;obtain⟨kd,_,rfl⟩:=aI.mp mt;exact Md
 trivial
end
theorem us1{α:Type}{us:List α}(e:us.length=1):∃a,us=[a]:=by match us,e with| [a],_=>exact⟨a,rfl⟩
theorem us2{α:Type}{us:List α}(e:us.length=2):∃a b,us=[a,b]:=by match us,e with| [a,b],_=>exact⟨a,b,rfl⟩
theorem us3{α:Type}{us:List α}(e:us.length=3):∃a b c,us=[a,b,c]:=by match us,e with| [a,b,c],_=>exact⟨a,b,c,rfl⟩
theorem us4{α:Type}{us:List α}(e:us.length=4):∃a b c d,us=[a,b,c,d]:=by match us,e with| [a,b,c,d],_=>exact⟨a,b,c,d,rfl⟩
theorem us5{α:Type}{us:List α}(e:us.length=5):∃a b c d e,us=[a,b,c,d,e]:=by match us,e with| [a,b,c,d,e],_=>exact⟨a,b,c,d,e,rfl⟩
theorem us6{α:Type}{us:List α}(e:us.length=6):∃a b c d e f,us=[a,b,c,d,e,f]:=by match us,e with| [a,b,c,d,e,f],_=>exact⟨a,b,c,d,e,f,rfl⟩
abbrev DF(K:Fg)(n:Str)(st:Stmt):Prop:=∃f fd,nsIn K mainGlobals n=some (some (.ref f))/\Fun K n n st f fd
abbrev DM(K:Fg)(C:Addr)(m q:Str)(st:Stmt):Prop:=∃f fd,findIn K (.ref C) m=some (some (.ref f))/\isFn K (.ref f)=true/\Fun K m q st f fd
structure CC(K:Fg)(x:Str)(C:Addr):Prop where
 ac:nsIn K mainGlobals x=some (some (.ref C))
 yL:makesIn K C=true
 kc:keepIn K (.ref C)=true
abbrev aF(P:Program)(w:World)(K:Fg)(mg:Str->Option Value)(base:Heap)(n:Str)(k:Nat)(ps:List Str)(p:Nat)(Fn:FS->Out Rv):Prop:=FnAt P w K mg base (CX1 P w) n k ps (spX K p Fn)
abbrev aM(P:Program)(w:World)(K:Fg)(mg:Str->Option Value)(base:Heap)(C:Addr)(n:Str)(k:Nat)(ps:List Str)(p:Nat)(Fn:FS->Out Rv):Prop:=UN P w K mg base (CX1 P w) C n k ps (spX K p Fn)
abbrev aK(P:Program)(w:World)(K:Fg)(mg:Str->Option Value)(base:Heap)(n:Str)(C:Addr)(k:Nat)(ps:List Str)(p:Nat)(Fn:FS->Out Rv):Prop:=Yg P w K mg base (CX1 P w) n C k ps (spX K p Fn)
section
variable{P:Program}{w:World}{K:Fg}{mg:Str->Option Value}{base h:Heap}{CX:CXT}{n m q:Str}{st:Stmt}{k:Nat}{ps:List Str}{sp:Sp}{C:Addr}(X:K.In h)(G:h.Ns mainGlobals mg)
abbrev BA(x q:Str)(st:Stmt)(ps:List Str):Prop:=∀(kV doc pm:Value)(an:Option Addr)(cdv ct:Value)(us:List Value),us.length=ps.length->bindArgs (fnOf x q (F0 st) (DX st) (Bk st) .none kV doc pm an cdv ct) ⟨us,[]⟩=pure (ps.zip us)
theorem Mi(X:K.In h)(G:h.Ns mainGlobals mg)(d:DF K n st)(B:BA n n st ps)(O:∀f fd,Fun K n n st f fd->(∀k sp,DS P w K mg base CX k f fd ps sp->FnAt P w K mg base CX n k ps sp)->DS P w K mg base CX k f fd ps sp):FnAt P w K mg base CX n k ps sp :=
 let⟨f,fd,a,F⟩:=d
 ⟨f,fd,O f fd F λ_ _ o=>⟨f,fd,o,mg_of X G a,F.kp,F.binds B⟩,mg_of X G a,F.kp,F.binds B⟩
theorem Jax(c:Cls K C)(d:DM K C m q st)(B:BA m q st ps)(O:∀f fd,Fun K m q st f fd->DS P w K mg base CX k f fd ps sp):UN P w K mg base CX C m k ps sp :=
 let⟨f,fd,a,i,F⟩:=d
 ⟨c,f,fd,O f fd F,⟨a,i,F.kp⟩,F.binds B⟩
theorem Jay(X:K.In h)(G:h.Ns mainGlobals mg)(c:CC K n C)(d:DM K C "__init__" q st)(B:BA "__init__" q st ps)(O:∀f fd,Fun K "__init__" q st f fd->DS P w K mg base CX k f fd ps sp):Yg P w K mg base CX n C k ps sp :=
 let⟨f,fd,a,i,F⟩:=d
 ⟨mg_of X G c.ac,f,fd,O f fd F,⟨c.yL,a,i,c.kc⟩,F.binds B⟩
end
section
variable{P:Program}{w:World}{K:Fg}{mg:Str->Option Value}{base h:Heap}{cProgram cScope cStock:Addr}(X:K.In h)(G:h.Ns mainGlobals mg)(T:Tx K mg cProgram cScope cStock)(C_Program:CC K "Program" cProgram)(C_Scope:CC K "Scope" cScope)(C_Stock:CC K "Stock" cStock)
seal FE FT FA FW FP GS GSs GT GTs FI FAn FIf
set_option hygiene false in
local macro_rules|`(tactic|trivial)=>do
 let w1<-Zz9 "eQh,_ rIU,? eRu rXd,?"
 let w2<-Zz9 "rRw,!,%,=,? rXB,?,? eXg rXu,!,!,? rXo,T.yQ,? rXq,T.xt,T.zT,&,? rXl,?,? eJar rXn,? rN0,!,%,=,?,? rXx,Ws,PySem.F.slot_list_append,PySem.F.type_list_append,IH,?,? rXx,Pu,PySem.F.slot_list_index,PySem.F.type_list_index,Pr,?,? eQl rUa,? rUb,T.zd,? rXf,?,? eXs,+ rXw,?,? rQi,T.yZ,? rJak,?,?,? rXk,?,? rXm,!,%,? rJaq,?,? eRq rUc,T.yR,? rJal,?,? rMc,rfl,T.ze,T.yY,?"
 let w3<-Zz9 "rT8,_,? rXe,T.yP,? rJan,hu,?,? rXz,?,? eJap,T.zf rXA,T.yT,? rXr,T.xt,T.zT,T.zw,? rXy,T.yS,? rXj,? rXh,?,?,? eXs,+ rXi,?,? rXv,#,?,?"
 let w4<-Zz9 "rUd,?,? rXt,? rJao,?,? rQj,_,? rQk,_,? rRx,Tf,PySem.F.slot_list_reverse,PySem.F.type_list_reverse,LS,? rRx,Pw,PySem.F.slot_list_clear,PySem.F.type_list_clear,Pt,? rMb,PD,boot_list,T.zT,T.zd,? rQm,?,? rQn,T.ze,?"
 let w5<-Zz9 "eXC rUe,?,?"
 let w6<-Zz9 "rED,? rPR,?,? eTH"
 let w7<-Zz9 "rNM,_,nd,*,? rWN,?,?,? rRl,? rJ0,? rWO,lk.own,rfl,?,?,?"
 let w8<-Zz9 "rWR,?,?"
 let w9<-Zz9 "rPV,$,lk,rfl,?"
 let w10<-Zz9 "ePX rNN,$,lk,rfl,? rLZ,$,lk,rfl,?,?"
 let w11<-Zz9 "rEk,?,? eHM"
 let w12<-Zz9 "rES,rfl,? rWM,rfl,?"
 let w13<-Zz9 "eTF"
 let w14<-Zz9 "rW6,?,? rW4,?"
 let w15<-Zz9 "rQe,hu,?,? rJad,?,? rJag,hu,?,? rJah,?,?"
 let w16<-Zz9 "rJae,?,? rJaf,?,? rTV,#,?,? rW5,#,?,? rFW.ft,?"
 let w17<-Zz9 "rXc,? rNZ,T.y0,? rXb,T.yY,?,? rT6,T.zp,? rT7,?"
 let w18<-Zz9 "eT5 rT4,?"
 let w19<-Zz9 "rTZ,? eT3"
 let w20<-Zz9 "rJac,?,? rW0,? rW3,?,? rTU,?"
 `(tactic|(
 intro cdv A outer s H E _ _ hr lk;have hu:=WL hr;have a0:=T.zV;have a1:=T.zr;have a2:=T.zq;have a3:=T.zF;have a4:=T.z6;have a5:=T.zE;have a6:=T.zC;have a7:=T.zQ;have a8:=T.zD;have a9:=T.zv;have a10:=T.zB;have a11:=T.zP;have a12:=T.zS;have a13:=T.zR;refine GSs.zero ?_
 repeat' first
  |(show FE _ _ _ _;first|$(⟨w1⟩):tactic|refine Jaj hu ?_ ?_ (fun _ _=>rfl)|$(⟨w2⟩):tactic|refine T9 (by assumption) (hr.mono (by first | decide | lia)) ?_ (fun ho=>VX (by assumption) (hr.mono (by first | decide | lia)) V4 ho)|$(⟨w3⟩):tactic|refine Cr false ["_law_function_here"] [none] rfl ?_ (fun _ _ _ _ _=>A2 0 (cQ _ _) (Or.inl rfl) (hf:=.inr rfl)) (fun _ _ _ _ _=>?_) (fun _ _ _ _ _=>?_)|refine Cr false ["_law_k","_law_kinds_here","_law_number"] [none,some 0,some 3] rfl ?_ (fun _ _ _ _ _=>A2 0 (show List.Nodup (["_law_k","_law_kinds_here","_law_number"]:List Str) by decide +kernel) (Or.inl rfl) (hf:=.inr rfl)) (fun _ _ _ _ _=>?_) (fun _ _ _ _ _=>?_)|refine Cr false ["_law_maker","_law_parts"] [none,none] rfl ?_ (fun _ _ _ _ _=>ES rfl (CH (A2 0 (show List.Nodup (["_law_maker","_law_parts"]:List Str) by decide +kernel) (Or.inl rfl) (hf:=.inr rfl)) ?_ (fun h1 h2=>CG h1 h2))) (fun _ _ _ _ _=>?_) (fun _ _ _ _ _=>?_)|refine Cr false ["_law_name","_law_makers_here"] [none,none] rfl ?_ (fun _ _ _ _ _=>ES rfl (CH (A2 0 (show List.Nodup (["_law_name","_law_makers_here"]:List Str) by decide +kernel) (Or.inl rfl) (hf:=.inr rfl)) ?_ (fun h1 h2=>CG h1 h2))) (fun _ _ _ _ _=>?_) (fun _ _ _ _ _=>?_)|refine Cr false ["_law_one","_law_name","_law_other"] [none,some 1,some 2] rfl ?_ (fun _ _ _ _ _=>A2 0 (show List.Nodup (["_law_one","_law_name","_law_other"]:List Str) by decide +kernel) (Or.inl rfl) (hf:=.inr rfl)) (fun _ _ _ _ _=>?_) (fun _ _ _ _ _=>?_)|refine Cr false ["_law_one","_law_taken"] [none,some 15] rfl ?_ (fun _ _ _ _ _=>A2 0 (show List.Nodup (["_law_one","_law_taken"]:List Str) by decide +kernel) (Or.inl rfl) (hf:=.inr rfl)) (fun _ _ _ _ _=>?_) (fun _ _ _ _ _=>?_)|refine Cr false ["_law_one"] [none] rfl ?_ (fun _ _ _ _ _=>A2 0 (cQ _ _) (Or.inl rfl) (hf:=.inr rfl)) (fun _ _ _ _ _=>?_) (fun _ _ _ _ _=>?_)|refine Cr false ["_law_part","_law_kinds_here"] [none,some 0] rfl ?_ (fun _ _ _ _ _=>A2 0 (show List.Nodup (["_law_part","_law_kinds_here"]:List Str) by decide +kernel) (Or.inl rfl) (hf:=.inr rfl)) (fun _ _ _ _ _=>?_) (fun _ _ _ _ _=>?_)|refine Cr false ["kind","name","stock"] [none,some 1,some 0] rfl ?_ (fun _ _ _ _ _=>A2 0 (show List.Nodup (["kind","name","stock"]:List Str) by decide +kernel) (Or.inl rfl) (hf:=.inr rfl)) (fun _ _ _ _ _=>?_) (fun _ _ _ _ _=>?_)|refine Cr false ["maker","parts"] [none,none] rfl ?_ (fun _ _ _ _ _=>ES rfl (CH (A2 0 (show List.Nodup (["maker","parts"]:List Str) by decide +kernel) (Or.inl rfl) (hf:=.inr rfl)) ?_ (fun h1 h2=>CG h1 h2))) (fun _ _ _ _ _=>?_) (fun _ _ _ _ _=>?_)|refine Cr false ["sign"] [none] rfl ?_ (fun _ _ _ _ _=>A2 0 (cQ _ _) (Or.inl rfl) (hf:=.inr rfl)) (fun _ _ _ _ _=>?_) (fun _ _ _ _ _=>?_)|$(⟨w4⟩):tactic)
  |(show FA _ _ _ _;$(⟨w5⟩):tactic)
  |(show GSs _ _ _ _;$(⟨w6⟩):tactic)
  |(show GS _ _ _ _;first|refine Bx false _ ["_law_maker","_law_mine"] [none,some 13] rfl nd (Or.inl rfl) ?_ (fun _ _ _ _ _=>A2 0 (show List.Nodup (["_law_maker","_law_mine"]:List Str) by decide +kernel) (Or.inl rfl) (hf:=.inr rfl)) (fun _ _ _ _ _=>?_) (fun _ _ _ _ _=>?_)|refine Bx false _ ["_law_maker","_law_parts","_law_kind","_law_names","_law_words_here"] [none,none,some 4,some 6,some 2] rfl nd (Or.inl rfl) ?_ (fun _ _ _ _ _=>ES rfl (CH (A2 0 (show List.Nodup (["_law_maker","_law_parts","_law_kind","_law_names","_law_words_here"]:List Str) by decide +kernel) (Or.inl rfl) (hf:=.inr rfl)) ?_ (fun h1 h2=>CG h1 h2))) (fun _ _ _ _ _=>?_) (fun _ _ _ _ _=>?_)|refine Bx false _ ["_law_maker","_law_parts"] [none,none] rfl nd (Or.inl rfl) ?_ (fun _ _ _ _ _=>ES rfl (CH (A2 0 (show List.Nodup (["_law_maker","_law_parts"]:List Str) by decide +kernel) (Or.inl rfl) (hf:=.inr rfl)) ?_ (fun h1 h2=>CG h1 h2))) (fun _ _ _ _ _=>?_) (fun _ _ _ _ _=>?_)|refine Bx false _ ["_law_name","_law_kind","_law_calls_here"] [none,some 3,some 2] rfl nd (Or.inl rfl) ?_ (fun _ _ _ _ _=>A2 0 (show List.Nodup (["_law_name","_law_kind","_law_calls_here"]:List Str) by decide +kernel) (Or.inl rfl) (hf:=.inr rfl)) (fun _ _ _ _ _=>?_) (fun _ _ _ _ _=>?_)|refine Bx false _ ["_law_name","_law_kind","_law_known"] [none,some 3,some 1] rfl nd (Or.inl rfl) ?_ (fun _ _ _ _ _=>A2 0 (show List.Nodup (["_law_name","_law_kind","_law_known"]:List Str) by decide +kernel) (Or.inl rfl) (hf:=.inr rfl)) (fun _ _ _ _ _=>?_) (fun _ _ _ _ _=>?_)|refine Bx false _ ["_law_name","_law_part","_law_wanted"] [none,none,some 5] rfl nd (Or.inl rfl) ?_ (fun _ _ _ _ _=>ES rfl (CH (A2 0 (show List.Nodup (["_law_name","_law_part","_law_wanted"]:List Str) by decide +kernel) (Or.inl rfl) (hf:=.inr rfl)) ?_ (fun h1 h2=>CG h1 h2))) (fun _ _ _ _ _=>?_) (fun _ _ _ _ _=>?_)|refine Bx false _ ["each","kinds_by_name","kinds"] [none,some 13,some 6] rfl nd (Or.inl rfl) ?_ (fun _ _ _ _ _=>A2 0 (show List.Nodup (["each","kinds_by_name","kinds"]:List Str) by decide +kernel) (Or.inl rfl) (hf:=.inr rfl)) (fun _ _ _ _ _=>?_) (fun _ _ _ _ _=>?_)|refine Bx false _ ["kind","makers"] [none,none] rfl nd (Or.inl rfl) ?_ (fun _ _ _ _ _=>ES rfl (CH (A2 0 (show List.Nodup (["kind","makers"]:List Str) by decide +kernel) (Or.inl rfl) (hf:=.inr rfl)) ?_ (fun h1 h2=>CG h1 h2))) (fun _ _ _ _ _=>?_) (fun _ _ _ _ _=>?_)|$(⟨w7⟩):tactic|refine WQ (by assumption) (by assumption) _ ?_ (fun hv=>VL (pv 0) hv rfl)|$(⟨w8⟩):tactic|refine PZ (by assumption) (by assumption) _ _ ?_ (fun hv=>JF hu (KH (pv _) rfl) (pv _) hv rfl)|refine PU hu ?_ ?_ ?_ (fun he ho hi hs=>Q4 he (VP ho hi hs))|$(⟨w9⟩):tactic|exact PY hu T.zV T.z6 0 4 (pv 0) (pv 4)|refine P0 hu T.zV T.z6 0 4 9 (pv 0) (pv 4) (pv 9) ?_|$(⟨w10⟩):tactic)
  |(show FAn _ _ _ _;$(⟨w11⟩):tactic)
  |(show GT _ _ _;first|refine A2 _ (by first | exact nd | exact(show List.Nodup (["_law_k","_law_kinds_here","_law_number"]:List Str) by decide +kernel) | exact(show List.Nodup (["_law_maker","_law_mine"]:List Str) by decide +kernel) | exact(show List.Nodup (["_law_maker","_law_parts","_law_kind","_law_names","_law_words_here"]:List Str) by decide +kernel) | exact(show List.Nodup (["_law_maker","_law_parts"]:List Str) by decide +kernel) | exact(show List.Nodup (["_law_name","_law_kind","_law_calls_here"]:List Str) by decide +kernel) | exact(show List.Nodup (["_law_name","_law_kind","_law_known"]:List Str) by decide +kernel) | exact(show List.Nodup (["_law_name","_law_makers_here"]:List Str) by decide +kernel) | exact(show List.Nodup (["_law_name","_law_part","_law_wanted"]:List Str) by decide +kernel) | exact(show List.Nodup (["_law_one","_law_name","_law_other"]:List Str) by decide +kernel) | exact(show List.Nodup (["_law_one","_law_taken"]:List Str) by decide +kernel) | exact(show List.Nodup (["_law_part","_law_kinds_here"]:List Str) by decide +kernel) | exact(show List.Nodup (["each","kinds_by_name","kinds"]:List Str) by decide +kernel) | exact(show List.Nodup (["kind","makers"]:List Str) by decide +kernel) | exact(show List.Nodup (["kind","name","stock"]:List Str) by decide +kernel) | exact(show List.Nodup (["maker","parts"]:List Str) by decide +kernel)) (by first | exact Or.inl rfl | exact Or.inr rfl)|$(⟨w12⟩):tactic)
  |(show GTs _ _ _;first|refine CH ?_ ?_ (fun h1 h2=>CG h1 h2)|$(⟨w13⟩):tactic)
  |(show FT _ _ _ _;first|$(⟨w14⟩):tactic|refine Qd ?_ (fun _=>rfl)|$(⟨w15⟩):tactic|refine Qf of_le of_le ?_ ?_ ?_ (fun ha hb hc=>O4 SV SV ha hb hc)|$(⟨w16⟩):tactic)
  |(show FI _ _ _ _ _;$(⟨w17⟩):tactic)
  |(show FIf _ _ _;$(⟨w18⟩):tactic)
  |(show FP _ _ _ _;$(⟨w19⟩):tactic)
  |(show FW _ _ _ _;$(⟨w20⟩):tactic)))
set_option hygiene false in
local macro_rules | `(tactic| exists $N)=>`(tactic| (
 have nd:List.Nodup (($N):List Str):=by decide +kernel
 first
  | refine Mi X G d (fun kV dc pm an cdv ct us hl=>?_) fun f fd Fu _=>?_
  | refine Jax (by first | exact T.zV | exact T.zr | exact T.zq) d (fun kV dc pm an cdv ct us hl=>?_) fun f fd Fu=>?_
  | refine Jay X G (by assumption) d (fun kV dc pm an cdv ct us hl=>?_) fun f fd Fu=>?_
 ·first
   | (obtain⟨a,rfl⟩:=us1 hl;rfl)
   | (obtain⟨a,b,rfl⟩:=us2 hl;rfl)
   | (obtain⟨a,b,c,rfl⟩:=us3 hl;rfl)
   | (obtain⟨a,b,c,d,rfl⟩:=us4 hl;rfl)
   | (obtain⟨a,b,c,d,e,rfl⟩:=us5 hl;rfl)
   | (obtain⟨a,b,c,d,e,f,rfl⟩:=us6 hl;rfl)
 ·refine FV (N:=$N) Fu ⟨rfl,rfl,rfl,nd,rfl,by decide +kernel,by decide +kernel⟩ _ _ rfl rfl ?_;trivial))
include X G T
theorem S0(d:DF K "_law_mix" (top 43)):aF P w K mg base "_law_mix" 1 ["_law_cell","_law_k"] 2 Cs:=by exists ["_law_cell","_law_k","_law_number"]
variable(G_Lmix:aF P w K mg base "_law_mix" 1 ["_law_cell","_law_k"] 2 Cs)
theorem JJ(d:DF K "_law_letters" (top 44)):aF P w K mg base "_law_letters" 1 ["_law_number","_law_many"] 2 CZ:=by exists ["_law_number","_law_many","_law_made","_law_k"]
variable(G_Lletters:aF P w K mg base "_law_letters" 1 ["_law_number","_law_many"] 2 CZ)
include G_Lletters in
theorem Nb(d:DF K "_law_words" (top 45)):aF P w K mg base "_law_words" 2 ["_law_number","_law_many"] 2 BD:=by exists ["_law_number","_law_many","_law_place","_law_made","_law_at","_law_own","_law_word","_law_sign"]
variable(G_Lwords:aF P w K mg base "_law_words" 2 ["_law_number","_law_many"] 2 BD)
theorem JK(d:DF K "_law_cell_at" (top 42)):aF P w K mg base "_law_cell_at" 1 ["_law_script","_law_k"] 2 AR:=by exists ["_law_script","_law_k"]
variable(G_Lcell_at:aF P w K mg base "_law_cell_at" 1 ["_law_script","_law_k"] 2 AR)
include G_Lmix G_Lwords G_Lcell_at in
theorem Nf(d:DF K "_law_kinds" (top 46)):aF P w K mg base "_law_kinds" 3 ["_law_script"] 1 Em:=by exists ["_law_script","_law_count","_law_kinds_here","_law_words_here","_law_made","_law_at","_law_number","_law_makers_here","_law_k","_law_parts","_law_spot"]
variable(G_Lkinds:aF P w K mg base "_law_kinds" 3 ["_law_script"] 1 Em)
theorem IE(d:DF K "_law_copy_row" (top 53)):aF P w K mg base "_law_copy_row" 1 ["_law_own","_law_kind","_law_maker","_law_parts","_law_names"] 5 Df:=by exists ["_law_own","_law_kind","_law_maker","_law_parts","_law_names","_law_arguments","_law_name","_law_part"]
variable(G_Lcopy_row:aF P w K mg base "_law_copy_row" 1 ["_law_own","_law_kind","_law_maker","_law_parts","_law_names"] 5 Df)
theorem LR(d:DF K "_law_makers" (top 47)):aF P w K mg base "_law_makers" 1 ["_law_kinds_here","_law_kind"] 2 B3:=by exists ["_law_kinds_here","_law_kind","_law_name","_law_makers_here"]
variable(G_Lmakers:aF P w K mg base "_law_makers" 1 ["_law_kinds_here","_law_kind"] 2 B3)
theorem KN{f:Addr}{fd:FuncData}(Fu:Fun K "_law_put" "_law_put" (top 52) f fd)(hat:∀k sp,DS P w K mg base (CX1 P w) k f fd ["_law_expression","_law_name","_law_other"] sp->FnAt P w K mg base (CX1 P w) "_law_put" k ["_law_expression","_law_name","_law_other"] sp):∀n,DS P w K mg base (CX1 P w) (1+n) f fd ["_law_expression","_law_name","_law_other"] (spX K 3 (ET n))
 |0=>⟨λvs H Q E h=>by rw[h.1];rfl,λA outer s H args us vs Q E hr he hb hv h=>by obtain⟨_,F,fs0,ok,h⟩:=h;exact h.elim⟩
 |n+1=>by
  have Grec:=hat _ _ (KN Fu hat n);have nd:List.Nodup (["_law_expression","_law_name","_law_other"]:List Str):=by decide +kernel
  have hb:=FV (P:=P) (w:=w) (mg:=mg) (base:=base) (k:=1+n) (g:=Jn (ET n)) (N:=["_law_expression","_law_name","_law_other"]) (ps:=["_law_expression","_law_name","_law_other"]) Fu ⟨rfl,rfl,rfl,nd,rfl,by decide +kernel,by decide +kernel⟩ 3 0 rfl rfl (by trivial);exact hb
theorem SY(d:DF K "_law_put" (top 52)):aF P w K mg base "_law_put" 21 ["_law_expression","_law_name","_law_other"] 3 (ET 20):=Mi X G d (λ_ _ _ _ _ _ us hl=>by obtain⟨a,b,c,rfl⟩:=us3 hl;rfl) λf fd F hat=>KN X G T  F hat 20
variable(G_Lput:aF P w K mg base "_law_put" 21 ["_law_expression","_law_name","_law_other"] 3 (ET 20))
include G_Lmakers in
theorem GQ{f:Addr}{fd:FuncData}(Fu:Fun K "_law_least" "_law_least" (top 49) f fd)(hat:∀k sp,DS P w K mg base (CX1 P w) k f fd ["_law_kinds_here","_law_kind"] sp->FnAt P w K mg base (CX1 P w) "_law_least" k ["_law_kinds_here","_law_kind"] sp):∀n,DS P w K mg base (CX1 P w) (2+n) f fd ["_law_kinds_here","_law_kind"] (spX K 2 (CM n))
 |0=>⟨λvs H Q E h=>by rw[h.1];rfl,λA outer s H args us vs Q E hr he hb hv h=>by obtain⟨_,F,fs0,ok,h⟩:=h;exact h.elim⟩
 |n+1=>by
  have Grec:=hat _ _ (GQ Fu hat n);have nd:List.Nodup (["_law_kinds_here","_law_kind","_law_maker","_law_parts"]:List Str):=by decide +kernel
  have hb:=FV (P:=P) (w:=w) (mg:=mg) (base:=base) (k:=2+n) (g:=HW (CM n)) (N:=["_law_kinds_here","_law_kind","_law_maker","_law_parts"]) (ps:=["_law_kinds_here","_law_kind"]) Fu ⟨rfl,rfl,rfl,nd,rfl,by decide +kernel,by decide +kernel⟩ 2 2 rfl rfl (by trivial);exact hb
include G_Lmakers in
theorem Nd(d:DF K "_law_least" (top 49)):aF P w K mg base "_law_least" 10 ["_law_kinds_here","_law_kind"] 2 (CM 8):=Mi X G d (λ_ _ _ _ _ _ us hl=>by obtain⟨a,b,rfl⟩:=us2 hl;rfl) λf fd F hat=>GQ X G T G_Lmakers F hat 8
variable(G_Lleast:aF P w K mg base "_law_least" 10 ["_law_kinds_here","_law_kind"] 2 (CM 8))
include G_Lmakers G_Lleast in
theorem Ft{f:Addr}{fd:FuncData}(Fu:Fun K "_law_stream" "_law_stream" (top 50) f fd)(hat:∀k sp,DS P w K mg base (CX1 P w) k f fd ["_law_kinds_here","_law_known","_law_calls_here","_law_kind","_law_number","_law_levels"] sp->FnAt P w K mg base (CX1 P w) "_law_stream" k ["_law_kinds_here","_law_known","_law_calls_here","_law_kind","_law_number","_law_levels"] sp):∀n,DS P w K mg base (CX1 P w) (11+n) f fd ["_law_kinds_here","_law_known","_law_calls_here","_law_kind","_law_number","_law_levels"] (spX K 6 (BE n))
 |0=>⟨λvs H Q E h=>by rw[h.1];rfl,λA outer s H args us vs Q E hr he hb hv h=>by obtain⟨_,F,fs0,ok,h⟩:=h;exact h.elim⟩
 |n+1=>by
  have Grec:=hat _ _ (Ft Fu hat n);have nd:List.Nodup (["_law_kinds_here","_law_known","_law_calls_here","_law_kind","_law_number","_law_levels","_law_names","_law_funs","_law_way","_law_word","_law_makers_here","_law_name","_law_wanted","_law_arguments","_law_one","_law_argument"]:List Str):=by decide +kernel
  have hb:=FV (P:=P) (w:=w) (mg:=mg) (base:=base) (k:=11+n) (g:=Gg (BE n)) (N:=["_law_kinds_here","_law_known","_law_calls_here","_law_kind","_law_number","_law_levels","_law_names","_law_funs","_law_way","_law_word","_law_makers_here","_law_name","_law_wanted","_law_arguments","_law_one","_law_argument"]) (ps:=["_law_kinds_here","_law_known","_law_calls_here","_law_kind","_law_number","_law_levels"]) Fu ⟨rfl,rfl,rfl,nd,rfl,by decide +kernel,by decide +kernel⟩ 6 10 rfl rfl (by trivial);exact hb
include G_Lmakers G_Lleast in
theorem LQ(d:DF K "_law_stream" (top 50)):aF P w K mg base "_law_stream" 17 ["_law_kinds_here","_law_known","_law_calls_here","_law_kind","_law_number","_law_levels"] 6 (BE 6):=Mi X G d (λ_ _ _ _ _ _ us hl=>by obtain⟨a,b,c,d,e,f,rfl⟩:=us6 hl;rfl) λf fd F hat=>Ft X G T G_Lmakers G_Lleast F hat 6
variable(G_Lstream:aF P w K mg base "_law_stream" 17 ["_law_kinds_here","_law_known","_law_calls_here","_law_kind","_law_number","_law_levels"] 6 (BE 6))
include G_Lstream in
theorem Ng(d:DF K "_law_grown" (top 51)):aF P w K mg base "_law_grown" 18 ["_law_kinds_here","_law_known","_law_calls_here","_law_kind","_law_number","_law_levels"] 6 En:=by exists ["_law_kinds_here","_law_known","_law_calls_here","_law_kind","_law_number","_law_levels"]
variable(G_Lgrown:aF P w K mg base "_law_grown" 18 ["_law_kinds_here","_law_known","_law_calls_here","_law_kind","_law_number","_law_levels"] 6 En)
include G_Lput G_Lstream G_Lgrown in
theorem Pl(d:DF K "_law_body" (top 54)):aF P w K mg base "_law_body" 22 ["_law_kinds_here","_law_calls_here","_law_function_here","_law_known","_law_lessers","_law_digit"] 6 FX:=by exists ["_law_kinds_here","_law_calls_here","_law_function_here","_law_known","_law_lessers","_law_digit","_law_own","_law_wanted","_law_kind","_law_more","_law_arguments","_law_one","_law_argument"]
variable(G_Lbody:aF P w K mg base "_law_body" 22 ["_law_kinds_here","_law_calls_here","_law_function_here","_law_known","_law_lessers","_law_digit"] 6 FX)
include G_Lmix G_Lwords G_Lmakers G_Lbody in
theorem ID(d:DF K "_law_function" (top 55)):aF P w K mg base "_law_function" 23 ["_law_kinds_here","_law_own","_law_calls_here","_law_number"] 4 Ct:=by exists ["_law_kinds_here","_law_own","_law_calls_here","_law_number","_law_words_here","_law_wanted","_law_kind","_law_others","_law_rows","_law_at","_law_maker","_law_parts","_law_names","_law_known","_law_lessers","_law_digit"]
variable(G_Lfunction:aF P w K mg base "_law_function" 23 ["_law_kinds_here","_law_own","_law_calls_here","_law_number"] 4 Ct)
include G_Lmix G_Lwords G_Lcell_at G_Lcopy_row G_Lfunction in
theorem HB(d:DF K "_law_functions" (top 56)):aF P w K mg base "_law_functions" 24 ["_law_script","_law_kinds_here"] 2 B4:=by exists ["_law_script","_law_kinds_here","_law_words_here","_law_number","_law_kind","_law_makers_here","_law_names","_law_rows","_law_made","_law_calls_here","_law_k","_law_function_here"]
variable(G_Lfunctions:aF P w K mg base "_law_functions" 24 ["_law_script","_law_kinds_here"] 2 B4)
theorem LP(d:DF K "is_name" (top 20)):aF P w K mg base "is_name" 1 ["text"] 1 AQ:=by exists ["text"]
variable(G_is_name:aF P w K mg base "is_name" 1 ["text"] 1 AQ)
include G_is_name in
theorem Gu(d:DF K "check_kinds" (top 37)):aF P w K mg base "check_kinds" 2 ["kinds"] 1 BC:=by exists ["kinds","above","kind","makers"]
variable(G_check_kinds:aF P w K mg base "check_kinds" 2 ["kinds"] 1 BC)
include G_is_name in
theorem Gs(d:DF K "check_maker" (top 39)):aF P w K mg base "check_maker" 2 ["maker","parts","makers_ahead","all_kinds"] 4 AU:=by exists ["maker","parts","makers_ahead","all_kinds","part"]
variable(G_check_maker:aF P w K mg base "check_maker" 2 ["maker","parts","makers_ahead","all_kinds"] 4 AU)
theorem Fx(d:DF K "check_ground" (top 40)):aF P w K mg base "check_ground" 1 ["maker","parts","kinds_above"] 3 AN:=by exists ["maker","parts","kinds_above","part"]
variable(G_check_ground:aF P w K mg base "check_ground" 1 ["maker","parts","kinds_above"] 3 AN)
include G_check_maker G_check_ground in
theorem Fw(d:DF K "check_makers" (top 38)):aF P w K mg base "check_makers" 3 ["kinds"] 1 Br:=by exists ["kinds","all_kinds","kinds_above","makers_ahead","kind","makers","first","maker","parts"]
variable(G_check_makers:aF P w K mg base "check_makers" 3 ["kinds"] 1 Br)
include C_Stock G_check_kinds G_check_makers in
theorem Hy(d:DM K cStock "__init__" "Stock.__init__" (inClass (top 36) 0)):aK P w K mg base "Stock" cStock 4 ["self","kinds"] 2 (B2 cStock):=by exists ["self","kinds","kind","makers","maker","parts"]
variable(G_Stock_init:aK P w K mg base "Stock" cStock 4 ["self","kinds"] 2 (B2 cStock))
theorem Fy(d:DM K cStock "makers" "Stock.makers" (inClass (top 36) 2)):aM P w K mg base cStock "makers" 1 ["self","kind"] 2 (AY cStock):=by exists ["self","kind"]
variable(G_Stock_makers:aM P w K mg base cStock "makers" 1 ["self","kind"] 2 (AY cStock))
theorem Gw(d:DM K cStock "kinds" "Stock.kinds" (inClass (top 36) 1)):aM P w K mg base cStock "kinds" 1 ["self"] 1 (A8 cStock):=by exists ["self"]
variable(G_Stock_kinds:aM P w K mg base cStock "kinds" 1 ["self"] 1 (A8 cStock))
include G_Stock_makers G_Stock_kinds in
theorem JH(d:DF K "is_maker" (top 29)):aF P w K mg base "is_maker" 2 ["stock","name"] 2 (DE cStock):=by exists ["stock","name"]
variable(G_is_maker:aF P w K mg base "is_maker" 2 ["stock","name"] 2 (DE cStock))
include G_is_name G_Stock_makers G_Stock_kinds G_is_maker in
theorem Hx(d:DF K "check_head" (top 28)):aF P w K mg base "check_head" 3 ["stock","heads","function"] 3 (CJ cStock):=by exists ["stock","heads","function","name","kinds","kind","others","rows","each"]
variable(G_check_head:aF P w K mg base "check_head" 3 ["stock","heads","function"] 3 (CJ cStock))
theorem Gv(d:DM K cStock "parts" "Stock.parts" (inClass (top 36) 3)):aM P w K mg base cStock "parts" 1 ["self","maker"] 2 (Bj cStock):=by exists ["self","maker"]
variable(G_Stock_parts:aM P w K mg base cStock "parts" 1 ["self","maker"] 2 (Bj cStock))
include G_is_name in
theorem Gr(d:DF K "check_names" (top 31)):aF P w K mg base "check_names" 2 ["names"] 1 Cg:=by exists ["names","ahead","name"]
variable(G_check_names:aF P w K mg base "check_names" 2 ["names"] 1 Cg)
theorem Hz(d:DM K cStock "home" "Stock.home" (inClass (top 36) 4)):aM P w K mg base cStock "home" 1 ["self","maker"] 2 (CK cStock):=by exists ["self","maker"]
variable(G_Stock_home:aM P w K mg base cStock "home" 1 ["self","maker"] 2 (CK cStock))
include G_Stock_parts G_Stock_home in
theorem EY(d:DF K "kinds_of_head" (top 27)):aF P w K mg base "kinds_of_head" 2 ["scope","form","head"] 3 (A3 cScope cStock):=by exists ["scope","form","head"]
variable(G_kinds_of_head:aF P w K mg base "kinds_of_head" 2 ["scope","form","head"] 3 (A3 cScope cStock))
theorem Fv(d:DF K "kind_of_name" (top 26)):aF P w K mg base "kind_of_name" 1 ["scope","name"] 2 (BS cScope):=by exists ["scope","name"]
variable(G_kind_of_name:aF P w K mg base "kind_of_name" 1 ["scope","name"] 2 (BS cScope))
include G_kinds_of_head G_kind_of_name in
theorem Dr{f:Addr}{fd:FuncData}(Fu:Fun K "kind_within" "kind_within" (top 25) f fd)(hat:∀k sp,DS P w K mg base (CX1 P w) k f fd ["scope","expression"] sp->FnAt P w K mg base (CX1 P w) "kind_within" k ["scope","expression"] sp):∀n,DS P w K mg base (CX1 P w) (3+n) f fd ["scope","expression"] (spX K 2 (AL cScope cStock n))
 |0=>⟨λvs H Q E h=>by rw[h.1];rfl,λA outer s H args us vs Q E hr he hb hv h=>by obtain⟨_,F,fs0,ok,h⟩:=h;exact h.elim⟩
 |n+1=>by
  have Grec:=hat _ _ (Dr Fu hat n);have nd:List.Nodup (["scope","expression","form","head","arguments","wanted","kind","argument","kind_wanted"]:List Str):=by decide +kernel
  have hb:=FV (P:=P) (w:=w) (mg:=mg) (base:=base) (k:=3+n) (g:=Dh cScope cStock (AL cScope cStock n)) (N:=["scope","expression","form","head","arguments","wanted","kind","argument","kind_wanted"]) (ps:=["scope","expression"]) Fu ⟨rfl,rfl,rfl,nd,rfl,by decide +kernel,by decide +kernel⟩ 2 7 rfl rfl (by trivial);exact hb
include G_kinds_of_head G_kind_of_name in
theorem Gq(d:DF K "kind_within" (top 25)):aF P w K mg base "kind_within" 23 ["scope","expression"] 2 (AL cScope cStock 20):=Mi X G d (λ_ _ _ _ _ _ us hl=>by obtain⟨a,b,rfl⟩:=us2 hl;rfl) λf fd F hat=>Dr X G T G_kinds_of_head G_kind_of_name F hat 20
variable(G_kind_within:aF P w K mg base "kind_within" 23 ["scope","expression"] 2 (AL cScope cStock 20))
include C_Scope in
theorem HA(d:DM K cScope "__init__" "Scope.__init__" (inClass (top 24) 0)):aK P w K mg base "Scope" cScope 1 ["self","stock","heads","kinds_by_name","own","lessers"] 6 (CL cScope):=by exists ["self","stock","heads","kinds_by_name","own","lessers"]
variable(G_Scope_init:aK P w K mg base "Scope" cScope 1 ["self","stock","heads","kinds_by_name","own","lessers"] 6 (CL cScope))
include G_Stock_parts G_check_names G_kind_within G_Scope_init in
theorem IC(d:DF K "check_row" (top 30)):aF P w K mg base "check_row" 24 ["stock","heads","function","maker","row"] 5 (De cScope cStock):=by exists ["stock","heads","function","maker","row","name","kinds","kind","others","rows","names","body","parts","kinds_by_name","lessers"]
variable(G_check_row:aF P w K mg base "check_row" 24 ["stock","heads","function","maker","row"] 5 (De cScope cStock))
include C_Program G_Stock_makers G_check_head G_check_row in
theorem Fz(d:DM K cProgram "__init__" "Program.__init__" (inClass (top 23) 0)):aK P w K mg base "Program" cProgram 25 ["self","stock","functions"] 3 (BU cProgram cScope cStock):=by exists ["self","stock","functions","function","name","kinds","kind","others","rows","maker","row"]
variable(G_Program_init:aK P w K mg base "Program" cProgram 25 ["self","stock","functions"] 3 (BU cProgram cScope cStock))
theorem DL(d:DM K cProgram "functions" "Program.functions" (inClass (top 23) 1)):aM P w K mg base cProgram "functions" 1 ["self"] 1 (AF cProgram):=by exists ["self"]
variable(G_Program_functions:aM P w K mg base cProgram "functions" 1 ["self"] 1 (AF cProgram))
theorem DT(d:DM K cProgram "kinds_of" "Program.kinds_of" (inClass (top 23) 2)):aM P w K mg base cProgram "kinds_of" 1 ["self","function"] 2 (AB cProgram):=by exists ["self","function"]
variable(G_Program_kinds_of:aM P w K mg base cProgram "kinds_of" 1 ["self","function"] 2 (AB cProgram))
theorem Gx(d:DM K cProgram "row" "Program.row" (inClass (top 23) 3)):aM P w K mg base cProgram "row" 1 ["self","function","maker"] 3 (AV cProgram):=by exists ["self","function","maker"]
variable(G_Program_row:aM P w K mg base cProgram "row" 1 ["self","function","maker"] 3 (AV cProgram))
include G_Lmakers G_Program_functions G_Program_kinds_of G_Program_row in
theorem Nc(d:DF K "_law_right" (top 60)):aF P w K mg base "_law_right" 2 ["_law_program","_law_kinds_here","_law_functions_here"] 3 (El cProgram):=by exists ["_law_program","_law_kinds_here","_law_functions_here","_law_own","_law_wanted","_law_kind","_law_others","_law_rows","_law_makers_here","_law_k","_law_names","_law_body_here"]
variable(G_Lright:aF P w K mg base "_law_right" 2 ["_law_program","_law_kinds_here","_law_functions_here"] 3 (El cProgram))
theorem FC(d:DF K "_law_every_maker" (top 48)):aF P w K mg base "_law_every_maker" 1 ["_law_kinds_here"] 1 Bd:=by exists ["_law_kinds_here","_law_made","_law_kind","_law_makers_here","_law_maker","_law_parts"]
variable(G_Levery_maker:aF P w K mg base "_law_every_maker" 1 ["_law_kinds_here"] 1 Bd)
theorem Nh(d:DF K "_law_class" (top 58)):aF P w K mg base "_law_class" 1 ["_law_kept"] 1 DG:=by exists ["_law_kept","_law_got","_law_names"]
variable(G_Lclass:aF P w K mg base "_law_class" 1 ["_law_kept"] 1 DG)
include G_Program_kinds_of G_Program_row G_Lclass in
theorem JI(d:DF K "_law_refused" (top 59)):aF P w K mg base "_law_refused" 2 ["_law_program","_law_way","_law_function_here","_law_maker"] 4 (CY cProgram) :=
 Mi X G d (λ_ _ _ _ _ _ us hl=>by obtain⟨a,b,c,d,rfl⟩:=us4 hl;rfl) λf fd Fu _=>by
  have nd:List.Nodup (["_law_program","_law_way","_law_function_here","_law_maker","_law_kept","e"]:List Str):=by decide +kernel
  refine FV (N:=["_law_program","_law_way","_law_function_here","_law_maker","_law_kept","e"]) Fu ⟨rfl,rfl,rfl,nd,rfl,by decide +kernel,by decide +kernel⟩ 4 2 rfl rfl λcdv A outer s H E _ _ hr lk=>?_
  have hu:=WL hr;exact(IP (GS.zero (NM 4 nd (Or.inl rfl) Rq))
   (IP (P1 T.xt (by decide +kernel) 5 lk nd (λ_ _ lk=>(ED (WN (W6 (Qh 1) Ru) (ED (J0 (N0 G_Program_kinds_of (hr.mono (by first|decide|lia)) lk.lk (IU (Qh 0)) (Ek (IU (Qh 2)) HM)))) (ED (J0 (N0 G_Program_row (hr.mono (by first|decide|lia)) lk.lk (IU (Qh 0)) (Ek (IU (Qh 2)) (Ek (IU (Qh 3)) HM)))))))) (λ_=>(ED (NM 4 nd (Or.inl rfl) (IU (Qh 5))))))
   (GSs.zero (ED (Rl (Rw G_Lclass (hr.mono (by first|decide|lia)) lk.lk (Ek (IU (Qh 4)) HM)))))))
variable(G_Lrefused:aF P w K mg base "_law_refused" 2 ["_law_program","_law_way","_law_function_here","_law_maker"] 4 (CY cProgram))
include G_Lmix G_Lcell_at G_Lkinds G_Lmakers G_Lfunctions G_Stock_init G_Stock_kinds G_Program_init G_Program_functions G_Lright G_Levery_maker G_Lrefused in
theorem Wg{f:Addr}{fd:FuncData}(Fu:Fun K "law" "law" (top 61) f fd):DS P w K mg base (CX1 P w) 27 f fd ["_law_script"] (spX K 1 (XD cProgram cScope cStock)):=by
 have nd:List.Nodup (["_law_script","_law_head","_law_kinds_here","_law_functions_here","_law_handed","_law_stock","_law_program","_law_told","_law_own","_law_wanted","_law_kind","_law_others","_law_rows","_law_mine","_law_strangers","_law_taken","_law_spare","_law_stranger"]:List Str):=by decide +kernel
 refine FV (N:=["_law_script","_law_head","_law_kinds_here","_law_functions_here","_law_handed","_law_stock","_law_program","_law_told","_law_own","_law_wanted","_law_kind","_law_others","_law_rows","_law_mine","_law_strangers","_law_taken","_law_spare","_law_stranger"]) Fu ⟨rfl,rfl,rfl,nd,rfl,by decide +kernel,by decide +kernel⟩ _ _ rfl rfl ?_;trivial
end
def OR(K:Fg):Sp:=λvs H Q _=>∃(a:Addr)(ns:List Int),vs=[.ref a]/\SqL K H a (ns.map V.int)/\ns.length<=63/\CU ns<=2^20/\∀H',Q (.o true) H'
theorem Kx{K:Fg}{F:Wd}{H:Hp}:∀(ns:List Int),Ac K F H (ns.map T.int) (ns.map V.int)
 | []=>by simp[Ac]
 |n::ns=>by simp only[aj,Ac];exact⟨_,_,rfl,by simp[Ar],Kx ns⟩
theorem Wx{K:Fg}{Fn:FS->Out Rv}(good:∀ns:List Int,ns.length<=63->CU ns<=2^20->∃fs,Fn [some (.val (.z0 (ns.map T.int)))]=.ok (.t (.o true)) fs):∀vs H Q E,OR K vs H Q E->spX K 1 Fn vs H Q E:=by
 intro vs H Q E ⟨a,ns,e,hs,hl,hb,k⟩;subst e;obtain⟨fs,eg⟩:=good ns hl hb;have key:∀F:Wd,StL K F H a (ns.map V.int)->(∀b,F b->H b≠none)->(∀b,¬F.p b)->spX K 1 Fn [.ref a] H Q E:=λF st fd np=>by
  refine⟨rfl,F,[some (.val (.z0 (ns.map T.int)))],⟨[],?_,aW,(λ_ m=>nomatch m),fd,?_,λb p=>(np b p).elim,λb _ p=>np b p,(λ_ m=>nomatch m)⟩,?_⟩
  .show Ao K F H [some (.val (.z0 (ns.map T.int)))] [some (.ref a)] [];simp only[Ao];exact⟨_,_,rfl,by simp only[Ar];exact⟨a,_,rfl,st,Kx ns⟩,by first|exact⟨rfl,rfl⟩|trivial⟩
  .intro i o e;cases i with|zero=>cases e|succ i=>simp at e
  .rw[eg];intro F' H' u σ' _ q;obtain⟨L,L',_,⟨_,qu⟩,_⟩:=q;have:u=.o true:=qu;subst this;exact k H'
 rcases hs with hs|hs
 .exact key ⟨λb=>b=a,λ_=>False⟩ (.inl ⟨rfl,hs⟩) (λb e=>by have e':b=a:=e;subst e';rcases hs with z|⟨o,z⟩<;>(rw[z];exact λq=>nomatch q)) λ_ p=>p
 .exact key ⟨λ_=>False,λ_=>False⟩ (.inr hs) (λb e=>e.elim) λ_ p=>p
theorem all_mk{l:OpenLaw}{w:World}{K:Fg}{h:Heap}{mg:Str->Option Value}{fa cProgram cScope cStock:Addr}(X:K.In h)(G:h.Ns mainGlobals mg)(hfa:mg "law"=some (.ref fa))(C_Program:CC K "Program" cProgram)(C_Scope:CC K "Scope" cScope)(C_Stock:CC K "Stock" cStock)(T:Tx K mg cProgram cScope cStock)
  (d0:DF K "_law_mix" (top 43))
  (d1:DF K "_law_letters" (top 44))
  (d2:DF K "_law_words" (top 45))
  (d3:DF K "_law_cell_at" (top 42))
  (d4:DF K "_law_kinds" (top 46))
  (d5:DF K "_law_copy_row" (top 53))
  (d6:DF K "_law_makers" (top 47))
  (d7:DF K "_law_put" (top 52))
  (d8:DF K "_law_least" (top 49))
  (d9:DF K "_law_stream" (top 50))
  (d10:DF K "_law_grown" (top 51))
  (d11:DF K "_law_body" (top 54))
  (d12:DF K "_law_function" (top 55))
  (d13:DF K "_law_functions" (top 56))
  (d14:DF K "is_name" (top 20))
  (d15:DF K "check_kinds" (top 37))
  (d16:DF K "check_maker" (top 39))
  (d17:DF K "check_ground" (top 40))
  (d18:DF K "check_makers" (top 38))
  (d19:DM K cStock "__init__" "Stock.__init__" (inClass (top 36) 0))
  (d20:DM K cStock "makers" "Stock.makers" (inClass (top 36) 2))
  (d21:DM K cStock "kinds" "Stock.kinds" (inClass (top 36) 1))
  (d22:DF K "is_maker" (top 29))
  (d23:DF K "check_head" (top 28))
  (d24:DM K cStock "parts" "Stock.parts" (inClass (top 36) 3))
  (d25:DF K "check_names" (top 31))
  (d26:DM K cStock "home" "Stock.home" (inClass (top 36) 4))
  (d27:DF K "kinds_of_head" (top 27))
  (d28:DF K "kind_of_name" (top 26))
  (d29:DF K "kind_within" (top 25))
  (d30:DM K cScope "__init__" "Scope.__init__" (inClass (top 24) 0))
  (d31:DF K "check_row" (top 30))
  (d32:DM K cProgram "__init__" "Program.__init__" (inClass (top 23) 0))
  (d33:DM K cProgram "functions" "Program.functions" (inClass (top 23) 1))
  (d34:DM K cProgram "kinds_of" "Program.kinds_of" (inClass (top 23) 2))
  (d35:DM K cProgram "row" "Program.row" (inClass (top 23) 3))
  (d36:DF K "_law_right" (top 60))
  (d37:DF K "_law_every_maker" (top 48))
  (d38:DF K "_law_class" (top 58))
  (d39:DF K "_law_refused" (top 59))
  (d40:DF K "law" (top 61)) :
  ∃fd:FuncData,(∀(s:Shared)(v:Value),BindsTo s fd ⟨[v],[]⟩ [("_law_script",v)])/\∀base:Heap,K.In base->base.Ns mainGlobals mg->DS l.prog w K mg base (CX1 l.prog w) 27 fa fd ["_law_script"] (OR K):=by
 obtain⟨f,fd,a,F⟩:=d40;cases hfa.symm.trans (mg_of X G a);refine⟨fd,by obtain⟨_,_,_,_,_,_,_,_,_,rfl,_⟩:=F.ex;exact λs v=>.of_eq rfl,λbase _ _=>?_⟩;have G0:=S0 (P:=l.prog) (w:=w) (base:=base) X G T  d0;have G1:=JJ (P:=l.prog) (w:=w) (base:=base) X G T  d1;have G2:=Nb (P:=l.prog) (w:=w) (base:=base) X G T G1 d2;have G3:=JK (P:=l.prog) (w:=w) (base:=base) X G T  d3;have G4:=Nf (P:=l.prog) (w:=w) (base:=base) X G T G0 G2 G3 d4;have G5:=IE (P:=l.prog) (w:=w) (base:=base) X G T  d5;have G6:=LR (P:=l.prog) (w:=w) (base:=base) X G T  d6;have G7:=SY (P:=l.prog) (w:=w) (base:=base) X G T  d7;have G8:=Nd (P:=l.prog) (w:=w) (base:=base) X G T G6 d8;have G9:=LQ (P:=l.prog) (w:=w) (base:=base) X G T G6 G8 d9;have G10:=Ng (P:=l.prog) (w:=w) (base:=base) X G T G9 d10;have G11:=Pl (P:=l.prog) (w:=w) (base:=base) X G T G7 G9 G10 d11;have G12:=ID (P:=l.prog) (w:=w) (base:=base) X G T G0 G2 G6 G11 d12;have G13:=HB (P:=l.prog) (w:=w) (base:=base) X G T G0 G2 G3 G5 G12 d13;have G14:=LP (P:=l.prog) (w:=w) (base:=base) X G T  d14;have G15:=Gu (P:=l.prog) (w:=w) (base:=base) X G T G14 d15;have G16:=Gs (P:=l.prog) (w:=w) (base:=base) X G T G14 d16;have G17:=Fx (P:=l.prog) (w:=w) (base:=base) X G T  d17;have G18:=Fw (P:=l.prog) (w:=w) (base:=base) X G T G16 G17 d18;have G19:=Hy (P:=l.prog) (w:=w) (base:=base) X G T C_Stock G15 G18 d19;have G20:=Fy (P:=l.prog) (w:=w) (base:=base) X G T  d20;have G21:=Gw (P:=l.prog) (w:=w) (base:=base) X G T  d21;have G22:=JH (P:=l.prog) (w:=w) (base:=base) X G T G20 G21 d22;have G23:=Hx (P:=l.prog) (w:=w) (base:=base) X G T G14 G20 G21 G22 d23;have G24:=Gv (P:=l.prog) (w:=w) (base:=base) X G T  d24;have G25:=Gr (P:=l.prog) (w:=w) (base:=base) X G T G14 d25;have G26:=Hz (P:=l.prog) (w:=w) (base:=base) X G T  d26;have G27:=EY (P:=l.prog) (w:=w) (base:=base) X G T G24 G26 d27;have G28:=Fv (P:=l.prog) (w:=w) (base:=base) X G T  d28;have G29:=Gq (P:=l.prog) (w:=w) (base:=base) X G T G27 G28 d29;have G30:=HA (P:=l.prog) (w:=w) (base:=base) X G T C_Scope d30;have G31:=IC (P:=l.prog) (w:=w) (base:=base) X G T G24 G25 G29 G30 d31;have G32:=Fz (P:=l.prog) (w:=w) (base:=base) X G T C_Program G20 G23 G31 d32;have G33:=DL (P:=l.prog) (w:=w) (base:=base) X G T  d33;have G34:=DT (P:=l.prog) (w:=w) (base:=base) X G T  d34;have G35:=Gx (P:=l.prog) (w:=w) (base:=base) X G T  d35;have G36:=Nc (P:=l.prog) (w:=w) (base:=base) X G T G6 G33 G34 G35 d36;have G37:=FC (P:=l.prog) (w:=w) (base:=base) X G T  d37;have G38:=Nh (P:=l.prog) (w:=w) (base:=base) X G T  d38;have G39:=JI (P:=l.prog) (w:=w) (base:=base) X G T G34 G35 G38 d39;exact(Wg (P:=l.prog) (w:=w) (base:=base) X G T G0 G3 G4 G6 G13 G19 G21 G32 G33 G36 G37 G39 F).imp (Wx (good cProgram cScope cStock))
theorem exG{α:Type}{K:Fg}{h:Heap}{mg:Str->Option Value}{x:Str}{v:α->Value}{t:α}(X:K.In h)(G:h.Ns mainGlobals mg)(e:nsIn K mainGlobals x=some (some (v t))):∃t,mg x=some (v t):=⟨t,mg_of X G e⟩
theorem naG{K:Fg}{C:Addr}{f:Str}(e:findIn K (.ref C) f=some none):Bi K C f:=e
theorem walk{l:OpenLaw}{q:Program}{loose:List Str}{XP:(Str->Option Value)->Heap->Prop}{d:DefRec}{K:Params->Fg}{as:List Addr}{N tk:Nat}(hn:l.most=some 63)(hdf:d.params.defaults=[])(hK:∀P:Params,as=(K P).map (·.1))
  (F:∀(w:World)(mg:Str->Option Value)(fa:Addr)(h:Heap),(K w.params).In h->h.Ns mainGlobals mg->mg d.name=some (.ref fa) ->
   ∃fd:FuncData,(∀(s:Shared)(u:Value),BindsTo s fd ⟨[u],[]⟩ [("_law_script",u)])/\∀base:Heap,(K w.params).In base->base.Ns mainGlobals mg->DS l.prog w (K w.params) mg base (CX1 l.prog w) 27 fa fd ["_law_script"] (OR (K w.params))) :
  WalkX q loose XP (PySem.W.X.obsZ as) (PySem.W.X.valZ K N tk) l.row.toRowW d [] (λf vs=>PySem.call f vs) :=
 L2.Jv (n:=63) (k:=27) (x:="_law_script") (CX:=λw=>CX1 l.prog w) (sp:=OR) hn (by decide) hdf ⟨rfl,by decide,by decide⟩ hK F (λ_ _ a ns hl hb _ hS=>⟨a,ns,rfl,hS,hl,hb,λ_=>rfl⟩) λ_ _ _ _ _ ⟨_,_,_,_,_,_,_,_,_,_,_,q⟩=>q
end Sy
structure PySem.W.Fast:Prop where(tw14680562013690313660 tw10477256690927764464 tw18112056330329164354 tw16770236049601681758 tw8555103422581447937 tw12691335969963738823 tw2959023555758615409 tw16100724031511336043 tw13962839854527363470 tw9709677960701452207 tw14630180524086026411 tw13283686596259292912 tw15319873954216223830 tw17134706103617886904 tw2449669352226901513 tw1332072146431536630 tw18138036389713920149 tw5382050536230206772 tw4897451938211573030 tw18299530415720936007 tw14785662292561957236 tw3916693792298442022 tw3817996025695082779 tw9340265361096692976 tw16196372130982242054 tw18261588357517266599 tw962693691310635649 tw7855469280570028127 tw17385876835379995224 tw17842635311191798715 tw1286510937393570390 tw13872872501208202795 tw6061009754367655592 tw6045637063621454001 tw16451644821622857027 tw9457284521616492364 tw17334201515689115538 tw7584079511659932535 tw8262038056974505768 tw8619098532884202610 tw409514270190821523 tw17145726004712752481 tw7196140702806636761 tw8820333738641356510 tw14480419131487660780 tw6447215756438405832 tw1897257402909704609 tw6722446576291796057 tw12989685784519604036 tw12272160007353730189 tw1029589807968385686 tw961943914887309956 tw9635570111436962689 tw10357411767378461656 tw2848756888875957839 tw12736612325257769991 tw852070361241909424 tw10275229662744113289 tw14367658344670287394 tw15280937032512933426 tw2354722428539791299 tw11371985175971364209 tw12945578618834987 tw2955492585472093389 tw3613676165665657507 tw13019689704196158015 tw15231506686620919807 tw7605981502648852690 tw4068039200605037969 tw13317054382417672854 tw4194518361644639722 tw6748850378549507083 tw16845668783444369015 tw3770715769944559588 tw14274699370405585514 tw1614530547791917882 tw12071493476733552777 tw10935330955622625938 tw13511566478349620914 tw3573801960856633578 tw4056816602566342279 tw45953906309752047 tw12750103982588687353 tw3985718016559715725 tw10691993757492634492 tw8013832906058028833 tw1075111358031657534 tw403045707191392425 tw7712644257823137842 tw5563007219787546293 tw924516698673365368 tw16526022444251506276 tw13736054663464626196 tw190734612271797439 tw13151866136299385318 tw4070278181184858243 tw15355797350614421217 tw14541141064958329948 tw4470368516672460736 tw10850443699868804581 tw8439134741556916774 tw1515985288999690478 tw12776458201690330221 tw3669080011838034343 tw17595043712144822899 tw8365973565862662768 tw10370927652025692137 tw4732113537980511942 tw17498163677272859571 tw14906079277760342208 tw2591354182577219817 tw13384390627976319351 tw13673725638884529041 tw17695364667673900898 tw17774083908708614258 tw12242334111095206054 tw4241735440080071768 tw10682950363793344623 tw6200441345496806222 tw16264066681319388903 tw8380006767122338781 tw16255082774620469079 tw13687026879172659029 tw11582161812669832177 tw17551384568595231720 tw3948407253021618182 tw15096789255256625248 tw8982012188209433029 tw1161805129101718690 tw9403238630544262414 tw8505948518669035901 tw7008330993346006763 tw7855624390097870406 tw13078869839337141322 tw6622693342399267962 tw2798259499262777171:True)
open PySem PySem.W PyProof.Rows
set_option maxRecDepth 100000 in
set_option maxHeartbeats 0 in
theorem PySem.Challenge.cw_stairsay_k12_rows_told_holds : PySem.Challenge.rw_stairsay_k12_rows_told.Holds := by
 w_on;o_law;z_head;(case hw=>w_witness2)
 k_fill
 refine Sy.walk (l:=PySem.Challenge.rw_stairsay_k12_rows_told) rfl rfl (λP=>rfl) ?F
 case F =>
  intro w mg fa h KX G hmg;refine' Sy.all_mk KX G hmg ⟨?_,?_,?_⟩ ⟨?_,?_,?_⟩ ⟨?_,?_,?_⟩ ⟨PySem.W.mg_none_of KX G ?_,PySem.W.mg_none_of KX G ?_,PySem.W.mg_none_of KX G ?_,PySem.W.mg_none_of KX G ?_,PySem.W.mg_none_of KX G ?_,PySem.W.mg_none_of KX G ?_,PySem.W.mg_none_of KX G ?_,PySem.W.mg_none_of KX G ?_,PySem.W.mg_none_of KX G ?_,PySem.W.mg_none_of KX G ?_,PySem.W.mg_none_of KX G ?_,PySem.W.mg_none_of KX G ?_,PySem.W.mg_none_of KX G ?_,Sy.exG KX G ?_,Sy.exG KX G ?_,Sy.exG KX G ?_,Sy.exG KX G ?_,Sy.exG KX G ?_,Sy.exG KX G ?_,⟨?_,?_,?_,?_⟩,⟨?_,?_,?_,?_⟩,⟨?_,?_,?_,?_⟩,Sy.naG ?_,Sy.naG ?_,Sy.naG ?_,Sy.naG ?_,Sy.naG ?_,Sy.naG ?_,Sy.naG ?_,Sy.naG ?_,Sy.naG ?_,Sy.naG ?_,Sy.naG ?_,.of KX G (by kernel_rfl)⟩ ⟨_,_,?_,L2.Ax ?_ ?_ ?_⟩ ⟨_,_,?_,L2.Ax ?_ ?_ ?_⟩ ⟨_,_,?_,L2.Ax ?_ ?_ ?_⟩ ⟨_,_,?_,L2.Ax ?_ ?_ ?_⟩ ⟨_,_,?_,L2.Ax ?_ ?_ ?_⟩ ⟨_,_,?_,L2.Ax ?_ ?_ ?_⟩ ⟨_,_,?_,L2.Ax ?_ ?_ ?_⟩ ⟨_,_,?_,L2.Ax ?_ ?_ ?_⟩ ⟨_,_,?_,L2.Ax ?_ ?_ ?_⟩ ⟨_,_,?_,L2.Ax ?_ ?_ ?_⟩ ⟨_,_,?_,L2.Ax ?_ ?_ ?_⟩ ⟨_,_,?_,L2.Ax ?_ ?_ ?_⟩ ⟨_,_,?_,L2.Ax ?_ ?_ ?_⟩ ⟨_,_,?_,L2.Ax ?_ ?_ ?_⟩ ⟨_,_,?_,L2.Ax ?_ ?_ ?_⟩ ⟨_,_,?_,L2.Ax ?_ ?_ ?_⟩ ⟨_,_,?_,L2.Ax ?_ ?_ ?_⟩ ⟨_,_,?_,L2.Ax ?_ ?_ ?_⟩ ⟨_,_,?_,L2.Ax ?_ ?_ ?_⟩ ⟨_,_,?_,?_,L2.Ax ?_ ?_ ?_⟩ ⟨_,_,?_,?_,L2.Ax ?_ ?_ ?_⟩ ⟨_,_,?_,?_,L2.Ax ?_ ?_ ?_⟩ ⟨_,_,?_,L2.Ax ?_ ?_ ?_⟩ ⟨_,_,?_,L2.Ax ?_ ?_ ?_⟩ ⟨_,_,?_,?_,L2.Ax ?_ ?_ ?_⟩ ⟨_,_,?_,L2.Ax ?_ ?_ ?_⟩ ⟨_,_,?_,?_,L2.Ax ?_ ?_ ?_⟩ ⟨_,_,?_,L2.Ax ?_ ?_ ?_⟩ ⟨_,_,?_,L2.Ax ?_ ?_ ?_⟩ ⟨_,_,?_,L2.Ax ?_ ?_ ?_⟩ ⟨_,_,?_,?_,L2.Ax ?_ ?_ ?_⟩ ⟨_,_,?_,L2.Ax ?_ ?_ ?_⟩ ⟨_,_,?_,?_,L2.Ax ?_ ?_ ?_⟩ ⟨_,_,?_,?_,L2.Ax ?_ ?_ ?_⟩ ⟨_,_,?_,?_,L2.Ax ?_ ?_ ?_⟩ ⟨_,_,?_,?_,L2.Ax ?_ ?_ ?_⟩ ⟨_,_,?_,L2.Ax ?_ ?_ ?_⟩ ⟨_,_,?_,L2.Ax ?_ ?_ ?_⟩ ⟨_,_,?_,L2.Ax ?_ ?_ ?_⟩ ⟨_,_,?_,L2.Ax ?_ ?_ ?_⟩ ⟨_,_,?_,L2.Ax ?_ ?_ ?_⟩
  all_goals try k_is
