import PyProof.Rows.All
import Wide.All
import OpenK.AllK
import Wide.FinOn
import PyProof.EqAt
import PyProof.EqKinds
import PyProof.TupleCall
import PyProof.DictWalks
import KE.KSortTup
import KE.KTryMore
import PyProof.NsDelKeeps
import PyProof.ReprStr
import PyProof.StrLawsRepr
import PyProof.Rows.FStr
import PyProof.ListMulRoad
import PyProof.FactsAll.tuple_2
import KE.KPairComp
import PyProof.AttrMissHeap
import PyProof.FactsAll.zip_1
import KE.KDictOf
import KE.KMinBuiltin
import PyProof.Rows.CallKwBuiltin
import KE.KEqDict
import PySem.Challenge.RW_stairsay_k22_too_long
set_option Elab.async false
set_option linter.all false
set_option maxRecDepth 100000
set_option maxHeartbeats 4000000
set_option bootstrap.genMatcherCode false
set_option genSizeOf false
noncomputable section
open PySem.W (Frag instObj lookIn plainGet hasDictIn findIn handedIn plainGet_of isFn plainOver takerIn makesIn emptyDict keepIn methodCall_KW callWith_K fnOf codeIn excIn exmOne clsIn kitOne OpenLaw WalkO WalkX nsIn mroIn mg_of)
open PyProof.Rows (callWith_type1 isub_int slot_tuple_getitem len_tuple boot_min boot_sum boot_all boot_list boot_tuple boot_int envOfC boot_isinstance boot_any)
open PySem.F (slot_tuple_add entry_tuple_add args_tuple_add_2 slot_int_rmul plainAttrs_list)
abbrev sR:=@PySem.wpAny_bind
abbrev sS:=@PySem.Heap.get?_push_of_some
abbrev sT:=@List.nodup_append
abbrev sU:=@List.length_map
abbrev sV:=@List.getElem?_eq_getElem
abbrev sW:=@List.map_cons
abbrev sX:=@List.size_toArray
abbrev sY:=@PySem.wpAny_pure
abbrev sZ:=@List.mem_cons_of_mem
abbrev tf:=@PySem.Heap.lt_size
abbrev tj:=@PySem.Heap.get?_push_size
abbrev tm:=@List.mem_cons
abbrev tq:=@Option.map_eq_some_iff
abbrev tu:=@List.getElem?_eq_some_iff
abbrev tw:=@Nat.lt_of_lt_of_le
abbrev tB:=@List.mem_append_right
abbrev tD:=@Nat.le_refl
abbrev tE:=@List.mem_append
abbrev tH:=@List.mem_append_left
abbrev tJ:=@List.nodup_nil
abbrev tK:=@List.mem_singleton
abbrev tL:=@List.map_append
abbrev tM:=@List.length_cons
abbrev tN:=@List.nodup_cons
abbrev tO:=@List.not_mem_nil
abbrev tQ:=@decide_eq_true
abbrev tR:=@Bool.false_ne_true
abbrev tS:=@decide_eq_false
abbrev tU:=@Nat.ne_of_lt
abbrev tV:=@Option.bind_eq_some_iff
abbrev tW:=@Bool.and_eq_true
abbrev tX:=@of_decide_eq_true
abbrev tY:=@Nat.le_trans
abbrev tZ:=@List.mem_cons_self
abbrev t5:=@List.length_append
abbrev t6:=@PySem.wpAny_field
abbrev t7:=@List.getElem?_map
abbrev t8:=@List.mem_map
abbrev t9:=@List.append_assoc
abbrev ua:=@List.map_map
abbrev ub:=@Option.bind_some
abbrev uc:=@PySem.Heap.get?_update_other
abbrev ud:=@List.lookup_cons
abbrev ue:=@List.nil_append
abbrev uf:=@Nat.lt_irrefl
abbrev ug:=@List.append_nil
abbrev uh:=@PySem.Heap.get?_update_self
abbrev uj:=@List.getElem?_set_self
abbrev uk:=@List.getElem?_set_ne
abbrev um:=@Array.getElem?_eq_getElem
abbrev uq:=@List.getElem?_eq_none
abbrev ur:=@List.all_eq_true
abbrev uu:=@List.mem_of_getElem?
abbrev uw:=@PySem.Heap.size_push
abbrev ux:=@List.length_range
abbrev uz:=@List.filterMap_cons
abbrev uA:=@List.length_take
abbrev uB:=@List.flatMap_cons
abbrev uC:=@Bool.eq_iff_iff
abbrev uD:=@Nat.lt_trans
abbrev uE:=@Array.length_toList
abbrev uF:=@List.eq_nil_of_length_eq_zero
abbrev uG:=@List.mem_range
abbrev uH:=@List.map_nil
abbrev uI:=@Array.getElem?_eq_some_iff
abbrev uJ:=@Array.getElem?_eq_none_iff
abbrev uK:=@List.map_flatMap
abbrev uL:=@List.cons_append
abbrev uM:=@List.replicate_succ
abbrev uN:=@Option.isSome_iff_exists
abbrev uO:=@List.getElem?_replicate
abbrev uP:=@List.any_cons
abbrev uQ:=@Bool.or_eq_true
abbrev uR:=@Nat.zero_le
abbrev uS:=@List.reverse_cons
abbrev uT:=@Array.getElem?_toList
abbrev uU:=@List.length_reverse
abbrev uV:=@List.getElem_of_mem
abbrev uW:=@List.getElem?_range
abbrev uX:=@Nat.le_of_lt
abbrev uY:=@List.mem_filterMap
abbrev uZ:=@List.getElem?_append_left
abbrev u0:=@List.drop_eq_getElem_cons
abbrev u7:=@List.getElem?_take_of_lt
abbrev u9:=@Int.toNat_natCast
abbrev va:=@List.pairwise_singleton
abbrev vb:=@List.mem_flatMap
abbrev vc:=@List.flatMap_nil
abbrev vd:=@List.any_eq_true
abbrev vf:=@List.take_of_length_le
abbrev Fg:=Frag
namespace L2
open PySem PySem.Spec PyProof.Rows
abbrev Key:=Sum Int Str
noncomputable def Hw:Key->Value->Bool
 |.inl k,v=>Value.isInt k v
 |.inr x,v=>Value.isStrOf x v
noncomputable def keyH(w:World):Key->Int
 |.inl k=>hashInt k
 |.inr x=>hashStr w x
theorem Be:∀{k:Key}{v:Value},Hw k v=true->(∃i t,k=Sum.inl i/\v=Value.int i t)\/(∃x t,k=Sum.inr x/\v=Value.str x t)
 |.inl i,v,h=>by obtain⟨t,e⟩:=Value.isInt_shape h;exact .inl ⟨i,t,rfl,e⟩
 |.inr x,v,h=>by obtain⟨t,e⟩:=Value.isStrOf_shape h;exact .inr ⟨x,t,rfl,e⟩
theorem OZ(i:Int)(t:Tok):Hw (.inl i) (.int i t)=true:=by simp[Hw,Value.isInt]
theorem OX(x:Str)(t:Tok):Hw (.inr x) (.str x t)=true:=by simp[Hw,Value.isStrOf]
theorem YR(a b:Int):decide ((Sum.inl a:Key)=Sum.inl b)=(a==b):=by
 by_cases e:a=b
 .subst e;simp
 .have h:¬(Sum.inl a:Key)=Sum.inl b:=λq=>e (Sum.inl.inj q)
  rw[tS h];exact(beq_eq_false_iff_ne.mpr e).symm
theorem YN(a b:Str):decide ((Sum.inr a:Key)=Sum.inr b)=decide (a=b):=by
 by_cases e:a=b
 .subst e;simp
 .have h:¬(Sum.inr a:Key)=Sum.inr b:=λq=>e (Sum.inr.inj q)
  rw[tS h,tS e]
theorem YQ(a:Int)(b:Str):decide ((Sum.inl a:Key)=Sum.inr b)=false:=tS (λq=>nomatch q)
theorem YO(a:Str)(b:Int):decide ((Sum.inr a:Key)=Sum.inl b)=false:=tS (λq=>nomatch q)
noncomputable def Bb(prog:Program)(w:World):PySem.KeyKind prog w Key where
 is:=Hw
 hash:=keyH w
 inj:=λv a b ha hb=>by
  rcases Be ha with⟨i,t,rfl,rfl⟩|⟨x,t,rfl,rfl⟩
  .rcases Be hb with⟨j,u,rfl,e⟩|⟨y,u,rfl,e⟩
   .injection e with e1 _;rw[e1]
   .exact nomatch e
  .rcases Be hb with⟨j,u,rfl,e⟩|⟨y,u,rfl,e⟩
   .exact nomatch e
   .injection e with e1 _;rw[e1]
 byValue:=λk v h=>by rcases Be h with⟨i,t,rfl,rfl⟩|⟨x,t,rfl,rfl⟩<;>rfl
 pyHash:=λhv h=>by
  rcases Be hv with⟨i,t,rfl,rfl⟩|⟨x,t,rfl,rfl⟩
  .exact wpAny_pyHash_int h
  .exact wpAny_pyHash_str h
 eqBool:=λhu hv h=>by
  rcases Be hu with⟨i,t,rfl,rfl⟩|⟨x,t,rfl,rfl⟩
  .rcases Be hv with⟨j,u,rfl,rfl⟩|⟨y,u,rfl,rfl⟩
   .rw[YR]at h;exact wpAny_eqBool_int h
   .rw[YQ]at h;exact SeqAt.EqAt.int_str i t y u _ _ _ _ h
  .rcases Be hv with⟨j,u,rfl,rfl⟩|⟨y,u,rfl,rfl⟩
   .rw[YO]at h;exact SeqAt.EqAt.str_int x t j u _ _ _ _ h
   .rw[YN]at h;exact wpAny_eqBool_str h
 «strs»:=λk x t v h=>by
  rcases Be h with⟨i,u,rfl,e⟩|⟨y,u,rfl,e⟩
  .exact nomatch e
  .injection e with e1 _
   subst e1;cases v<;>rfl
theorem Lm(prog:Program)(w:World)(i:Int)(t:Tok):(Bb prog w).is (.inl i) (.int i t)=true:=OZ i t
theorem Ll(prog:Program)(w:World)(x:Str)(t:Tok):(Bb prog w).is (.inr x) (.str x t)=true:=OX x t
inductive V where
 |v|o (b:Bool)|int (i:Int)|str (x:Str)|zE (b:Array UInt8)|yJ (b:UInt64)|ref (a:Addr)|ty (n:String)
 deriving DecidableEq
def RelV:V->Value->Prop
 |.v,u=>u=Value.none
 |.o b,u=>u=Value.bool b
 |.int i,u=>∃t,u=Value.int i t
 |.str x,u=>∃t,u=Value.str x t
 |.zE b,u=>∃t,u=Value.bytes b t
 |.yJ b,u=>∃t,u=Value.float b t
 |.ref a,u=>u=Value.ref a
 |.ty n,u=>u=Value.type n
abbrev Vals:List V->List Value->Prop:=Paired RelV
theorem Vals.length(r:Vals xs us):xs.length=us.length:=Paired.length r
theorem Vals.get:∀{xs:List V}{us:List Value}{i:Nat}{x:V},Vals xs us->xs[i]?=some x->∃u,us[i]?=some u/\RelV x u
 |_,_,_,_,.nil,e=>by simp at e
 |_,_,0,_,.cons r _,e=>by simp at e;subst e;exact⟨_,rfl,r⟩
 |_,_,i+1,x,.cons _ t,e=>by obtain⟨u,h1,h2⟩:=Vals.get t (by simpa using e);exact⟨u,by simpa using h1,h2⟩
theorem Vals.set(r:RelV x u):∀{xs:List V}{us:List Value}(i:Nat),Vals xs us->Vals (xs.set i x) (us.set i u)
 |_,_,_,.nil=>.nil
 |_,_,0,.cons _ t=>.cons r t
 |_,_,i+1,.cons q t=>.cons q (Vals.set r i t)
theorem Vals.append:∀{xs ys:List V}{us ws:List Value},Vals xs us->Vals ys ws->Vals (xs++ys) (us++ws)
 |_,_,_,_,.nil,s=>s
 |_,_,_,_,.cons r t,s=>.cons r (Vals.append t s)
theorem Vals.take:∀{xs:List V}{us:List Value}(n:Nat),Vals xs us->Vals (xs.take n) (us.take n)
 |_,_,0,_=>.nil
 |_,_,_+1,.nil=>.nil
 |_,_,n+1,.cons r t=>.cons r (Vals.take n t)
theorem Vals.drop:∀{xs:List V}{us:List Value}(n:Nat),Vals xs us->Vals (xs.drop n) (us.drop n)
 |_,_,0,r=>r
 |_,_,_+1,.nil=>.nil
 |_,_,n+1,.cons _ t=>Vals.drop n t
def A8:Option V->Option Value->Prop
 |some v,some u=>RelV v u
 |none,none=>True
 |_,_=>False
def KV{κ:Type}:List (κ×V)->List (κ×Value)->Prop:=Paired λ(p:κ×V)(q:κ×Value)=>p.1=q.1/\RelV p.2 q.2
noncomputable def kV:Key->V
 |.inl i=>.int i
 |.inr x=>.str x
inductive HO where
 |lst (xs:List V)
 |tup (xs:List V)
 |l (ah:List (Key×V))|dT (ah:List (List Key×V))
 |set (S:Int->Bool) (n:Nat)
 |ins (C dx:Addr) (fs:List (Str×V))
 |own (x:Addr)
 |xd (fs:List (Str×V))
 |met (f x:Addr)
 |yH (lo hi:Int)
 |frz (o:Obj) (u:HO)
 |yZ (ps:Array Value)
 |ext (φ:Heap->Prop)
abbrev Hp:=Addr->Option HO
noncomputable def upd(H:Hp)(a:Addr)(o:HO):Hp:=λb=>if b=a then some o else H b
theorem As:upd H a o a=some o:=by unfold upd;rw[if_pos rfl]
theorem Ap(h:b≠a):upd H a o b=H b:=by unfold upd;rw[if_neg h]
theorem Ja6{H:Hp}(h:H a=some o)(h':H b=some u)(d:o≠u):a≠b:=by intro e;subst e;rw[h]at h';exact d (Option.some.inj h')
theorem AX{H:Hp}(h:H a=some o)(h':H b=none):a≠b:=by intro e;subst e;rw[h]at h';cases h'
section
variable(P:Program)(w:World)
def BJ(H:Hp)(h:Heap)(a:Addr):HO->Prop
 |.lst xs=>xs.length<=sizeLine/\∃(ak:List Value)(n:Nat),Vals xs ak/\h.get? a=some {cls:=.type "list",data:=.seq ak.toArray n}
 |.tup xs=>xs.length<=sizeLine/\∃ak:List Value,Vals xs ak/\IsTup h a ak.toArray
 |.l ah=>ah.length<=sizeLine/\(a==sysModules)=false/\∃vs,KV ah vs/\h.DictOf (Bb P w) a vs
 |.dT ah=>ah.length<=sizeLine/\(a==sysModules)=false/\∃xs:List (List Key×Addr×Value),
   Paired (λ(p:List Key×V)(q:List Key×Addr×Value)=>p.1=q.1/\H q.2.1=some (.tup (p.1.map kV))/\RelV p.2 q.2.2) ah xs /\
   ∃o es ep,h.get? a=some o/\o.ExactDict/\o.data=.dict es ep/\es.toList=xs.map (entryOfKey (tupleKind (Bb P w)))/\(xs.map (·.1)).Nodup
 |.set S n=>h.SetOf (intKind P w) a S n
 |.ins C dx fs=>H dx=some (.own a)/\fs.length<=1000/\dx≠a/\h.get? a=some (instObj C dx) /\
   ∃mA,h.Ns1 dx mA/\(∀f,A8 (fs.lookup f) (mA f))/\PySem.Within mA (fs.map (·.1))
 |.own _=>∃o,h.get? a=some o
 |.xd fs=>∃mA,h.Ns1 a mA/\∀f,A8 (fs.lookup f) (mA f)
 |.yH lo hi=>∃t u v,h.get? a=some {cls:=.type "range",data:=.fields #[.int lo t,.int hi u,.int 1 v]}
 |.frz o u=>h.get? a=some o/\BJ H h a u
 |.yZ ps=>h.get? a=some {cls:=.none,data:=.fields ps}
 |.met f x=>h.get? a=some (PySem.W.methodObj (.ref f) (.ref x))
 |.ext φ=>φ h/\(∃o,h.get? a=some o)/\∀h1 h2:Heap,φ h1->(∀o,h1.get? a=some o->h2.get? a=some o)->φ h2
def HOk(H:Hp)(h:Heap):Prop:=∀a o,H a=some o->BJ P w H h a o
end
variable{P:Program}{w:World}{H H':Hp}{h h':Heap}{a:Addr}{o:HO}
theorem BJ.lt(x:BJ P w H h a o):a<h.objs.size:=by cases o with|lst xs=>obtain⟨_,_,_,_,e⟩:=x;exact tf e|tup xs=>obtain⟨_,_,_,p⟩:=x;exact p.lt|l ah=>obtain⟨_,_,_,_,o,_,_,e,_⟩:=x;exact tf e|dT ah=>obtain⟨_,_,_,_,o,_,_,e,_⟩:=x;exact tf e|set S n=>obtain⟨o,_,_,_,e,_⟩:=x;exact tf e|ins C dx fs=>obtain⟨_,_,_,e,_⟩:=x;exact tf e|own y=>obtain⟨_,e⟩:=x;exact tf e|xd fs=>obtain⟨_,⟨_,_,_,e,_⟩,_⟩:=x;exact tf e|yH lo hi=>obtain⟨_,_,_,e⟩:=x;exact tf e|frz ob u=>obtain⟨e,_⟩:=x;exact tf e|yZ ps=>exact tf (show h.get? a=some _ from x)|met f y=>exact tf (show h.get? a=some _ from x)|ext φ=>obtain⟨_,⟨_,e⟩,_⟩:=x;exact tf e
theorem Paired.Ja8:∀{l₁:List α}{l₂:List β},Paired F l₁ l₂->(∀a b,F a b->G a b)->Paired G l₁ l₂
 |_,_,.nil,_=>.nil
 |_,_,.cons r t,f=>.cons (f _ _ r) (Paired.Ja8 t f)
theorem BJ.N5(x:BJ P w H h a o)(k:∀b u,(b=a\/H b=some (.own a))->h.get? b=some u->h'.get? b=some u)
  (ho:∀b,H b=some (.own a)->H' b=some (.own a)) (ht:∀b xs,H b=some (.tup xs)->H' b=some (.tup xs)):BJ P w H' h' a o:=by
 induction o with|lst xs=>obtain⟨z,ak,n,r,e⟩:=x;exact⟨z,ak,n,r,k _ _ (.inl rfl) e⟩|tup xs=>obtain⟨z,ak,r,ob,e,c⟩:=x;exact⟨z,ak,r,ob,k _ _ (.inl rfl) e,c⟩|l ah=>obtain⟨z,y,vs,r,ob,es,ep,e,c⟩:=x;exact⟨z,y,vs,r,ob,es,ep,k _ _ (.inl rfl) e,c⟩|dT ah =>obtain⟨z,y,xs,r,ob,es,ep,e,c⟩:=x;exact⟨z,y,xs,Paired.Ja8 r λp q z=>⟨z.1,ht _ _ z.2.1,z.2.2⟩,ob,es,ep,k _ _ (.inl rfl) e,c⟩|set S n=>obtain⟨ob,es,ep,t,e,c⟩:=x;exact⟨ob,es,ep,t,k _ _ (.inl rfl) e,c⟩|ins C dx fs =>obtain⟨d,z,ne,e,mA,⟨od,es,ep,e2,c⟩,r⟩:=x;exact⟨ho _ d,z,ne,k _ _ (.inl rfl) e,mA,⟨od,es,ep,k _ _ (.inr d) e2,c⟩,r⟩|own y=>obtain⟨ob,e⟩:=x;exact⟨ob,k _ _ (.inl rfl) e⟩|xd fs=>obtain⟨mA,⟨od,es,ep,e,c⟩,r⟩:=x;exact⟨mA,⟨od,es,ep,k _ _ (.inl rfl) e,c⟩,r⟩|yH lo hi=>obtain⟨t,u,v,e⟩:=x;exact⟨t,u,v,k _ _ (.inl rfl) e⟩|frz ob u ih=>obtain⟨e,q⟩:=x;exact⟨k _ _ (.inl rfl) e,ih q⟩|yZ ps =>have e:=x;exact k a _ (.inl rfl) e|met f y =>have e:=x;exact k a _ (.inl rfl) e|ext φ=>obtain⟨p,⟨o,e⟩,st⟩:=x;exact⟨st _ _ p λo q=>k _ _ (.inl rfl) q,⟨o,k _ _ (.inl rfl) e⟩,st⟩
theorem HOk.lt(x:HOk P w H h)(e:H a=some o):a<h.objs.size:=(x a o e).lt
theorem HOk.fresh(x:HOk P w H h)(e:h.objs.size<=a):H a=none:=by cases q:H a with|none=>rfl|some u=>exact absurd (tw (x.lt q) e) (uf _)
theorem HOk.kept(x:HOk P w H h)(k:∀b u,h.get? b=some u->h'.get? b=some u):HOk P w H h':=λa o e =>(x a o e).N5 (λb u _ q=>k b u q) (λ_ q=>q) λ_ _ q=>q
theorem HOk.laid(x:HOk P w H h)(k:∀b u,h.get? b=some u->h'.get? b=some u)(hp:h.objs.size<=a)(new:BJ P w (upd H a o) h' a o):HOk P w (upd H a o) h':=λb u e=>by
 have hn:=x.fresh hp;by_cases hb:b=a
 .subst hb;rw[As]at e;cases e;exact new
 .rw[Ap hb]at e;exact(x b u e).N5 (λc v _ q=>k c v q) (λc q=>by rwa[Ap (AX q hn)]) λc xs q=>by rwa[Ap (AX q hn)]
def Rd(H:Hp)(a:Addr)(u:HO):Prop:=H a=some u\/∃o,H a=some (.frz o u)
theorem Rd.ok(r:Rd H a u)(x:HOk P w H h):BJ P w H h a u:=by
 rcases r with r|⟨o,r⟩
 .exact x a u r
 .obtain⟨_,q⟩:=x a _ r;exact q
def Mut:Option HO->Prop
 |some (.lst _)=>True
 |some (.l _)=>True
 |some (.dT _)=>True
 |some (.set _ _)=>True
 |some (.ins _ _ _)=>True
 |some (.ext _)=>True
 |_=>False
variable{x e:Addr}{o':HO}
theorem HOk.write(ok:HOk P w H h)(mu:Mut (H x))(he:e=x\/H e=some (.own x))(k:∀b u,b≠e->h.get? b=some u->h'.get? b=some u)(jc:∃u,h'.get? e=some u)
  (new:BJ P w (upd H x o') h' x o'):HOk P w (upd H x o') h':=λb u q=>by
 have j7:∀c y,H c=some (.own y)->c≠x:=λc y r z=>by subst z;rwa[r]at mu
 have me:∀c xs,H c=some (.tup xs)->c≠x:=λc xs r z=>by subst z;rwa[r]at mu
 by_cases hb:b=x
 .subst hb;rw[As]at q;cases q;exact new
 .rw[Ap hb]at q;by_cases fV:b=e
  .have q':H b=some (.own x):=by
    rcases he with z|z
    .exact absurd (fV.trans z) hb
    .rwa[fV]
   rw[q]at q';cases q';obtain⟨v,hv⟩:=jc;exact⟨v,by rwa[fV]⟩
  .refine(ok b u q).N5 (λc v hc r=>k c v ?_ r) (λc r=>by rwa[Ap (j7 c b r)]) λc xs r=>by rwa[Ap (me c xs r)]
   rcases hc with rfl|hc
   .exact fV
   .rintro rfl
    rcases he with z|z
    .exact j7 c b hc z
    .rw[hc]at z;cases z;exact hb rfl
structure Un(fs ex:List Addr)(H H':Hp)(h h':Heap):Prop where
 keep:∀b o,h.get? b=some o->H b=none->b∉fs->b∉ex->h'.get? b=some o
 slot:∀b o,h.get? b=some o->H b=none->b∈fs->b∉ex->∃sl,h'.get? b=some {o with slots:=sl}
 free:∀b o,h.get? b=some o->H b=none->b∉ex->H' b=none
 there:∀b o,h.get? b=some o->b∉ex->∃o',h'.get? b=some o'
 zH:∀b xs,H b=some (.tup xs)->H' b=some (.tup xs)
 zL:∀b o u,H b=some (.frz o u)->H' b=some (.frz o u)
 zI:∀b ps,H b=some (.yZ ps)->∃more,H' b=some (.yZ (ps++more))
variable{ar ex kX:List Addr}{H1 H2:Hp}{h1 h2:Heap}
section
variable{fs:List Addr}
theorem Un.any(u:Un fs ex H H1 h h1){b:Addr}{ob:Obj}(q:h.get? b=some ob)(n:H b=none)(hx:b∉ex):∃sl,h1.get? b=some {ob with slots:=sl}:=by
 by_cases hb:b∈fs
 .exact u.slot b ob q n hb hx
 .exact⟨ob.slots,u.keep b ob q n hb hx⟩
theorem Un.kept(k:∀b u,h.get? b=some u->h'.get? b=some u):Un fs ex H H h h' :=
 ⟨λb ob q _ _ _=>k b ob q,λb ob q _ _ _=>⟨ob.slots,k b ob q⟩,λ_ _ _ n _=>n,λb ob q _=>⟨ob,k b ob q⟩,λ_ _ q=>q,λ_ _ _ q=>q,λ_ ps q=>⟨#[],by rw[q];simp⟩⟩
theorem Un.refl:Un fs ex H H h h:=Un.kept λ_ _ q=>q
theorem Un.laid(k:∀b u,h.get? b=some u->h'.get? b=some u)(hp:h.objs.size<=a)(hn:H a=none):Un fs ex H (upd H a o) h h' where
 keep:=λb u q _ _ _=>k b u q
 slot:=λb u q _ _ _=>⟨u.slots,k b u q⟩
 free:=λb u q n _=>by rwa[Ap (tU (tw (tf q) hp))]
 there:=λb u q _=>⟨u,k b u q⟩
 zH:=λb xs q=>by rwa[Ap (AX q hn)]
 zL:=λb u xs q=>by rwa[Ap (AX q hn)]
 zI:=λb ps q=>⟨#[],by rw[Ap (AX q hn),q];simp⟩
theorem Un.write(mu:Mut (H x))(he:e=x\/H e=some (.own x))(k:∀b u,b≠e->h.get? b=some u->h'.get? b=some u)(jc:∃u,h'.get? e=some u):Un fs ex H (upd H x o) h h':=by
 have hx:∀b,H b=none->b≠x:=λb n z=>by subst z;rwa[n]at mu
 have hb:∀b,H b=none->b≠e:=λb n z=>by
  subst z;rcases he with r|r
  .exact hx b n r
  .rw[n]at r;cases r
 have hm:∀b u,H b=some u->¬Mut (some u)->b≠x:=λb u q nm z=>by subst z;rw[q]at mu;exact nm mu
 refine⟨λb u q n _ _=>k b u (hb b n) q,λb u q n _ _=>⟨u.slots,k b u (hb b n) q⟩,λb u q n _=>by rw[Ap (hx b n)];exact n,λb u q _=>?_,
  λb xs q=>by rw[Ap (hm b _ q λz=>z)];exact q,λb u xs q=>by rw[Ap (hm b _ q λz=>z)];exact q,λb ps q=>⟨#[],by rw[Ap (hm b _ q λz=>z),q];simp⟩⟩
 by_cases fV:b=e
 .subst fV;exact jc
 .exact⟨u,k b u fV q⟩
end
noncomputable def trk(h:Heap)(H:Hp):List Addr:=(List.range h.objs.size).filter λa=>(H a).isSome
noncomputable def RS(h:Heap)(H:Hp):Heap:=PySem.W.hideAll h (trk h H)
theorem Pc(h:Heap)(H:Hp):(RS h H).objs.size=h.objs.size:=PySem.W.hideAll_size _ _
theorem RQ{o}(e:h.get? b=some o)(n:H b=none):(RS h H).get? b=some o :=
 PySem.W.hideAll_get _ e λhm=>by have q:=(List.mem_filter.mp hm).2;rw[n]at q;simp at q
theorem Vu{o}(e:(RS h H).get? b=some o):h.get? b=some o/\H b=none:=by have e':=PySem.W.of_hideAll (trk h H) e;refine⟨e',?_⟩;cases q:H b with|none=>rfl|some x =>have hm:b∈trk h H:=List.mem_filter.mpr ⟨uG.mpr (tf e'),by simp[q]⟩;have z:(RS h H).get? b=none:=PySem.W.hideAll_none (trk h H) hm;rw[z]at e;cases e
structure Mod(K:Fg)(mg:Str->Option Value)(base:Heap):Prop where
 yR:K.In base
 glob:base.Ns mainGlobals mg
 blt:∃mb,base.Ns builtinsNs mb/\∀x:Str,x≠"__name__"->mb x=bootBuiltins x
 nolimit:base.NoLimit
structure Cx where
 prog:Program
 w:World
 K:Fg
 mg:Str->Option Value
 base:Heap
 A:Around
 N:List Str
 zV:Shared
 y0:Hp
 env:Env
 outer:List Env
 stack:List Env
 ex:List Addr
 fn:Str->Bool
 calm:Bool
 pn:List (Addr×Obj)
 xe:Value->Shared->Prop
noncomputable def frs(l:List Env):List Addr:=l.filterMap (·.frame)
abbrev Cx.fs(X:Cx):List Addr:=frs X.outer
def Vis(sc:Scope)(x:Str):Prop:=sc.names.lookup x=some .local\/sc.names.lookup x=some .cell\/sc.names.lookup x=some .free
def Loc(sc:Scope)(x:Str):Prop:=sc.names.lookup x=some .local\/sc.names.lookup x=some .cell
def Look(env:Env)(h:Heap)(m:Str->Option Value)(x:Str)(u:Value):Prop :=
 (env.kindOf x=some .local/\m x=some u)\/((env.kindOf x=some .cell\/env.kindOf x=some .free)/\∃c,env.cells.lookup x=some c/\h.IsCell c (some u))
structure Cx.Ok(X:Cx):Prop where
 mod:Mod X.K X.mg X.base
 kind:X.env.scope.kind=.function
 glob:X.env.globals=mainGlobals
 blt:X.env.builtins=builtinsNs
 above:X.zV.heap.objs.size<=X.env.locals
 inj:∀x y c,X.env.cells.lookup x=some c->X.env.cells.lookup y=some c->x=y
 has:∀x,(X.env.kindOf x=some .cell\/X.env.kindOf x=some .free)->∃c,X.env.cells.lookup x=some c
 yY:∀x c,X.fn x=true->X.env.cells.lookup x=some c->X.zV.heap.objs.size<=c
 hd:X.calm=true->X.A.handled=none
 frames:X.A.frames=some X.stack
 yQ:X.stack=X.outer\/(X.stack=X.env::X.outer/\X.env.frame=some X.env.locals)
 yM:∀b∈X.ex,b≠X.env.locals/\∀x c,X.env.cells.lookup x=some c->c≠b
 bs:∀b o,X.base.get? b=some o->X.zV.heap.get? b=some o/\X.y0 b=none
 zo:X.base.objs.size<=X.zV.heap.objs.size
 zi:∀b o,X.base.get? b=some o->b∉X.ex
 zm:∀b∈X.ex,b∉X.fs
 Mr:X.zV.heap.FunFrames X.base X.outer
 zb:∀b∈X.fs,X.y0 b=none
structure Inv(X:Cx)(ae:List (Addr×Obj))(U:List (Option V))(H:Hp)(s:Shared):Prop where
 ok:X.Ok
 os:s.os=X.zV.os
 bare:AllBare s.gens
 base:Un X.fs X.ex X.y0 H X.zV.heap s.heap
 loc:∃m,s.heap.Ns X.env.locals m/\∀(i:Nat)(x:Str)(v:V),X.N[i]?=some x->U[i]?=some (some v)->Vis X.env.scope x->∃u,RelV v u/\Look X.env s.heap m x u
 cell:∀x c,X.env.cells.lookup x=some c->∃v,s.heap.IsCell c v
 free:H X.env.locals=none
 zS:∀x c,X.env.cells.lookup x=some c->H c=none
 pin:∀p∈X.pn++ae,s.heap.get? p.1=some p.2/\H p.1=none/\p.1≠X.env.locals/\p.1∉X.fs/\∀v,p.2.data≠.cell v
 zZ:HOk X.prog X.w H s.heap
 len:U.length=X.N.length
variable{X:Cx}{ae:List (Addr×Obj)}{U:List (Option V)}{s:Shared}
theorem Cx.Ok.nofr{o}(ok:X.Ok)(e:X.base.get? b=some o):b∉X.fs:=λhb=>by have:=(ok.Mr.mem hb).1;rw[e]at this;cases this
theorem Inv.bs(I:Inv X ae U H s):∀b o,X.base.get? b=some o->s.heap.get? b=some o/\H b=none:=λb o e =>⟨I.base.keep b o (I.ok.bs b o e).1 (I.ok.bs b o e).2 (I.ok.nofr e) (I.ok.zi b o e),I.base.free b o (I.ok.bs b o e).1 (I.ok.bs b o e).2 (I.ok.zi b o e)⟩
theorem Inv.bk(I:Inv X ae U H s):∀b o,X.base.get? b=some o->s.heap.get? b=some o:=λb o e=>(I.bs b o e).1
theorem Inv.mod(I:Inv X ae U H s):Mod X.K X.mg X.base:=I.ok.mod
theorem Inv.kIn(I:Inv X ae U H s):X.K.In s.heap:=I.ok.mod.yR.keeps I.bk
theorem Inv.lt(I:Inv X ae U H s):X.env.locals<s.heap.objs.size:=let⟨_,hn,_⟩:=I.loc;hn.lt
theorem Inv.sz(I:Inv X ae U H s):X.zV.heap.objs.size<=s.heap.objs.size:=tY I.ok.above (uX I.lt)
theorem Inv.nofs(I:Inv X ae U H s)(h:s.heap.objs.size<=a):a∉X.fs:=λhb=>by obtain⟨_,o,ho,_⟩:=I.ok.Mr.mem hb;exact absurd (tw (tf ho) (tY I.sz h)) (uf _)
theorem Inv.cne(I:Inv X ae U H s):∀x c,X.env.cells.lookup x=some c->c≠X.env.locals:=λx c e z=>by obtain⟨v,o,ho,hd⟩:=I.cell x c e;obtain⟨m,⟨o',es,ep,cL,dM,_⟩,_⟩:=I.loc;rw[z,cL]at ho;cases ho;rw[dM]at hd;cases hd
theorem Inv.Mr(I:Inv X ae U H s):s.heap.FunFrames X.base X.outer:=by
 have all:∀(l:List Env),(∀b∈frs l,b∈X.fs)->X.zV.heap.FunFrames X.base l->s.heap.FunFrames X.base l:=by
  intro l
  induction l with
  |nil=>intro _ _;trivial
  |cons env r ih =>
   intro hs hl;obtain⟨hk,⟨L,o,hf,hn,ho,hd⟩,hr⟩:=hl;have hL:=hs L (by unfold frs;rw[uz,hf];exact tZ);obtain⟨sl,e⟩:=I.base.slot L o ho (I.ok.zb L hL) hL λz=>I.ok.zm L z hL
   exact⟨hk,⟨L,_,hf,hn,e,hd⟩,ih (λb hb=>hs b (by unfold frs;rw[uz,hf];exact sZ _ hb)) hr⟩
 exact all X.outer (λ_ hb=>hb) I.ok.Mr
theorem Inv.stack(I:Inv X ae U H s):s.heap.FunFrames X.base X.stack:=by
 rcases I.ok.yQ with e|⟨e,hf⟩
 .rw[e];exact I.Mr
 .rw[e];obtain⟨m,hn,_⟩:=I.loc;refine .cons (by rw[I.ok.kind];decide) hf hn ?_ I.Mr;exact Heap.get?_none_of_le (tY I.ok.zo I.ok.above)
theorem Inv.JB(I:Inv X ae U H s):∀b∈frs X.stack,b∈X.env.locals::X.fs:=λb hb=>by
 rcases I.ok.yQ with e|⟨e,hf⟩
 .rw[e]at hb;exact sZ _ hb
 .rw[e]at hb;unfold frs at hb;rwa[uz,hf]at hb
theorem Inv.K1(I:Inv X ae U H s):∀b∈frs X.stack,H b=none:=λb hb=>by
 rcases tm.mp (I.JB b hb)with e|hb
 .rw[e];exact I.free
 .obtain⟨_,o,ho,_⟩:=I.ok.Mr.mem hb;exact I.base.free b o ho (I.ok.zb b hb) λz=>I.ok.zm b z hb
theorem Inv.step{ch:List Addr}(I:Inv X ae U H s)
  (gB:∀b∈ch,(b∈X.ex\/X.zV.heap.objs.size<=b)/\b≠X.env.locals/\(∀x c,X.env.cells.lookup x=some c->c≠b)/\∀p∈X.pn++ae,p.1≠b)
  (keep:∀b o,b≠X.env.locals->b∉X.fs->b∉ch->s.heap.get? b=some o->H b=none->h'.get? b=some o)
  (slot:∀b o,b≠X.env.locals->b∈X.fs->b∉ch->s.heap.get? b=some o->H b=none->∃sl,h'.get? b=some {o with slots:=sl}) (free:∀b o,b∉ch->s.heap.get? b=some o->H b=none->H' b=none)
  (there:∀b o,b∉ch->s.heap.get? b=some o->∃o',h'.get? b=some o')
  (zH:∀b xs,H b=some (.tup xs)->H' b=some (.tup xs)) (zL:∀b o u,H b=some (.frz o u)->H' b=some (.frz o u)) (zI:∀b ps,H b=some (.yZ ps)->∃more,H' b=some (.yZ (ps++more)))
  (ns:∀m,s.heap.Ns X.env.locals m->h'.Ns X.env.locals m) (zZ:HOk X.prog X.w H' h') (hg:AllBare g') :
  Inv X ae U H' {s with heap:=h',gens:=g',drawn:=d',toks:=t' }:=by
 have jf:∀b o,X.zV.heap.get? b=some o->b≠X.env.locals:=λb o e=>tU (tw (tf e) I.ok.above)
 have kD:∀b o,X.zV.heap.get? b=some o->b∉X.ex->b∉ch:=λb o e hx hb=>by
  rcases(gB b hb).1 with z|z
  .exact hx z
  .exact absurd (tw (tf e) z) (uf _)
 have dC:∀x c,X.env.cells.lookup x=some c->∀v,s.heap.IsCell c v->h'.IsCell c v:=λx c e v ⟨o,ho,hd⟩=>by
  have j0:=λz=>(gB c z).2.2.1 x c e rfl
  by_cases hc:c∈X.fs
  .obtain⟨sl,q⟩:=slot c o (I.cne x c e) hc j0 ho (I.zS x c e);exact⟨_,q,hd⟩
  .exact⟨o,keep c o (I.cne x c e) hc j0 ho (I.zS x c e),hd⟩
 refine⟨I.ok,I.os,hg,⟨λb o e n hb hx=>?_,λb o e n hb hx=>?_,λb o e n hx=>?_,λb o e hx=>?_,λb xs e=>zH b xs (I.base.zH b xs e),λb o xs e=>zL b o xs (I.base.zL b o xs e),λb ps e=>?_⟩,?_,λx c e=>?_,?_,λx c e=>?_,λp hp=>?_,zZ,I.len⟩
 .exact keep b o (jf b o e) hb (kD b o e hx) (I.base.keep b o e n hb hx) (I.base.free b o e n hx)
 .obtain⟨sl,e1⟩:=I.base.slot b o e n hb hx;obtain⟨mw,e2⟩:=slot b _ (jf b o e) hb (kD b o e hx) e1 (I.base.free b o e n hx);exact⟨mw,e2⟩
 .obtain⟨o',e1⟩:=I.base.there b o e hx;exact free b o' (kD b o e hx) e1 (I.base.free b o e n hx)
 .obtain⟨o',e1⟩:=I.base.there b o e hx;exact there b o' (kD b o e hx) e1
 .obtain⟨m1,e1⟩:=I.base.zI b ps e;obtain⟨m2,e2⟩:=zI b _ e1;exact⟨m1++m2,by rw[e2,Array.append_assoc]⟩
 .obtain⟨m,hn,hl⟩:=I.loc;refine⟨m,ns m hn,λi x v e1 e2 e3=>?_⟩;obtain⟨u,r,l⟩:=hl i x v e1 e2 e3;refine⟨u,r,?_⟩;rcases l with l|⟨k,c,e,z⟩
  .exact .inl l
  .exact .inr ⟨k,c,e,dC x c e _ z⟩
 .obtain⟨v,z⟩:=I.cell x c e;exact⟨v,dC x c e v z⟩
 .obtain⟨m,⟨o,_,_,ho,_⟩,_⟩:=I.loc;exact free _ o (λz=>(gB _ z).2.1 rfl) ho I.free
 .obtain⟨v,o,ho,hd⟩:=I.cell x c e;exact free c o (λz=>(gB c z).2.2.1 x c e rfl) ho (I.zS x c e)
 .obtain⟨e,n,ne,nf,d⟩:=I.pin p hp;have j0:=λz=>(gB p.1 z).2.2.2 p hp rfl
  exact⟨keep p.1 p.2 ne nf j0 e n,free p.1 p.2 j0 e n,ne,nf,d⟩
theorem Inv.un(I:Inv X ae U H s)(u:Un X.fs [] H H' s.heap h')(zZ:HOk X.prog X.w H' h'):Inv X ae U H' {s with heap:=h',toks:=t' }:=by obtain⟨m,⟨o,es,ep,ho,r⟩,_⟩:=id I.loc;obtain⟨sl,hL⟩:=u.any ho I.free (by simp);exact I.step (ch:=[]) (λ_ z=>nomatch z) (λb o _ hb _ e n=>u.keep b o e n hb (by simp)) (λb o _ hb _ e n=>u.slot b o e n hb (by simp)) (λb o _ e n=>u.free b o e n (by simp)) (λb o _ e=>u.there b o e (by simp)) u.zH u.zL u.zI (λm' hm=>by obtain⟨o',kU,kS,cL,r'⟩:=hm;rw[ho]at cL;cases cL;exact⟨_,kU,kS,hL,r'⟩) zZ I.bare
theorem Inv.call(I:Inv X ae U H s)(u:Un (frs X.stack) ch H H' s.heap h')(zZ:HOk X.prog X.w H' h')(hg:AllBare g')
  (gB:∀b∈ch,(b∈X.ex\/X.zV.heap.objs.size<=b)/\b≠X.env.locals/\(∀x c,X.env.cells.lookup x=some c->c≠b)/\∀p∈X.pn++ae,p.1≠b) :
  Inv X ae U H' {s with heap:=h',gens:=g',drawn:=d',toks:=t' }:=by
 obtain⟨m,⟨o,es,ep,ho,r⟩,_⟩:=id I.loc;obtain⟨sl,hL⟩:=u.any ho I.free λz=>(gB _ z).2.1 rfl
 exact I.step gB (λb o hL hb hc e n=>u.keep b o e n (λz=>(tm.mp (I.JB b z)).elim hL hb) hc) (λb o _ _ hc e n=>u.any e n hc) (λb o hc e n=>u.free b o e n hc) (λb o hc e=>u.there b o e hc) u.zH u.zL u.zI (λm' hm=>by obtain⟨o',kU,kS,cL,r'⟩:=hm;rw[ho]at cL;cases cL;exact⟨_,kU,kS,hL,r'⟩) zZ hg
theorem Inv.turned(I:Inv X ae U H s)(k:∀b o,b≠it->s.heap.get? b=some o->h'.get? b=some o)(hn:H it=none)(hL:it≠X.env.locals)
  (h1:it∈X.ex\/X.zV.heap.objs.size<=it) (h2:∀x c,X.env.cells.lookup x=some c->c≠it) (h3:∀p∈X.pn++ae,p.1≠it):Inv X ae U H {s with heap:=h',toks:=t' }:=by
 have gm:∀b u,H b=some u->b≠it:=λb u e z=>by rw[z,hn]at e;cases e
 refine I.step (ch:=[it]) (λb hb=>?_) (λb o _ _ hc e _=>k b o (λz=>hc (by simp[z])) e) (λb o _ _ hc e _=>⟨o.slots,k b o (λz=>hc (by simp[z])) e⟩) (λ_ _ _ _ n=>n)
  (λb o hc e=>⟨o,k b o (λz=>hc (by simp[z])) e⟩) (λ_ _ e=>e) (λ_ _ _ e=>e) (λb ps e=>⟨#[],by rw[e];simp⟩) (λm hm=>?_) (λb u e=>?_) I.bare
 .have e:=by simpa using hb
  subst e;exact⟨h1,hL,h2,h3⟩
 .obtain⟨o,es,ep,ho,r⟩:=hm;exact⟨o,es,ep,k _ o (Ne.symm hL) ho,r⟩
 .refine(I.zZ b u e).N5 (λc v hc q=>k c v ?_ q) (λ_ q=>q) λ_ _ q=>q
  rcases hc with z|z
  .rw[z];exact gm b u e
  .exact gm c _ z
theorem Inv.tok(I:Inv X ae U H s)(t:Nat):Inv X ae U H {s with toks:=t}:=I.un Un.refl I.zZ
theorem Inv.kept(I:Inv X ae U H s)(k:∀b u,s.heap.get? b=some u->h'.get? b=some u):Inv X ae U H {s with heap:=h',toks:=t' }:=I.un (Un.kept k) (I.zZ.kept k)
theorem Inv.laid(I:Inv X ae U H s)(k:∀b u,s.heap.get? b=some u->h'.get? b=some u)(hp:s.heap.objs.size<=a)(new:BJ X.prog X.w (upd H a o) h' a o):
  Inv X ae U (upd H a o) {s with heap:=h',toks:=t' }:=I.un (Un.laid k hp (I.zZ.fresh hp)) (I.zZ.laid k hp new)
theorem Inv.write(I:Inv X ae U H s)(mu:Mut (H x))(he:e=x\/H e=some (.own x))(k:∀b u,b≠e->s.heap.get? b=some u->h'.get? b=some u)(jc:∃u,h'.get? e=some u)
  (new:BJ X.prog X.w (upd H x o) h' x o):Inv X ae U (upd H x o) {s with heap:=h',toks:=t' }:=I.un (Un.write mu he k jc) (I.zZ.write mu he k jc new)
theorem Inv.IC(I:Inv X ae U H s)(h:∀p∈pins',s.heap.get? p.1=some p.2/\H p.1=none/\p.1≠X.env.locals/\p.1∉X.fs/\∀v,p.2.data≠.cell v):Inv X pins' U H s :=
 ⟨I.ok,I.os,I.bare,I.base,I.loc,I.cell,I.free,I.zS,λp hp=>(tE.mp hp).elim (λz=>I.pin p (tH _ z)) (h p),I.zZ,I.len⟩
theorem IJ{x}{N:List Str}(hN:N.Nodup){i j:Nat}(a:N[i]?=some x)(b:N[j]?=some x):i=j:=by obtain⟨h1,e1⟩:=tu.mp a;obtain⟨h2,e2⟩:=tu.mp b;exact(List.getElem_inj hN).mp (e1.trans e2.symm)
theorem JA{x}(I:Inv X ae U H s)(hN:X.N.Nodup)(hi:X.N[i]?=some x)(hx:Loc X.env.scope x)(r:RelV v u)
  (h:∀s',Inv X ae (U.set i (some v)) H s'->(∃a,Heap.SameBut a s.heap s'.heap/\(a=X.env.locals\/X.env.cells.lookup x=some a))->Q () s') (hf:X.fn x=true\/X.env.scope.names.lookup x=some .local:=by first|exact .inl rfl|exact .inr rfl|assumption):wpAny M A (storeName X.env x u) Q E s:=by
 obtain⟨m,hn,hl⟩:=id I.loc;have cF:(X.env.scope.kind==.class||(X.env.scope.kind==.module&&X.env.locals !=X.env.globals))=false:=by rw[I.ok.kind];rfl
 have fX:i<U.length:=by rw[I.len];exact(tu.mp hi).1
 have cne:=I.cne;have fg:∀{a:Addr}{h':Heap},(∃o,s.heap.get? a=some o/\H a=none)->Heap.SameBut a s.heap h'->HOk X.prog X.w H h':=λ{a h'} ha hs b ob e=>by
  obtain⟨_,_,iu⟩:=ha;refine(I.zZ b ob e).N5 (λc w' hc q=>(hs.2 c ?_).trans q) (λ_ q=>q) λ_ _ q=>q
  rintro rfl
  rcases hc with rfl|hc
  .rw[iu]at e;cases e
  .rw[iu]at hc;cases hc
 rcases hx with hk|hk
 .refine wpAny_storeName_local hk hn (λh' qH hs=>?_) cF;obtain⟨oL,_,_,qL,_⟩:=id hn;refine h _ ⟨I.ok,I.os,I.bare,⟨λb o e n hb hx=>?_,λb o e n hb hx=>?_,I.base.free,λb o e hx=>?_,I.base.zH,I.base.zL,I.base.zI⟩,⟨_,qH,λj y v' e1 e2 e3=>?_⟩,λy c e=>?_,I.free,I.zS,λp hp=>?_,fg ⟨oL,qL,I.free⟩ hs,by simpa using I.len⟩ ⟨_,hs,.inl rfl⟩
  .exact(hs.2 b (tU (tw (tf e) I.ok.above))).trans (I.base.keep b o e n hb hx)
  .obtain⟨sl,e1⟩:=I.base.slot b o e n hb hx;exact⟨sl,(hs.2 b (tU (tw (tf e) I.ok.above))).trans e1⟩
  .obtain⟨o',e1⟩:=I.base.there b o e hx;exact⟨o',(hs.2 b (tU (tw (tf e) I.ok.above))).trans e1⟩
  .by_cases hj:j=i
   .subst hj;rw[hi]at e1;cases e1;rw[uj fX]at e2;cases e2;exact⟨u,r,.inl ⟨hk,by simp⟩⟩
   .rw[uk (Ne.symm hj)]at e2;obtain⟨u',r',q⟩:=hl j y v' e1 e2 e3;refine⟨u',r',?_⟩;rcases q with⟨k,e⟩|⟨k,c,e,z⟩
    .refine .inl ⟨k,?_⟩;have:y≠x:=λe=>hj (IJ hN e1 (e▸hi))
     simp[this,e]
    .exact .inr ⟨k,c,e,z.sameBut hs (cne y c e)⟩
  .obtain⟨w',z⟩:=I.cell y c e;exact⟨w',z.sameBut hs (cne y c e)⟩
  .obtain⟨e,n,ne,nf,d⟩:=I.pin p hp;exact⟨(hs.2 p.1 ne).trans e,n,ne,nf,d⟩
 .have ly:X.fn x=true:=by
   rcases hf with z|z
   .exact z
   .rw[z]at hk;cases hk
  obtain⟨c,hc⟩:=I.ok.has x (.inl hk);obtain⟨w',z⟩:=I.cell x c hc;refine wpAny_storeName_cell I.ok.kind hk hc z (λh' ko hs=>?_);obtain⟨oc,ku,qN⟩:=id z;refine h {s with heap:=h' } ⟨I.ok,I.os,I.bare,⟨λb o e n hb hx=>?_,λb o e n hb hx=>?_,I.base.free,λb o e hx=>?_,I.base.zH,I.base.zL,I.base.zI⟩,⟨m,hn.sameBut hs (Ne.symm (cne x c hc)),λj y v' e1 e2 e3=>?_⟩,λy c' e=>?_,I.free,I.zS,λp hp=>?_,fg ⟨oc,ku,I.zS x c hc⟩ hs,by simpa using I.len⟩ ⟨c,hs,.inr hc⟩
  .exact(hs.2 b (tU (tw (tf e) (I.ok.yY x c ly hc)))).trans (I.base.keep b o e n hb hx)
  .obtain⟨sl,e1⟩:=I.base.slot b o e n hb hx;exact⟨sl,(hs.2 b (tU (tw (tf e) (I.ok.yY x c ly hc)))).trans e1⟩
  .obtain⟨o',e1⟩:=I.base.there b o e hx;exact⟨o',(hs.2 b (tU (tw (tf e) (I.ok.yY x c ly hc)))).trans e1⟩
  .by_cases hj:j=i
   .subst hj;rw[hi]at e1;cases e1;rw[uj fX]at e2;cases e2;exact⟨u,r,.inr ⟨.inl hk,c,hc,ko⟩⟩
   .rw[uk (Ne.symm hj)]at e2;obtain⟨u',r',q⟩:=hl j y v' e1 e2 e3;refine⟨u',r',?_⟩;rcases q with q|⟨k,c',e,z'⟩
    .exact .inl q
    .refine .inr ⟨k,c',e,z'.sameBut hs ?_⟩
     rintro rfl
     exact hj (IJ hN e1 (I.ok.inj _ _ _ e hc▸hi))
  .by_cases hcc:c'=c
   .subst hcc;exact⟨_,ko⟩
   .obtain⟨w2,z2⟩:=I.cell y c' e;exact⟨w2,z2.sameBut hs hcc⟩
  .obtain⟨e,n,ne,nf,d⟩:=I.pin p hp;refine⟨(hs.2 p.1 ?_).trans e,n,ne,nf,d⟩;intro q;rw[q,ku]at e;have q':=Option.some.inj e;exact d w' (by rwa[<- q'])
theorem FH{x}(I:Inv X ae U H s)(hN:X.N.Nodup)(hi:X.N[i]?=some x)(hx:Loc X.env.scope x)(r:RelV v u)
  (h:∀s',Inv X ae (U.set i (some v)) H s'->Q () s') (hf:X.fn x=true\/X.env.scope.names.lookup x=some .local:=by first|exact .inl rfl|exact .inr rfl|assumption):wpAny M A (storeName X.env x u) Q E s :=
 JA I hN hi hx r (λs' I' _=>h s' I') hf
theorem Inv.Z1(I:Inv X ae U H s)(ho:s'.os=s.os)(u:Un (frs X.stack) ch H H' s.heap s'.heap)(zZ:HOk X.prog X.w H' s'.heap)(hg:AllBare s'.gens)
  (gB:∀b∈ch,(b∈X.ex\/X.zV.heap.objs.size<=b)/\b≠X.env.locals/\(∀x c,X.env.cells.lookup x=some c->c≠b)/\∀p∈X.pn++ae,p.1≠b):Inv X ae U H' s':=by
 obtain⟨h',g',d',t',o'⟩:=s';have e:=ho;subst e;exact I.call u zZ hg gB
abbrev XK:=Value->Option Addr->Hp->Prop
abbrev St:=List (Option V)
abbrev VK:=V->Hp->Prop
abbrev TE:=St->Hp->VK->Prop
abbrev TT:=St->Hp->(Bool->Hp->Prop)->Prop
abbrev TA:=St->Hp->(List V->Hp->Prop)->Prop
structure Ends where
 nx:St->Hp->Prop
 rt:VK
 bk:St->Hp->Prop:=λ_ _=>False
 ct:St->Hp->Prop:=λ_ _=>False
abbrev TS:=Ends->St->Hp->Prop
def EP(X:Cx)(ae:List (Addr×Obj))(U:St)(Q:VK)(u:Value)(s':Shared):Prop:=∃v H',Inv X ae U H' s'/\RelV v u/\Q v H'
def TP(X:Cx)(ae:List (Addr×Obj))(U:St)(Q:Bool->Hp->Prop)(b:Bool)(s':Shared):Prop:=∃H',Inv X ae U H' s'/\Q b H'
def AP(X:Cx)(ae:List (Addr×Obj))(U:St)(Q:List V->Hp->Prop)(us:List Value)(s':Shared):Prop:=∃vs H',Inv X ae U H' s'/\Vals vs us/\Q vs H'
def SP(X:Cx)(ae:List (Addr×Obj))(D:Ends)(f:Flow)(s':Shared):Prop :=
 match f with|.next=>∃au H',Inv X ae au H' s'/\D.nx au H'|.brk=>∃au H',Inv X ae au H' s'/\D.bk au H'|.cont=>∃au H',Inv X ae au H' s'/\D.ct au H'|.ret u=>∃v au H',Inv X ae au H' s'/\RelV v u/\D.rt v H'
def PE(X:Cx)(e:Expr)(t:TE):Prop :=
 ∀(ae:List (Addr×Obj))(s:Shared)(U:St)(H:Hp)(Q:VK),Inv X ae U H s->t U H Q->wpAny (model X.prog X.w) X.A (eval e X.env) (EP X ae U Q) X.xe s
def PT(X:Cx)(e:Expr)(t:TT):Prop :=
 ∀(ae:List (Addr×Obj))(s:Shared)(U:St)(H:Hp)(Q:Bool->Hp->Prop),Inv X ae U H s->t U H Q->wpAny (model X.prog X.w) X.A (isTrue e X.env (eval e X.env)) (TP X ae U Q) X.xe s
def PW(X:Cx)(e:Expr)(t:TT):Prop :=
 ∀(aW:Sem Value)(ae:List (Addr×Obj))(s:Shared)(U:St)(H:Hp)(Q:Bool->Hp->Prop),Inv X ae U H s->t U H Q->wpAny (model X.prog X.w) X.A (isTrue e X.env aW) (TP X ae U Q) X.xe s
theorem PW.pt{e}(h:PW X e t):PT X e t:=h _
def PA(X:Cx)(es:List Expr)(t:TA):Prop :=
 ∀(pos:Pos)(ae:List (Addr×Obj))(s:Shared)(U:St)(H:Hp)(Q:List V->Hp->Prop),Inv X ae U H s->t U H Q->wpAny (model X.prog X.w) X.A (spliced (backTo pos (starEach es X.env))) (AP X ae U Q) X.xe s
def PS(X:Cx)(st:Stmt)(t:TS):Prop :=
 ∀(ae:List (Addr×Obj))(s:Shared)(U:St)(H:Hp)(D:Ends),Inv X ae U H s->t D U H->wpAny (model X.prog X.w) X.A (exec st X.env) (SP X ae D) X.xe s
def PSs(X:Cx)(st:List Stmt)(t:TS):Prop :=
 ∀(ae:List (Addr×Obj))(s:Shared)(U:St)(H:Hp)(D:Ends),Inv X ae U H s->t D U H->wpAny (model X.prog X.w) X.A (execs st X.env) (SP X ae D) X.xe s
theorem thn(h:wpAny M A t Q E s)(hQ:∀a s,Q a s->Q' a s):wpAny M A t Q' E s:=wpAny_mono h hQ λ_ _ x=>x
variable{a b:Expr}{ta tb:TE}{pos:Pos}
variable{tA kI:TT}{rest:List Expr}
def Jz(i:Nat):TE:=λU H Q=>∃v,U[i]?=some (some v)/\Q v H
def tC(v:V):TE:=λ_ H Q=>Q v H
theorem Yb{x}(hN:X.N[i]?=some x)(hv:Vis X.env.scope x)(hd:(x==("__debug__":Str))=false:=by decide)(fm:(x==("__classdict__":Str))=false:=by decide):PE X (.Name x pos) (Jz i):=by
 intro ae s U H Q I h;obtain⟨v,e,h⟩:=h;obtain⟨m,hn,hl⟩:=I.loc;obtain⟨u,r,l⟩:=hl i x v hN e hv;have ba:EP X ae U Q u s:=⟨v,H,I,r,h⟩
 rcases l with⟨hk,hm⟩|⟨hk,c,hc,hcell⟩
 .exact wpAny_Name (wpAny_loadName_local I.ok.kind hk hn hm ba) hd
 .rcases hk with hk|hk
  .exact wpAny_Name (wpAny_loadName_cell I.ok.kind hk hc hcell ba) hd
  .exact wpAny_Name (wpAny_loadName_free I.ok.kind hk hc hcell ba fm) hd
theorem L5:PE X (.Constant (.int i) j pos) (tC (.int i)):=λ_ _ _ H _ I h=>wpAny_Constant_int ⟨.int i,H,I.tok _,⟨_,rfl⟩,h⟩
theorem JaX{b}:PE X (.Constant (.bool b) j pos) (tC (.o b)):=λ_ _ _ H _ I h=>Constant_bool ⟨.o b,H,I,rfl,h⟩
theorem Ye:PE X (.Constant .none j pos) (tC .v):=λ_ _ _ H _ I h=>Constant_none ⟨.v,H,I,rfl,h⟩
theorem Oo{x}:PE X (.Constant (.str x) j pos) (tC (.str x)):=λ_ _ _ H _ I h=>Calls.Constant_str ⟨.str x,H,I.tok _,⟨_,rfl⟩,h⟩
def Gl(X:Cx)(x:Str):Prop:=X.env.kindOf x=some .globalImplicit
theorem E7{x}(I:Inv X ae U H s)(hg:Gl X x)(hm:X.mg x=some u)(h:Q u s)
  (hd:(x==("__debug__":Str))=false:=by decide):wpAny (model X.prog X.w) X.A (eval (.Name x pos) X.env) Q E s :=
 Calls.Name_function_global I.ok.kind hg (Calls.loadGlobal_global (by rw[I.ok.glob];exact I.mod.glob.keeps I.bk) hm h) hd
theorem DR{x}(I:Inv X ae U H s)(hg:Gl X x)(hm:X.mg x=none)(hv:bootBuiltins x=some u)(h:Q u s)
  (hn:x≠"__name__":=by decide) (hd:(x==("__debug__":Str))=false:=by decide):wpAny (model X.prog X.w) X.A (eval (.Name x pos) X.env) Q E s:=by
 obtain⟨mb,h1,h2⟩:=I.mod.blt;exact Calls.Name_function_global I.ok.kind hg (Calls.loadGlobal_builtin (by rw[I.ok.glob];exact I.mod.glob.keeps I.bk) hm (by rw[I.ok.blt];exact h1.keeps I.bk) ((h2 x hn).trans hv) h) hd
theorem Oq{x}(hg:Gl X x)(hm:X.mg x=some u)(r:RelV v u)(hd:(x==("__debug__":Str))=false:=by decide):PE X (.Name x pos) (tC v) :=
 λ_ _ _ H _ I h=>E7 I hg hm ⟨v,H,I,r,h⟩ hd
theorem Vi{x}(hg:Gl X x)(hm:X.mg x=none)(hv:bootBuiltins x=some u)(r:RelV v u)(hn:x≠"__name__":=by decide)(hd:(x==("__debug__":Str))=false:=by decide):PE X (.Name x pos) (tC v) :=
 λ_ _ _ H _ I h=>DR I hg hm hv ⟨v,H,I,r,h⟩ hn hd
def Jck(t u:TT):TT:=λU H Q=>t U H λc H1=>if c=true then u U H1 Q else Q false H1
def tOr(t u:TT):TT:=λU H Q=>t U H λc H1=>if c=true then Q true H1 else u U H1 Q
def Jcf(t:TT):TT:=λU H Q=>t U H λc H1=>Q (!c) H1
theorem UT(ha:PT X a tA):PW X (.BoolOp .And [a] pos) tA:=by intro wh ae s U H Q I h;refine isTrue_and (thn (ha ae s U H Q I h) λc s1 e=>?_);cases c with|true=>exact isTrue_and_nil e|false=>exact e
theorem XX(ha:PT X a tA):PW X (.BoolOp .Or [a] pos) tA:=by intro wh ae s U H Q I h;refine isTrue_or (thn (ha ae s U H Q I h) λc s1 e=>?_);cases c with|false=>exact isTrue_or_nil e|true=>exact e
theorem XY(ha:PT X a tA)(hb:PW X (.BoolOp .And (b::rest) pos) kI):PW X (.BoolOp .And (a::b::rest) pos) (Jck tA kI):=by intro wh ae s U H Q I h;refine isTrue_and (thn (ha ae s U H _ I h) λc s1 ao=>?_);obtain⟨H1,I1,q1⟩:= ao;cases c with|true=>exact hb wh ae s1 U H1 Q I1 q1|false=>exact⟨H1,I1,q1⟩
theorem JaN(ha:PT X a tA)(hb:PW X (.BoolOp .Or (b::rest) pos) kI):PW X (.BoolOp .Or (a::b::rest) pos) (tOr tA kI):=by intro wh ae s U H Q I h;refine isTrue_or (thn (ha ae s U H _ I h) λc s1 ao=>?_);obtain⟨H1,I1,q1⟩:= ao;cases c with|true=>exact⟨H1,I1,q1⟩|false=>exact hb wh ae s1 U H1 Q I1 q1
theorem X0(ha:PT X a tA):PT X (.UnaryOp .Not a pos) (Jcf tA):=by intro ae s U H Q I h;exact isTrue_not (ha ae s U H (λc H1=>Q (!c) H1) I h)
def JaK(ta tb:TE):TE:=λU H Q=>ta U H λx H1=>∃c,x=.o c/\if c=true then tb U H1 Q else Q (.o false) H1
def Jce(ta tb:TE):TE:=λU H Q=>ta U H λx H1=>∃c,x=.o c/\if c=true then Q (.o true) H1 else tb U H1 Q
theorem Yd(h:PE X a t):PE X (.BoolOp op [a] pos) t:=λae s U H Q I hw=>BoolOp_one (h ae s U H Q I hw)
theorem Yj(ha:PE X a ta)(hb:PE X (.BoolOp .And (b::rest) pos) tb):PE X (.BoolOp .And (a::b::rest) pos) (JaK ta tb):=by intro ae s U H Q I h;refine BoolOp_and (thn (ha ae s U H _ I h) λv s1 ao=>?_);obtain⟨x,H1,I1,r1,q1⟩:= ao;obtain⟨c,rfl,q1⟩:=q1;cases r1;refine wpAny_truthy_bool ?_;cases c with|true=>exact hb ae s1 U H1 Q I1 q1|false=>exact⟨.o false,H1,I1,rfl,q1⟩
theorem JaS(ha:PE X a ta)(hb:PE X (.BoolOp .Or (b::rest) pos) tb):PE X (.BoolOp .Or (a::b::rest) pos) (Jce ta tb):=by intro ae s U H Q I h;refine BoolOp_or (thn (ha ae s U H _ I h) λv s1 ao=>?_);obtain⟨x,H1,I1,r1,q1⟩:= ao;obtain⟨c,rfl,q1⟩:=q1;cases r1;refine wpAny_truthy_bool ?_;cases c with|false=>exact hb ae s1 U H1 Q I1 q1|true=>exact⟨.o true,H1,I1,rfl,q1⟩
def SqL(K:Fg)(H:Hp)(a:Addr)(xs:List V):Prop :=
 Rd H a (.lst xs)\/
  ∃(o:Obj)(ak:Array Value)(n:Nat),K.lookup a=some o/\o.cls=.type "list"/\o.dict=none/\o.data=.seq ak n/\ak.size<=sizeLine/\Vals xs ak.toList
def SqT(K:Fg)(H:Hp)(a:Addr)(xs:List V):Prop :=
 Rd H a (.tup xs)\/
  ∃(o:Obj)(ak:Array Value)(n:Nat),K.lookup a=some o/\o.cls=.type "tuple"/\o.data=.seq ak n/\ak.size<=sizeLine/\Vals xs ak.toList
noncomputable def absV:Value->Option V
 |.none=>some .v
 |.bool b=>some (.o b)
 |.int i _=>some (.int i)
 |.str x _=>some (.str x)
 |.bytes b _=>some (.zE b)
 |.float b _=>some (.yJ b)
 |.ref a=>some (.ref a)
 |.type n=>some (.ty n)
 |_=>none
theorem RelV.abs{x}(r:RelV x u):absV u=some x:=by cases x with|v=>cases r;rfl|o _=>cases r;rfl|int _=>obtain⟨t,rfl⟩:=r;rfl|str _=>obtain⟨t,rfl⟩:=r;rfl|zE _=>obtain⟨t,rfl⟩:=r;rfl|yJ _=>obtain⟨t,rfl⟩:=r;rfl|ref _=>cases r;rfl|ty _=>cases r;rfl
theorem RelV.inj{x}{y}(r:RelV x u)(q:RelV y u):x=y:=Option.some.inj (r.abs.symm.trans q.abs)
theorem Vals.inj:∀{xs ys:List V}{us:List Value},Vals xs us->Vals ys us->xs=ys
 |_,_,_,.nil,.nil=>rfl
 |_,_,_,.cons r t,.cons r' t'=>by rw[r.inj r',Vals.inj t t']
variable{U:St}{a:Addr}{xs ys:List V}
theorem SqL.of{K:Fg}(h:H a=some (.lst xs)):SqL K H a xs:=.inl (.inl h)
theorem SqT.of{K:Fg}(h:H a=some (.tup xs)):SqT K H a xs:=.inl (.inl h)
theorem Inv.list(I:Inv X ae U H s)(h:SqL X.K H a xs):∃ak:List Value,Vals xs ak/\PlainL s.heap a ak.toArray/\xs.length<=sizeLine:=by
 rcases h with h|⟨o,ak,n,hk,hc,hd,hs,hz,r⟩
 .obtain⟨z,ak,n,r,e⟩:=h.ok I.zZ;exact⟨ak,r,⟨_,n,e,rfl,rfl,rfl⟩,z⟩
 .refine⟨ak.toList,r,⟨o,n,I.kIn a o hk,hc,hd,by simpa using hs⟩,?_⟩;have e:=r.length;simp only[uE]at e
  lia
theorem Inv.tuple(I:Inv X ae U H s)(h:SqT X.K H a xs):∃ak:List Value,Vals xs ak/\IsTup s.heap a ak.toArray/\xs.length<=sizeLine:=by
 rcases h with h|⟨o,ak,n,hk,hc,hs,hz,r⟩
 .obtain⟨z,ak,r,p⟩:=h.ok I.zZ;exact⟨ak,r,p,z⟩
 .refine⟨ak.toList,r,⟨o,I.kIn a o hk,hc,n,by simpa using hs⟩,?_⟩;have e:=r.length;simp only[uE]at e
  lia
theorem Inv.Me(I:Inv X ae U H s)(h:SqL X.K H a xs)(h':SqL X.K H a ys):xs=ys:=by
 obtain⟨ak,r,⟨o,n,e,_,_,d⟩,_⟩:=I.list h;obtain⟨aS,r',⟨o',n',e',_,_,d'⟩,_⟩:=I.list h';rw[e]at e';cases e';rw[d]at d';injection d' with d1 _;have:=by simpa using congrArg Array.toList d1
 subst this;exact r.inj r'
theorem Inv.Gd(I:Inv X ae U H s)(h:SqT X.K H a xs)(h':SqT X.K H a ys):xs=ys:=by
 obtain⟨ak,r,⟨o,e,_,n,d⟩,_⟩:=I.tuple h;obtain⟨aS,r',⟨o',e',_,n',d'⟩,_⟩:=I.tuple h';rw[e]at e';cases e';rw[d]at d';injection d' with d1 _;have:=by simpa using congrArg Array.toList d1
 subst this;exact r.inj r'
abbrev Cx.Gb(X:Cx)(E:Value->Shared->Prop):Cx:={X with xe:=E}
theorem Cx.Ok.Gb(ok:X.Ok)(E:Value->Shared->Prop):(X.Gb E).Ok :=
 ⟨ok.mod,ok.kind,ok.glob,ok.blt,ok.above,ok.inj,ok.has,ok.yY,ok.hd,ok.frames,ok.yQ,ok.yM,ok.bs,ok.zo,ok.zi,ok.zm,ok.Mr,ok.zb⟩
theorem Cx.Ok.Ei(ok:(X.Gb E).Ok):X.Ok :=
 ⟨ok.mod,ok.kind,ok.glob,ok.blt,ok.above,ok.inj,ok.has,ok.yY,ok.hd,ok.frames,ok.yQ,ok.yM,ok.bs,ok.zo,ok.zi,ok.zm,ok.Mr,ok.zb⟩
variable{E:Value->Shared->Prop}
theorem Inv.Gb(I:Inv X ae U H s)(E:Value->Shared->Prop):Inv (X.Gb E) ae U H s:=⟨I.ok.Gb E,I.os,I.bare,I.base,I.loc,I.cell,I.free,I.zS,I.pin,I.zZ,I.len⟩
theorem Inv.Ei(I:Inv (X.Gb E) ae U H s):Inv X ae U H s:=⟨I.ok.Ei,I.os,I.bare,I.base,I.loc,I.cell,I.free,I.zS,I.pin,I.zZ,I.len⟩
theorem SP.Ei(h:SP (X.Gb E) ae D f s'):SP X ae D f s':=by cases f with|next=>obtain⟨au,H',I,q⟩:=h;exact⟨au,H',I.Ei,q⟩|brk=>obtain⟨au,H',I,q⟩:=h;exact⟨au,H',I.Ei,q⟩|cont=>obtain⟨au,H',I,q⟩:=h;exact⟨au,H',I.Ei,q⟩|ret u=>obtain⟨v,au,H',I,r,q⟩:=h;exact⟨v,au,H',I.Ei,r,q⟩
variable{st:Stmt}{rest:List Stmt}{t u:TS}{e:Expr}{te:TE}
def JaE:TS:=λD U H=>D.nx U H
def JbM(t u:TS):TS:=λD U H=>t {D with nx:=u D} U H
theorem UX:PSs X [] JaE:=λ_ _ U H _ I h=>wpAny_execs_nil ⟨U,H,I,h⟩
theorem Q1(h1:PS X st t)(h2:PSs X rest u):PSs X (st::rest) (JbM t u):=by intro ae s U H D I h;refine wpAny_execs_cons (thn (h1 ae s U H {D with nx:=u D} I h) λf s1 q=>?_);cases f with|next =>obtain⟨au,H',I',q⟩:=q;exact h2 ae s1 au H' D I' q|ret v=>exact q|brk=>exact q|cont=>exact q
theorem UW(h1:PS X st t):PSs X [st] t:=by intro ae s U H D I h;refine wpAny_execs_cons (thn (h1 ae s U H D I h) λf s1 q=>?_);cases f with|next=>exact wpAny_execs_nil q|ret v=>exact q|brk=>exact q|cont=>exact q
theorem Inv.quiet(I:Inv X ae U H s):interactive X.env=false:=by simp[interactive,I.ok.kind]
def JaH(te:TE):TS:=λD U H=>te U H λ_ H1=>D.nx U H1
theorem UY(he:PE X e te)(hs:swapsWith e none pos.line X.env=pure false:=by rfl):PS X (.Expr e pos) (JaH te):=by intro ae s U H D I h;exact wpAny_Expr_any (thn (he ae s U H _ I h) λv s1 ⟨x,H1,I1,r1,q1⟩=>⟨U,H1,I1,q1⟩) I.quiet hs
def Jcd(te:TE):TS:=λD U H=>te U H D.rt
theorem X2(he:PE X e te):PS X (.Return (some e) pos) (Jcd te):=by intro ae s U H D I h;exact wpAny_Return_some (thn (he ae s U H _ I h) λv s1 ⟨x,H1,I1,r1,q1⟩=>⟨x,U,H1,I1,r1,q1⟩)
def Jch(c:TT)(t u:TS):TS:=λD U H=>c U H λb H1=>if b=true then t D U H1 else u D U H1
theorem JaO{a}{b}(hc:PT X c tc)(ha:PSs X a t)(hb:PSs X b u):PS X (.If c a b pos) (Jch tc t u):=by intro ae s U H D I h;refine wpAny_If (thn (hc ae s U H _ I h) λd s1 ao=>?_);obtain⟨H1,I1,q1⟩:= ao;cases d with|true=>exact ha ae s1 U H1 D I1 q1|false=>exact hb ae s1 U H1 D I1 q1
def Xs:TS:=λ_ _ _=>False
theorem Q4:PS X st Xs:=λ_ _ _ _ _ _ h=>h.elim
abbrev TG:=V->St->Hp->(St->Hp->Prop)->Prop
abbrev TGs:=List V->St->Hp->(St->Hp->Prop)->Prop
def PG(X:Cx)(target:Expr)(t:TG):Prop :=
 ∀(ae:List (Addr×Obj))(s:Shared)(U:St)(H:Hp)(v:V)(u:Value)(Q:St->Hp->Prop),Inv X ae U H s->RelV v u->t v U H Q ->
  wpAny (model X.prog X.w) X.A (assign target X.env u) (λ_ s'=>∃au H',Inv X ae au H' s'/\Q au H') X.xe s
def PGs(X:Cx)(ts:List Expr)(t:TGs):Prop :=
 ∀(ae:List (Addr×Obj))(s:Shared)(U:St)(H:Hp)(vs:List V)(us:List Value)(Q:St->Hp->Prop),Inv X ae U H s->Vals vs us->t vs U H Q ->
  wpAny (model X.prog X.w) X.A (assignInOrder ((assignEach ts X.env).map (·.2)) us) (λ_ s'=>∃au H',Inv X ae au H' s'/\Q au H') X.xe s
abbrev Xj:=V->V->V->Hp->(Hp->Prop)->Prop
def Tf(X:Cx)(t:Xj):Prop :=
 ∀(ae:List (Addr×Obj))(s:Shared)(U:St)(H:Hp)(o i v:V)(ov iv u:Value)(Q:Hp->Prop),Inv X ae U H s->RelV o ov->RelV i iv->RelV v u->t o i v H Q ->
  wpAny (model X.prog X.w) X.A (setItem ov iv u) (λ_ s'=>∃H',Inv X ae U H' s'/\Q H') X.xe s
def Se(i:Nat):TG:=λv U H Q=>Q (U.set i (some v)) H
theorem U8{x}(hN:X.N.Nodup)(hi:X.N[i]?=some x)(hx:Loc X.env.scope x)(hf:X.fn x=true\/X.env.scope.names.lookup x=some .local:=by first|exact .inl rfl|exact .inr rfl|assumption):PG X (.Name x pos) (Se i):=by intro ae s U H v u Q I r h;exact wpAny_assign_Name (FH I hN hi hx r (λs' I'=>⟨_,H,I',h⟩) hf)
noncomputable def gNil:TGs:=λvs U H Q=>vs=[]/\Q U H
noncomputable def Zb(t:TG)(u:TGs):TGs:=λvs U H Q=>∃v r,vs=v::r/\t v U H λau H'=>u r au H' Q
theorem U7:PGs X [] gNil:=by intro ae s U H vs us Q I r h;obtain⟨e,h⟩:=h;subst e;cases r;exact assignInOrder_nil ⟨U,H,I,h⟩
theorem Rb{t}{u}(h1:PG X e t)(h2:PGs X es u)
  (hs:(assignEach (e::es) X.env).map (·.2)=assign e X.env::(assignEach es X.env).map (·.2):=by rfl):PGs X (e::es) (Zb t u):=by
 intro ae s U H vs us Q I r h;obtain⟨v,vr,e1,h⟩:=h;subst e1;cases r with|cons r rr =>rw[hs];refine assignInOrder_cons (thn (h1 ae s U H _ _ _ I r h) λ_ s1 ao=>?_);obtain⟨fG,H1,I1,q1⟩:= ao;exact h2 ae s1 fG H1 _ _ Q I1 rr q1
def gTup(K:Fg)(n:Nat)(t:TGs):TG:=λv U H Q=>∃a xs,v=.ref a/\SqT K H a xs/\xs.length=n/\t xs U H Q
theorem X9{t}(hc:X.calm=true)(h:PGs X es t)
  (hn:(assignEach es X.env).length=n:=by rfl) (bL:(assignEach es X.env).findIdx? (·.1)=none:=by rfl):PG X (.Tuple es k pos) (gTup X.K n t):=by
 intro ae s U H v u Q I r hw;obtain⟨a,xs,e1,hq,hl,hw⟩:=hw;subst e1;cases r;obtain⟨ak,rv,ht,hz⟩:=I.tuple hq;refine assign_Tuple_tuple (I.ok.hd hc) ht (by simp[hn,<- hl,rv.length]) bL λh' hx=>?_
 have I1:Inv X ae U H {s with heap:=h' }:=I.kept λb o e=>hx b o (tU (tf e)) e
 exact h ae _ U H xs _ Q I1 (by simpa using rv) hw
def JbZ(to ti:TE)(t:Xj):TG:=λv U H Q=>to U H λo H1=>ti U H1 λi H2=>t o i v H2 λH3=>Q U H3
theorem Ya{o}{t}(ho:PE X o to)(hi:PE X i ti)(hs:Tf X t)
  (ha:∀v,assign (.Subscript o i pos) X.env v=(do
   let ov <- holding [v] (eval o X.env)
   let iv <- holding [v,ov] (eval i X.env)
   standAt pos
   holding [v,ov,iv] (setItem ov iv v)
   release [v,ov,iv] []):=by intro _;rfl):PG X (.Subscript o i pos) (JbZ to ti t):=by
 intro ae s U H v u Q I r h;refine sR (wpAny_holding (thn (ho ae s U H _ I h) λov s1 ao=>?_));obtain⟨x,H1,I1,r1,q1⟩:= ao;refine sR (wpAny_holding (thn (hi ae s1 U H1 _ I1 q1) λiv s2 ao=>?_));obtain⟨y,H2,I2,r2,q2⟩:= ao;refine sR (wpAny_standAt (sR (wpAny_holding (thn (hs ae s2 U H2 x y v ov iv u _ I2 r1 r2 r q2) λ_ s3 ao=>?_))));obtain⟨H3,I3,q3⟩:= ao;exact wpAny_release ⟨U,H3,I3,q3⟩
def Xy(te:TE)(g:TG):TS:=λD U H=>te U H λx H1=>g x U H1 D.nx
theorem Tw(he:PE X e te)(hg:PG X tg g)(hs:swapsWithSole [tg] e pos.line X.env=pure false:=by rfl)(hw:swappedStores [tg] e X.env=pure none:=by rfl)
  (h1:(assignEach [tg] X.env).map (·.2)=[assign tg X.env]:=by rfl):PS X (.Assign [tg] e pos) (Xy te g):=by
 intro ae s U H D I h;refine wpAny_Assign_stores (thn (he ae s U H _ I h) λv s1 ao=>?_) hs hw;obtain⟨x,H1,I1,r1,q1⟩:= ao;rw[h1];exact thn (hg ae s1 U H1 x v _ I1 r1 q1) λ_ s2 q=>q
theorem X1{x}(hN:X.N.Nodup)(hi:X.N[i]?=some x)(hx:Loc X.env.scope x)(he:PE X e te)(hs:swapsWith e (some (.Name x bc)) pos.line X.env=pure false:=by rfl)(hf:X.fn x=true\/X.env.scope.names.lookup x=some .local:=by first|exact .inl rfl|exact .inr rfl|assumption):
  PS X (.Assign [.Name x bc] e pos) (Xy te (Se i)):=by
 intro ae s U H D I h;refine wpAny_Assign_Name (thn (he ae s U H _ I h) λv s1 ao=>?_) hs;obtain⟨y,H1,I1,r1,q1⟩:= ao;exact FH I1 hN hi hx r1 (λs2 I2=>⟨_,H1,I2,q1⟩) hf
def Xo(c:TT)(tb:TS):TS:=λD U H=>∃W:Nat->St->Hp->Prop,(∃m,W m U H)/\∀m U H,W m U H ->
 c U H λb H1=>if b=true then ∃N:St->Hp->Prop,(∀au H',N au H'->∃m',m'<m/\W m' au H')/\tb {D with nx:=N,ct:=N,bk:=D.nx} U H1 else D.nx U H1
theorem Q2{tb}(hp:PassesOwn (model X.prog X.w) X.A X.env X.xe)(hc:PT X c tc)(hb:PSs X body tb):PS X (.While c body [] pos) (Xo tc tb):=by
 intro ae s U H D I h;obtain⟨W,⟨m0,w0⟩,turn⟩:=h;refine wpAny_While (codeAny_whileLoop (λn s'=>∃au H',Inv X ae au H' s'/\W n au H') ?_ m0 ⟨U,H,I,w0⟩)
 rintro n s1 ⟨fG,H1,I1,w1⟩
 refine wpAny_passesOwn hp (thn (hc ae s1 fG H1 _ I1 (turn n fG H1 w1)) λb s2 ao=>?_);obtain⟨H2,I2,q2⟩:= ao;cases b with
 |true =>obtain⟨N,hN,q2⟩:=q2;refine wpAny_passesOwn hp (thn (hb ae s2 fG H2 _ I2 q2) λf s3 q3=>?_);cases f with|next =>obtain⟨fI,H3,I3,n3⟩:=q3;obtain⟨m',hm,w3⟩:=hN fI H3 n3;exact⟨m',hm,fI,H3,I3,w3⟩|cont =>obtain⟨fI,H3,I3,n3⟩:=q3;obtain⟨m',hm,w3⟩:=hN fI H3 n3;exact⟨m',hm,fI,H3,I3,w3⟩|brk=>exact q3|ret v=>exact q3
 |false =>exact wpAny_execs_nil ⟨fG,H2,I2,q2⟩
structure It where
 go:Nat->Hp->Prop
 yL:Nat->Hp->V->Hp->Prop
 stop:Nat->Hp->Prop
def KS(X:Cx)(ae:List (Addr×Obj))(H:Hp)(b:Addr):Prop :=
 H b=none/\b≠X.env.locals/\b∉X.fs/\(b∈X.ex\/X.zV.heap.objs.size<=b)/\(∀x c,X.env.cells.lookup x=some c->c≠b)/\∀p∈X.pn++ae,p.1≠b
theorem Inv.Sn{b}(I:Inv X ae U H s)(hb:s.heap.objs.size<=b)(hn:H' b=none):KS X ae H' b:=by
 refine⟨hn,Nat.ne_of_gt (tw I.lt hb),I.nofs hb,.inr (tY I.sz hb),λx c e z=>?_,λp hp z=>?_⟩
 .obtain⟨v,q⟩:=I.cell x c e;exact absurd (tw q.lt (by rwa[z])) (uf _)
 .exact absurd (tw (tf (I.pin p hp).1) (by rwa[z])) (uf _)
structure Turn(P:Program)(w:World)(K:Fg)(tg:Expr)(J:It)(fp:List Addr)(it:Addr)(tn:Nat->Heap->Prop):Prop where
 mem:it∈fp
 obj:∀i h,tn i h->∀b∈fp,∃o,h.get? b=some o/\∀v,o.data≠.cell v
 keep:∀i h h',tn i h->(∀b∈fp,∀o,h.get? b=some o->h'.get? b=some o)->tn i h'
 item:∀(X:Cx),X.prog=P->X.w=w->X.K=K->X.calm=true->∀(i:Nat)(ae:List (Addr×Obj))(s:Shared)(U:St)(H:Hp)(E:Value->Shared->Prop),Inv X ae U H s->(∀b∈fp,KS X ae H b)->tn i s.heap->J.go i H ->
  wpAny (model P w) X.A (pyNext (.ref it)) (λr s1=>∃u,r=some u /\
   wpAny (model P w) X.A (letOwnedTupleGo tg (.ref it) u) (λ_ s2=>∃x H',Inv X ae U H' s2/\RelV x u/\J.yL i H x H'/\tn (i+1) s2.heap/\∀b∈fp,H' b=none) E s1) E s
 done:∀(X:Cx),X.prog=P->X.w=w->X.K=K->X.calm=true->∀(i:Nat)(ae:List (Addr×Obj))(s:Shared)(U:St)(H:Hp)(E:Value->Shared->Prop),Inv X ae U H s->(∀b∈fp,KS X ae H b)->tn i s.heap->J.stop i H ->
  wpAny (model P w) X.A (pyNext (.ref it)) (λr s1=>r=none/\Inv X ae U H s1) E s
 self:∀(A:Around)(i:Nat)(s:Shared)(Q:Value->Shared->Prop)(E:Value->Shared->Prop),tn i s.heap->Q (.ref it) s->wpAny (model P w) A (pyIter (.ref it)) Q E s
abbrev TI:=St->Hp->(It->Hp->Prop)->Prop
def PIE(X:Cx)(ae:List (Addr×Obj))(U:St)(tg:Expr)(R:It->Hp->Prop)(kz:Value)(s2:Shared):Prop :=
 ∃(it:Addr)(fp:List Addr)(tn:Nat->Heap->Prop)(J:It)(H':Hp),kz=.ref it/\Inv X ae U H' s2/\Turn X.prog X.w X.K tg J fp it tn/\tn 0 s2.heap/\(∀b∈fp,KS X ae H' b)/\R J H'
def PI(X:Cx)(tg aA:Expr)(wi:TI):Prop :=
 ∀(ae:List (Addr×Obj))(s:Shared)(U:St)(H:Hp)(R:It->Hp->Prop),Inv X ae U H s->wi U H R ->
  wpAny (model X.prog X.w) X.A (eval aA X.env) (λv s1=>wpAny (model X.prog X.w) X.A (pyIter v) (PIE X ae U tg R) X.xe s1) X.xe s
theorem R7{u}{o}(ho:s.heap.get? it=some o)(hc:o.cls=.type n)(hd:o.data=.fields vs)
    (hn:["enumerate","zip","dict_itemiterator","dict_reverseitemiterator","odict_iterator","itertools.zip_longest","itertools.pairwise"].contains n=false) (hQ:Q () s):wpAny M A (letOwnedTupleGo tg (.ref it) u) Q E s:=by
  cases tg<;>first
    |exact sY hQ
    | (cases u <;> first
        |exact sY hQ
        | (refine sR (wpAny_load ho ?_)
           rw[hc,hd];show wpAny M A (if(["enumerate","zip","dict_itemiterator","dict_reverseitemiterator","odict_iterator","itertools.zip_longest","itertools.pairwise"].contains n&&vs[0]?==some (rawInt _))=true then _ else _) Q E s;rw[if_neg (by intro h;rw[hn,Bool.false_and]at h;cases h)];exact sY hQ))
def Itl(K:Fg)(a:Addr):It :=
 ⟨λi H=>∃xs x,SqL K H a xs/\xs[i]?=some x,λi H x H'=>H'=H/\∀xs,SqL K H a xs->xs[i]?=some x,λi H=>∃xs,SqL K H a xs/\xs.length<=i⟩
def Itt(K:Fg)(a:Addr):It :=
 ⟨λi H=>∃xs x,SqT K H a xs/\xs[i]?=some x,λi H x H'=>H'=H/\∀xs,SqT K H a xs->xs[i]?=some x,λi H=>∃xs,SqT K H a xs/\xs.length<=i⟩
def Itr(lo:Int)(n:Nat):It:=⟨λi _=>i<n,λi H x H'=>H'=H/\x=.int (lo+i),λi _=>n<=i⟩
theorem NT{K:Fg}(a it:Addr):Turn P w K tg (Itl K a) [it] it (λi h=>h.IsListIter it a i) where
 mem:=by simp
 obj:=λi h st b hb=>by
  have e:=by simpa using hb
  subst e;obtain⟨o,e,c,d⟩:=st;exact⟨o,e,λv z=>by rw[d]at z;cases z⟩
 keep:=λi h h' st k=>st.at λo e=>k it (by simp) o e
 item:=by
  intro X hP hw hK hc i ae s U H E I hf st hg;subst hP hw hK;obtain⟨xs,x,hq,hx⟩:=hg;obtain⟨ak,rv,p,hz⟩:=I.list hq;obtain⟨u,hu,ru⟩:=rv.get hx;obtain⟨f0,f1,f2,f3,f4,f5⟩:=hf it (by simp);refine wpAny_pyNext_list_item st p.isList (by simpa using hu) λh' eZ sb=>?_
  have I1:Inv X ae U H {s with heap:=h' }:=I.turned (λb o hb e=>(sb.2 b hb).trans e) f0 f1 f3 f4 f5;obtain⟨o,e,c,d⟩:=id eZ;exact⟨u,rfl,R7 e c d (by decide) ⟨x,H,I1,ru,⟨rfl,λys hy=>by rwa[I.Me hy hq]⟩,eZ,λb hb=>(hf b hb).1⟩⟩
 done:=by intro X hP hw hK hc i ae s U H E I hf st hg;subst hP hw hK;obtain⟨xs,hq,hx⟩:=hg;obtain⟨ak,rv,p,hz⟩:=I.list hq;obtain⟨f0,f1,f2,f3,f4,f5⟩:=hf it (by simp);have hl:=rv.length;exact wpAny_pyNext_list_end (I.ok.hd hc) st p.isList (by simp;lia) λh' eb=>⟨rfl,I.turned (λb o hb e=>eb b o hb e) f0 f1 f3 f4 f5⟩
 self:=λ_ _ _ _ _ st h=>wpAny_pyIter_listiter st h
theorem MM{K:Fg}(a it:Addr):Turn P w K tg (Itt K a) [it] it (λi h=>h.IsTupleIter it a i) where
 mem:=by simp
 obj:=λi h st b hb=>by
  have e:=by simpa using hb
  subst e;obtain⟨o,e,c,d⟩:=st;exact⟨o,e,λv z=>by rw[d]at z;cases z⟩
 keep:=λi h h' st k=>st.at λo e=>k it (by simp) o e
 item:=by
  intro X hP hw hK hc i ae s U H E I hf st hg;subst hP hw hK;obtain⟨xs,x,hq,hx⟩:=hg;obtain⟨ak,rv,p,hz⟩:=I.tuple hq;obtain⟨u,hu,ru⟩:=rv.get hx;obtain⟨f0,f1,f2,f3,f4,f5⟩:=hf it (by simp);refine wpAny_pyNext_tuple_item st (show s.heap.IsTuple a ak.toArray from p) (by simpa using hu) λh' eZ sb=>?_
  have I1:Inv X ae U H {s with heap:=h' }:=I.turned (λb o hb e=>(sb.2 b hb).trans e) f0 f1 f3 f4 f5;obtain⟨o,e,c,d⟩:=id eZ;exact⟨u,rfl,R7 e c d (by decide) ⟨x,H,I1,ru,⟨rfl,λys hy=>by rwa[I.Gd hy hq]⟩,eZ,λb hb=>(hf b hb).1⟩⟩
 done:=by intro X hP hw hK hc i ae s U H E I hf st hg;subst hP hw hK;obtain⟨xs,hq,hx⟩:=hg;obtain⟨ak,rv,p,hz⟩:=I.tuple hq;obtain⟨f0,f1,f2,f3,f4,f5⟩:=hf it (by simp);have hl:=rv.length;exact wpAny_pyNext_tuple_end (I.ok.hd hc) st (show s.heap.IsTuple a ak.toArray from p) (by simp;lia) λh' eb=>⟨rfl,I.turned (λb o hb e=>eb b o hb e) f0 f1 f3 f4 f5⟩
 self:=λ_ _ _ _ _ st h=>wpAny_pyIter_tupleiter st h
theorem MN{K:Fg}(it:Addr)(lo:Int)(n:Nat):Turn P w K tg (Itr lo n) [it] it (λi h=>IsRangeIter h it (lo+(i:Nat)*1) ((n:Int)-(i:Nat)) 1) where
 mem:=by simp
 obj:=λi h st b hb=>by
  have e:=by simpa using hb
  subst e;exact⟨_,st,λv z=>by have z':=z;cases z'⟩
 keep:=λi h h' st k=>k it (by simp) _ st
 item:=by
  intro X hP hw hK hc i ae s U H E I hf st hg;subst hP hw hK;obtain⟨f0,f1,f2,f3,f4,f5⟩:=hf it (by simp);have W:=Walks.range (prog:=X.prog) (w:=X.w) (I.ok.hd hc) it lo 1 n;refine W.item i s _ _ hg st λv h' tk hv eZ kk=>?_
  obtain⟨t,rfl⟩:=hv;have I1:Inv X ae U H {s with heap:=h',toks:=tk}:=I.turned (λb o hb e=>kk b o (by simpa using hb) e) f0 f1 f3 f4 f5;refine⟨_,rfl,R7 eZ rfl rfl (by decide) ⟨.int (lo+i),H,I1,⟨t,?_⟩,⟨rfl,rfl⟩,eZ,λb hb=>(hf b hb).1⟩⟩;rw[Int.mul_one]
 done:=by intro X hP hw hK hc i ae s U H E I hf st hg;obtain⟨f0,f1,f2,f3,f4,f5⟩:=hf it (by simp);exact wpAny_pyNext_range_end (I.ok.hd hc) st (by have:n<=i:=hg;lia) λh' eb=>⟨rfl,I.turned (λb o hb e=>eb b o hb e) f0 f1 f3 f4 f5⟩
 self:=λ_ _ _ _ _ st h=>wpAny_pyIter_rangeiter st h
variable{tg:Expr}
theorem QX{t}{u}{lo hi:Int}(I:Inv X ae U H s)(h1:-(2^62)<=lo)(h2:lo<2^62)(h3:-(2^62)<=hi)(h4:hi<2^62)
  (q:R (Itr lo (hi-lo).toNat) H):wpAny (model X.prog X.w) X.A (pyIter (.ref s.heap.objs.size)) (PIE X ae U tg R) E {s with heap:=s.heap.push {cls:=.type "range",data:=.fields #[.int lo t,.int hi u,.int 1 v]},toks:=tk}:=by
 refine wpAny_pyIter_range (IsRange.new ..) (small_one h1 h2 h3 h4) ?_;have I1:Inv X ae U H {s with heap:=s.heap.push {cls:=.type "range",data:=.fields #[.int lo t,.int hi u,.int 1 v]},toks:=tk}:=I.kept λb o e=>sS _ e
 refine⟨(s.heap.push {cls:=.type "range",data:=.fields #[.int lo t,.int hi u,.int 1 v]}).objs.size,[(s.heap.push {cls:=.type "range",data:=.fields #[.int lo t,.int hi u,.int 1 v]}).objs.size],_,_,H,rfl,
  I1.kept λb o e=>sS _ e,MN _ lo (hi-lo).toNat,?_,λb hb=>?_,q⟩
 .have e1:lo+((0:Nat):Int)*1=lo:=by simp
  have e2:(((hi-lo).toNat:Nat):Int)-((0:Nat):Int)=Builtin.Range.rangeSize lo hi 1:=by rw[rangeSize_one];split<;>lia
  rw[e1,e2];exact tj _ rfl
 .have e:b=(s.heap.push {cls:=.type "range",data:=.fields #[.int lo t,.int hi u,.int 1 v]}).objs.size:=by simpa using hb
  subst e;exact I1.Sn (tD _) (I1.zZ.fresh (tD _))
def Jba(ta:TA):TI:=λU H R=>ta U H λvs H1=>∃j:Int,vs=[.int j]/\-(2^62)<=j/\j<2^62/\R (Itr 0 j.toNat) H1
theorem Ol{a}{ta}{p:Pos}(hg:Gl X "range")(hm:X.mg "range"=none)(ha:PA X [a] ta)(hs:starEach [a] X.env=[(false,eval a X.env)]:=by rfl):PI X tg (.Call (.Name "range" p) [a] [] pos) (Jba ta):=by intro ae s U H R I h;refine Call_ (DR I hg hm boot_range (callWith_type1 (thn (ha pos ae s U H _ I h) λus s1 ao=>?_) hs rfl));obtain⟨vs,H1,I1,r1,q1⟩:= ao;obtain⟨j,e,q1,q2,q⟩:=q1;subst e;cases r1 with|cons r rr =>cases rr;obtain⟨t,rfl⟩:=r;exact call_range_1 (QX I1 (by lia) (by lia) q1 q2 (by simpa using q))
def Jci(wi:TI)(g:TG)(tb:TS):TS:=λD U H=>wi U H λJ H1=>∃W:Nat->Nat->St->Hp->Prop,(∃m,W 0 m U H1)/\∀i m U H,W i m U H ->
 (J.stop i H/\D.nx U H)\/(J.go i H/\∃N:St->Hp->Prop,(∀au H',N au H'->∃m',m'<m/\W (i+1) m' au H')/\∀x H',J.yL i H x H'->g x U H' λgv H2=>tb {D with nx:=N,ct:=N,bk:=D.nx} gv H2)
noncomputable def JO(fp:List Addr)(h:Heap):List (Addr×Obj):=fp.filterMap λb=>(h.get? b).map λo=>(b,o)
theorem Ea{b}{o}(hb:b∈fp)(e:h.get? b=some o):(b,o)∈JO fp h:=uY.mpr ⟨b,hb,by rw[e];rfl⟩
theorem OB(hp:p∈JO fp h):p.1∈fp/\h.get? p.1=some p.2:=by obtain⟨b,hb,e⟩:=uY.mp hp;cases q:h.get? b with|none=>rw[q]at e;cases e|some o =>rw[q]at e;have e':=Option.some.inj e;subst e';exact⟨hb,q⟩
theorem Inv.pinned(I:Inv X ae U H s)(hf:∀b∈fp,KS X ae H b)(ho:∀b∈fp,∃o,s.heap.get? b=some o/\∀v,o.data≠.cell v):Inv X (ae++JO fp s.heap) U H s :=
 I.IC λp hp=>(tE.mp hp).elim (λz=>I.pin p (tB _ z)) λz=>by obtain⟨hb,e⟩:=OB z;obtain⟨f0,f1,f2,_⟩:=hf p.1 hb;obtain⟨o,e',d⟩:=ho p.1 hb;rw[e]at e';cases e';exact⟨e,f0,f1,f2,d⟩
theorem Inv.FG(I:Inv X (ae++pl) U H s):Inv X ae U H s:=I.IC λp hp=>I.pin p (tB _ (tH _ hp))
theorem X3{tb}(hp:PassesOwn (model X.prog X.w) X.A X.env X.xe)(hc:X.calm=true)(hi:PI X tg aA wi)(hg:PG X tg g)(hb:PSs X body tb)
  (hs:∀x,foldedSetIterable aA X.env x=pure x:=by intro _;rfl):PS X (.For tg aA body [] pos) (Jci wi g tb):=by
 intro ae s U H D I h;refine wpAny_For (thn (hi ae s U H _ I h) λv s1 h1=>thn h1 λkz s2 h2=>?_) hs;obtain⟨it,fp,tn,J,H2,e,I2,T,i6,f2,W,⟨m0,w0⟩,turn⟩:=h2;subst e;have eP:∀{H':Hp},(∀b∈fp,H' b=none)->∀b∈fp,KS X ae H' b:=λhn b hb=>⟨hn b hb,(f2 b hb).2⟩
 refine codeAny_forLoop_any (λn s'=>∃i au H',Inv X ae au H' s'/\tn i s'.heap/\(∀b∈fp,H' b=none)/\W i n au H') ?_ m0 ⟨0,U,H2,I2,i6,λb hb=>(f2 b hb).1,w0⟩
 rintro n s3 ⟨i,fI,H3,I3,st3,fr3,w3⟩
 rcases turn i n fI H3 w3 with⟨stop,qn⟩|⟨go,N,hN,step⟩
 .refine wpAny_passesOwn hp (thn (T.done X rfl rfl rfl hc i ae s3 fI H3 X.xe I3 (eP fr3) st3 stop) λr s4 ao=>?_);obtain⟨hr,I4⟩:= ao;subst hr;exact wpAny_execs_nil ⟨fI,H3,I4,qn⟩
 .refine wpAny_passesOwn hp (thn (T.item X rfl rfl rfl hc i ae s3 fI H3 X.xe I3 (eP fr3) st3 go) λr s4 ao=>?_);obtain⟨u,hr,h4⟩:= ao;subst hr;refine wpAny_passesOwn hp (thn h4 λ_ s5 ao=>?_);obtain⟨x,H5,I5,r5,y5,mz,qh⟩:= ao;have oS:=I5.pinned (eP qh) (T.obj _ _ mz);refine wpAny_passesOwn hp (thn (hg _ s5 fI H5 x u _ oS r5 (step x H5 y5)) λ_ s6 ao=>?_);obtain⟨sf,H6,I6,q6⟩:= ao;refine wpAny_passesOwn hp (thn (hb _ s6 sf H6 _ I6 q6) λf s7 q7=>?_);have again:∀{gw:St}{H7:Hp},Inv X (ae++JO fp s5.heap) gw H7 s7->N gw H7->∃m,m<n/\∃i au H',Inv X ae au H' s7/\tn i s7.heap/\(∀b∈fp,H' b=none)/\W i m au H':=λ{gw H7} I7 n7=>by obtain⟨m',hm,w7⟩:=hN gw H7 n7;refine⟨m',hm,i+1,gw,H7,I7.FG,T.keep _ _ _ mz λb hb o e=>(I7.pin (b,o) (tB _ (tB _ (Ea hb e)))).1,λb hb=>?_,w7⟩;obtain⟨o,e,d⟩:=T.obj _ _ mz b hb;exact(I7.pin (b,o) (tB _ (tB _ (Ea hb e)))).2.1
  cases f with|next=>obtain⟨gw,H7,I7,n7⟩:=q7;exact again I7 n7|cont=>obtain⟨gw,H7,I7,n7⟩:=q7;exact again I7 n7|brk=>obtain⟨gw,H7,I7,q7⟩:=q7;exact⟨gw,H7,I7.FG,q7⟩|ret v=>obtain⟨x7,gw,H7,I7,r7,q7⟩:=q7;exact⟨x7,gw,H7,I7.FG,r7,q7⟩
abbrev R2:=V->V->Hp->VK->Prop
def OpR(X:Cx)(f:Value->Value->Sem Value)(r:R2):Prop :=
 ∀(ae:List (Addr×Obj))(s:Shared)(U:St)(H:Hp)(x y:V)(v u:Value)(Q:VK),Inv X ae U H s->RelV x v->RelV y u->r x y H Q ->
  wpAny (model X.prog X.w) X.A (f v u) (EP X ae U Q) X.xe s
def UnR(X:Cx)(f:Value->Sem Value)(r:V->Hp->VK->Prop):Prop :=
 ∀(ae:List (Addr×Obj))(s:Shared)(U:St)(H:Hp)(x:V)(v:Value)(Q:VK),Inv X ae U H s->RelV x v->r x H Q ->
  wpAny (model X.prog X.w) X.A (f v) (EP X ae U Q) X.xe s
def CU(X:Cx)(f:Value)(r:List V->Hp->VK->Prop):Prop :=
 ∀(ae:List (Addr×Obj))(s:Shared)(U:St)(H:Hp)(xs:List V)(us:List Value)(Q:VK),Inv X ae U H s->Vals xs us->r xs H Q ->
  wpAny (model X.prog X.w) X.A (call f us) (EP X ae U Q) X.xe s
def TruR(X:Cx)(r:V->Hp->(Bool->Hp->Prop)->Prop):Prop :=
 ∀(ae:List (Addr×Obj))(s:Shared)(U:St)(H:Hp)(x:V)(v:Value)(Q:Bool->Hp->Prop),Inv X ae U H s->RelV x v->r x H Q ->
  wpAny (model X.prog X.w) X.A (truthy v) (TP X ae U Q) X.xe s
def tOp(r:R2)(ta tb:TE):TE:=λU H Q=>ta U H λx H1=>tb U H1 λy H2=>r x y H2 Q
def tUn(r:V->Hp->VK->Prop)(ta:TE):TE:=λU H Q=>ta U H λx H1=>r x H1 Q
def rI(C:Int->Int->Prop)(g:Int->Int->V):R2:=λx y H Q=>∃i j,x=.int i/\y=.int j/\C i j/\Q (g i j) H
def rI0(g:Int->Int->V):R2:=λx y H Q=>∃i j,x=.int i/\y=.int j/\Q (g i j) H
def rU(g:Int->V):V->Hp->VK->Prop:=λx H Q=>∃i,x=.int i/\Q (g i) H
variable{a c:Expr}{tc:TE}
theorem JbD(ha:PE X a ta)(hb:PE X b tb){R:V->V->Hp->Prop}(I:Inv X ae U H s)
  (h:ta U H λx H1=>tb U H1 λy H2=>R x y H2) {f:Value->Value->Sem Value}
  (hf:∀v u s2 x y H2,Inv X ae U H2 s2->RelV x v->RelV y u->R x y H2->wpAny (model X.prog X.w) X.A (f v u) Q X.xe s2) :
  wpAny (model X.prog X.w) X.A (eval a X.env) (λv az=>wpAny (model X.prog X.w) X.A (eval b X.env) (λu dh=>wpAny (model X.prog X.w) X.A (f v u) Q X.xe dh) X.xe az) X.xe s:=by
 refine thn (ha ae s U H _ I h) λv s1 ao=>?_
 obtain⟨x,H1,I1,r1,q1⟩:= ao;refine thn (hb ae s1 U H1 _ I1 q1) λu s2 ao=>?_
 obtain⟨y,H2,I2,r2,q2⟩:= ao;exact hf v u s2 x y H2 I2 r1 r2 q2
theorem JaT(ho:OpR X (binaryOp op) r)(ha:PE X a ta)(hb:PE X b tb):PE X (.BinOp a op b pos) (tOp r ta tb):=by intro ae s U H Q I h;exact wpAny_BinOp (JbD ha hb I h λv u s2 x y H2 I2 rx ry q=>ho ae s2 U H2 x y v u Q I2 rx ry q)
theorem JaR(ho:UnR X (unaryOp op) r)(ha:PE X a ta):PE X (.UnaryOp op a pos) (tUn r ta):=by intro ae s U H Q I h;exact UnaryOp_ (thn (ha ae s U H _ I h) λv s1 ⟨x,H1,I1,r1,q1⟩=>ho ae s1 U H1 x v Q I1 r1 q1)
theorem opI{g:Int->Int->Int}
  (eO:∀(i j:Int)(t u:Tok)(s:Shared)(Q:Value->Shared->Prop)(E:Value->Shared->Prop),C i j->Q (.int (g i j) s.toks) {s with toks:=s.toks+1}->wpAny (model X.prog X.w) X.A (f (.int i t) (.int j u)) Q E s) :
  OpR X f (rI C λi j=>.int (g i j)):=by
 intro ae s U H x y v u Q I rx ry h;obtain⟨i,j,rfl,rfl,hc,q⟩:=h;obtain⟨t,rfl⟩:=rx;obtain⟨t',rfl⟩:=ry;exact eO i j t t' s _ _ hc ⟨.int (g i j),H,I.tok _,⟨_,rfl⟩,q⟩
theorem JbU{g:Int->Int->Int}
  (eO:∀(i j:Int)(t u:Tok)(s:Shared)(Q:Value->Shared->Prop)(E:Value->Shared->Prop),Q (.int (g i j) s.toks) {s with toks:=s.toks+1}->wpAny (model X.prog X.w) X.A (f (.int i t) (.int j u)) Q E s) :
  OpR X f (rI0 λi j=>.int (g i j)):=by
 intro ae s U H x y v u Q I rx ry h;obtain⟨i,j,rfl,rfl,q⟩:=h;obtain⟨t,rfl⟩:=rx;obtain⟨t',rfl⟩:=ry;exact eO i j t t' s _ _ ⟨.int (g i j),H,I.tok _,⟨_,rfl⟩,q⟩
theorem Ja1{g:Int->Int->Bool}
  (eO:∀(i j:Int)(t u:Tok)(s:Shared)(Q:Value->Shared->Prop)(E:Value->Shared->Prop),Q (.bool (g i j)) s->wpAny (model X.prog X.w) X.A (f (.int i t) (.int j u)) Q E s) :
  OpR X f (rI0 λi j=>.o (g i j)):=by
 intro ae s U H x y v u Q I rx ry h;obtain⟨i,j,rfl,rfl,q⟩:=h;obtain⟨t,rfl⟩:=rx;obtain⟨t',rfl⟩:=ry;exact eO i j t t' s _ _ ⟨.o (g i j),H,I,rfl,q⟩
def Jb6(i j:Int):Prop:=0<j/\j<1073741824
def Jb5(i j:Int):Prop:=0<=j/\j<=1000000/\i.natAbs<2^64
def Jax(i j:Int):Prop:=(-(2^64)<i/\i<2^64)\/(-(2^64)<j/\j<2^64)
theorem Jax.ok(h:Jax i j):IntMulOk i j:=by
 rcases h with⟨h1,h2⟩|⟨h1,h2⟩
 .exact .of_left (intBits_le_64 h1 h2)
 .exact .of_right (intBits_le_64 h1 h2)
theorem Yw:OpR X (binaryOp .Add) (rI0 λi j=>.int (i+j)):=JbU λ_ _ _ _ _ _ _ q=>add_int q
theorem Yp:OpR X (binaryOp .Sub) (rI0 λi j=>.int (i-j)):=JbU λ_ _ _ _ _ _ _ q=>sub_int q
theorem Vn:OpR X (binaryOp .FloorDiv) (rI Jb6 λi j=>.int (i/j)):=opI λi j _ _ _ _ _ hc q=>by have h1:=hc.1;have h2:j<1073741824:=hc.2;exact floordiv_int (by lia) (by rwa[Int.fdiv_eq_ediv_of_nonneg i (by lia)]) (.inl (PyProof.noPylong_small (by lia)))
theorem Ys:OpR X (binaryOp .Mod) (rI (λ_ j=>0<j) λi j=>.int (i%j)):=opI λi j _ _ _ _ _ hc q=>by exact mod_int' (by lia) (by rwa[Int.fmod_eq_emod_of_nonneg i (by lia)])
theorem Yq:OpR X (binaryOp .LShift) (rI Jb5 λi j=>.int (i*2^j.toNat)):=opI λ_ _ _ _ _ _ _ hc q=>lshift_int_small hc.1 hc.2.1 hc.2.2 q
theorem unI{g:Int->Int}
  (eO:∀(i:Int)(t:Tok)(s:Shared)(Q:Value->Shared->Prop)(E:Value->Shared->Prop),Q (.int (g i) s.toks) {s with toks:=s.toks+1}->wpAny (model X.prog X.w) X.A (f (.int i t)) Q E s) :
  UnR X f (rU λi=>.int (g i)):=by
 intro ae s U H x v Q I rx h;obtain⟨i,rfl,q⟩:=h;obtain⟨t,rfl⟩:=rx;exact eO i t s _ _ ⟨.int (g i),H,I.tok _,⟨_,rfl⟩,q⟩
theorem Xm:UnR X (unaryOp .USub) (rU λi=>.int (-i)):=unI λ_ _ _ _ _ q=>neg_int q
noncomputable def N9:V->V->Bool
 |.v,.v=>true|.v,.int _=>true|.int _,.v=>true|.v,.o _=>true|.o _,.v=>true|.v,.str _=>true|.str _,.v=>true
 |.int _,.int _=>true|.o _,.o _=>true|.str _,.str _=>true|.zE _,.zE _=>true
 |.int _,.str _=>true|.str _,.int _=>true|.o _,.str _=>true|.str _,.o _=>true
 |_,_=>false
def rEq:R2:=λx y H Q=>N9 x y=true/\Q (.o (decide (x=y))) H
def rNe:R2:=λx y H Q=>N9 x y=true/\Q (.o (!decide (x=y))) H
theorem PX:decide (V.int i=V.int j)=(i==j):=by rw[uC];simp
theorem Ul:decide (V.o i=V.o j)=(i==j):=by rw[uC];simp
theorem PV:decide (V.str i=V.str j)=(i==j):=by rw[uC];simp
theorem PY:decide (V.zE i=V.zE j)=(i.toList==j.toList):=by rw[uC];cases i;cases j;simp
theorem A6(I:Inv X ae U H s)(q:Q (.o k) H)(e:k=k'):EP X ae U Q (.bool k') s:=by subst e;exact⟨.o k,H,I,rfl,q⟩
theorem Yu:OpR X (compareOp .Eq) rEq:=by
 intro ae s U H x y v u Q I rx ry h;obtain⟨hs,q⟩:=h;cases x with
 |v =>cases rx;cases y with|v=>cases ry;exact PySem.EqNone.eq_none_none (A6 I q (by simp))|o j=>cases ry;exact PySem.EqNone.eq_none_bool (A6 I q (by simp))|int j=>obtain⟨t',rfl⟩:=ry;exact PySem.EqNone.eq_none_int (A6 I q (by simp))|str j=>obtain⟨t',rfl⟩:=ry;exact PySem.EqNone.eq_none_str (A6 I q (by simp))|_=>exact absurd (show false=true from hs) tR
 |o i =>cases rx;cases y with|v=>cases ry;exact PySem.EqNone.eq_bool_none (A6 I q (by simp))|o j=>cases ry;exact eq_bool (A6 I q Ul)|str j=>obtain⟨t',rfl⟩:=ry;exact PySem.EqMixed.eq_bool_str (A6 I q (by simp))|_=>exact absurd (show false=true from hs) tR
 |int i =>obtain⟨t,rfl⟩:=rx;cases y with|v=>cases ry;exact PySem.EqNone.eq_int_none (A6 I q (by simp))|int j=>obtain⟨t',rfl⟩:=ry;exact eq_int (A6 I q PX)|str j=>obtain⟨t',rfl⟩:=ry;exact PySem.EqMixed.eq_int_str (A6 I q (by simp))|_=>exact absurd (show false=true from hs) tR
 |str i =>obtain⟨t,rfl⟩:=rx;cases y with|v=>cases ry;exact PySem.EqNone.eq_str_none (A6 I q (by simp))|o j=>cases ry;exact PySem.EqMixed.eq_str_bool (A6 I q (by simp))|int j=>obtain⟨t',rfl⟩:=ry;exact PySem.EqMixed.eq_str_int (A6 I q (by simp))|str j=>obtain⟨t',rfl⟩:=ry;exact eq_str (A6 I q PV)|_=>exact absurd (show false=true from hs) tR
 |zE i =>obtain⟨t,rfl⟩:=rx;cases y with|zE j=>obtain⟨t',rfl⟩:=ry;exact PySem.W.eq_bytes (A6 I q PY)|_=>exact absurd (show false=true from hs) tR
 |_=>cases y<;>exact absurd (show false=true from hs) tR
theorem JaY:OpR X (compareOp .NotEq) rNe:=by
 intro ae s U H x y v u Q I rx ry h;obtain⟨hs,q⟩:=h;cases x with
 |v =>cases rx;cases y with|v=>cases ry;exact PySem.EqNone.ne_none_none (A6 I q (by simp))|o j=>cases ry;exact PySem.EqNone.ne_none_bool (A6 I q (by simp))|int j=>obtain⟨t',rfl⟩:=ry;exact PySem.EqNone.ne_none_int (A6 I q (by simp))|str j=>obtain⟨t',rfl⟩:=ry;exact PySem.EqNone.ne_none_str (A6 I q (by simp))|_=>exact absurd (show false=true from hs) tR
 |o i =>cases rx;cases y with|v=>cases ry;exact PySem.EqNone.ne_bool_none (A6 I q (by simp))|o j=>cases ry;exact ne_bool (A6 I q (congrArg not Ul))|str j=>obtain⟨t',rfl⟩:=ry;exact PySem.EqMixed.ne_bool_str (A6 I q (by simp))|_=>exact absurd (show false=true from hs) tR
 |int i =>obtain⟨t,rfl⟩:=rx;cases y with|v=>cases ry;exact PySem.EqNone.ne_int_none (A6 I q (by simp))|int j=>obtain⟨t',rfl⟩:=ry;exact ne_int (A6 I q (congrArg not PX))|str j=>obtain⟨t',rfl⟩:=ry;exact PySem.EqMixed.ne_int_str (A6 I q (by simp))|_=>exact absurd (show false=true from hs) tR
 |str i =>obtain⟨t,rfl⟩:=rx;cases y with|v=>cases ry;exact PySem.EqNone.ne_str_none (A6 I q (by simp))|o j=>cases ry;exact PySem.EqMixed.ne_str_bool (A6 I q (by simp))|int j=>obtain⟨t',rfl⟩:=ry;exact PySem.EqMixed.ne_str_int (A6 I q (by simp))|str j=>obtain⟨t',rfl⟩:=ry;exact ne_str (A6 I q (congrArg not PV))|_=>exact absurd (show false=true from hs) tR
 |zE i =>obtain⟨t,rfl⟩:=rx;cases y with|zE j=>obtain⟨t',rfl⟩:=ry;exact PySem.W.ne_bytes (A6 I q (congrArg not PY))|_=>exact absurd (show false=true from hs) tR
 |_=>cases y<;>exact absurd (show false=true from hs) tR
theorem JaZ:OpR X (compareOp .Lt) (rI0 λi j=>.o (decide (i<j))):=Ja1 λ_ _ _ _ _ _ _ q=>lt_int q
theorem Rg:OpR X (compareOp .LtE) (rI0 λi j=>.o (decide (i<=j))):=Ja1 λ_ _ _ _ _ _ _ q=>le_int q
theorem Ja0:OpR X (compareOp .Gt) (rI0 λi j=>.o (decide (j<i))):=Ja1 λ_ _ _ _ _ _ _ q=>gt_int q
theorem JV:OpR X (compareOp .In) (λx y H Q=>∃i j,x=.str i/\y=.str j/\Q (.o (!(Builtin.Str.occurrences j i 0 j.length 1).isEmpty)) H):=by intro ae s U H x y v u Q I rx ry h;obtain⟨i,j,rfl,rfl,q⟩:=h;obtain⟨t,rfl⟩:=rx;obtain⟨t',rfl⟩:=ry;exact in_str (A6 I q rfl)
theorem TM:OpR X (compareOp .Is) (λx y H Q=>y=.v/\Q (.o (decide (x=.v))) H):=by
 intro ae s U H x y v u Q I rx ry h;obtain⟨rfl,q⟩:=h;cases ry;refine is_none_gen (A6 I q ?_);cases x<;>first
  |(cases rx;rfl)
  |(obtain⟨t,rfl⟩:=rx;rfl)
theorem DP(b:Expr)(h:op≠.In:=by decide)(h2:op≠.NotIn:=by decide):behindInMarks op b=false:=by
 have e1:(op==CmpOp.In)=false:=by cases op<;>first|rfl|exact absurd rfl h
 have e2:(op==CmpOp.NotIn)=false:=by cases op<;>first|rfl|exact absurd rfl h2
 cases b<;>simp[behindInMarks,e1,e2]
theorem Vg(ho:OpR X (compareOp op) r)(ha:PE X a ta)(hb:PE X b tb)(hm:behindInMarks op b=false):PE X (.Compare a [op] [b] pos) (tOp r ta tb):=by intro ae s U H Q I h;exact wpAny_Compare1 (JbD ha hb I h λv u s2 x y H2 I2 rx ry q=>ho ae s2 U H2 x y v u Q I2 rx ry q) hm
def UA(t:TE):TT:=λU H Q=>t U H λx H'=>∃k,x=.o k/\Q k H'
theorem UU(ho:OpR X (compareOp op) r)(ha:PE X a ta)(hb:PE X b tb)(hm:behindInMarks op b=false):PT X (.Compare a [op] [b] pos) (UA (tOp r ta tb)):=by intro ae s U H Q I h;refine wpAny_isTrue_Compare1 (thn (ha ae s U H _ I h) λv s1 ⟨x,H1,I1,r1,q1⟩=>thn (hb ae s1 U H1 _ I1 q1) λu s2 ⟨y,H2,I2,r2,q2⟩ =>thn (ho ae s2 U H2 x y v u _ I2 r1 r2 q2) λc s3 ⟨z,H3,I3,r3,k,e,q3⟩=>?_) hm;subst e;cases r3;exact wpAny_truthy_bool ⟨H3,I3,q3⟩
def NX(r r':R2)(ta tb tc:TE):TE:=λU H Q=>ta U H λx H1=>tb U H1 λy H2=>r x y H2 λz H3=>∃k,z=.o k /\
 (if k=true then tc U H3 λw' H4=>r' y w' H4 Q else Q (.o false) H3)
theorem Q0(ho:OpR X (compareOp op) r)(cL:OpR X (compareOp op') r')(ha:PE X a ta)(hb:PE X b tb)(hc:PE X c tc)
  (hm:lastMarks [op,op'] [b,c]=false:=by with_unfolding_all rfl):PT X (.Compare a [op,op'] [b,c] pos) (UA (NX r r' ta tb tc)):=by
 intro ae s U H Q I h;refine isTrue_chain (thn (ha ae s U H _ I h) λv s1 ⟨x,H1,I1,r1,q1⟩=>test_link (thn (hb ae s1 U H1 _ I1 q1) λu s2 ⟨y,H2,I2,r2,q2⟩ =>thn (ho ae s2 U H2 x y v u _ I2 r1 r2 q2) λd s3 ⟨z,H3,I3,r3,k,e,q3⟩=>?_)) hm;subst e;cases r3;refine wpAny_truthy_bool ?_;cases k with|false =>obtain⟨k',e',q'⟩:=q3;cases e';exact ite_ff ⟨H3,I3,q'⟩|true =>refine ite_tt (test_last (thn (hc ae s3 U H3 _ I3 q3) λw' s4 ⟨z',H4,I4,r4,q4⟩=>thn (cL ae s4 U H4 y z' u w' _ I4 r2 r4 q4) λd' s5 ao=>?_));obtain⟨z2,H5,I5,r5,k2,e2,q5⟩:= ao;subst e2;cases r5;exact wpAny_truthy_bool ⟨H5,I5,q5⟩
def JbI(K:Fg)(x:V)(H:Hp)(k:Bool):Prop :=
 match x with|.v=>k=false|.o b=>k=b|.int i=>k=(i !=0)|.str y=>y.length<=sizeLine/\k=((y.length:Int)!=0)|.zE y=>y.size<=sizeLine/\k=((y.size:Int)!=0)|.ref p=>(∃xs,SqL K H p xs/\k=!xs.isEmpty)\/(∃xs,SqT K H p xs/\k=!xs.isEmpty)\/∃ah,H p=some (.l ah)/\k=!ah.isEmpty|_=>False
theorem Nf(r:KV ah vs):(!vs.isEmpty)=!ah.isEmpty:=by cases r<;>rfl
theorem HS(r:Vals xs ak):(!ak.toArray.isEmpty)=!xs.isEmpty:=by cases r<;>simp
theorem HM:(sizeLine:Nat)<2^63:=by rw[sizeLine_eq];decide
theorem Xn:TruR X (λx H Q=>∃k,JbI X.K x H k/\Q k H):=by
 intro ae s U H x v Q I rx h;obtain⟨k,e,q⟩:=h;have hs:=sizeLine_eq;cases x with
 |v =>cases rx;have e':=e;subst e';exact truthy_none ⟨H,I,q⟩
 |o b =>cases rx;have e':k=b:=e;subst e';exact wpAny_truthy_bool ⟨H,I,q⟩
 |int i =>obtain⟨t,rfl⟩:=rx;have e':=e;subst e';exact PySem.P.truthy_int ⟨H,I,q⟩
 |str y =>obtain⟨t,rfl⟩:=rx;obtain⟨hy,e'⟩:y.length<=sizeLine/\k=((y.length:Int)!=0):=e;subst e';exact PySem.P.truthy_str (by lia) ⟨H,I.tok _,q⟩
 |zE y =>obtain⟨t,rfl⟩:=rx;obtain⟨hy,e'⟩:y.size<=sizeLine/\k=((y.size:Int)!=0):=e;subst e';exact PySem.W.truthy_bytes (by lia) ⟨H,I.tok _,q⟩
 |ref p =>
  cases rx;have e':=e;rcases e' with⟨xs,hx,e'⟩|⟨xs,hx,e'⟩|⟨ah,hx,e'⟩
  .subst e';obtain⟨ak,r,pl,hz⟩:=I.list hx;have hlen:=r.length;exact wpAny_truthy_list pl.isList (by simp only[sX];lia) ⟨H,I.tok _,by rwa[HS r]⟩
  .subst e';obtain⟨ak,r,pl,hz⟩:=I.tuple hx;have hlen:=r.length;exact truthy_tuple pl (by simp only[sX];lia) ⟨H,I.tok _,by rwa[HS r]⟩
  .subst e';obtain⟨hz,hS,vs,r,m⟩:ah.length<=sizeLine/\(p==sysModules)=false/\∃vs,KV ah vs/\s.heap.DictOf (Bb X.prog X.w) p vs:=I.zZ p _ hx;have hlen:=Paired.length r;exact wpAny_truthy_dict hS m (by lia) ⟨H,I.tok _,by rwa[Nf r]⟩
 |_=>exact(show False from e).elim
theorem LX(ha:PE X a ta)(he:∀aW,isTrue a X.env aW=(do let v <- aW;standAt a.pos;holding [v] (truthy v))):
  PT X a (λU H Q=>ta U H λx H'=>∃k,JbI X.K x H' k/\Q k H'):=by
 intro ae s U H Q I h;exact isTrue_plain (thn (ha ae s U H _ I h) λv s1 ⟨x,H1,I1,r1,q1⟩=>Xn ae s1 U H1 x v Q I1 r1 q1) (he _)
theorem M4:OpR X (binaryOp .Add) (λx y H Q=>∃i j,x=.str i/\y=.str j/\i.length+j.length<=sizeLine/\Q (.str (i++j)) H):=by intro ae s U H x y v u Q I rx ry h;obtain⟨i,j,rfl,rfl,hz,q⟩:=h;obtain⟨t,rfl⟩:=rx;obtain⟨t',rfl⟩:=ry;exact add_str (λt' tk=>⟨.str (i++j),H,I.tok _,⟨_,rfl⟩,q⟩) hz
theorem vals1{x}(r:Vals [x] us):∃u,us=[u]/\RelV x u:=by cases r with|cons r1 r2=>cases r2;exact⟨_,rfl,r1⟩
theorem vals2{x}(r:Vals [x,y] us):∃u w',us=[u,w']/\RelV x u/\RelV y w':=by cases r with|cons r1 r2 =>cases r2 with|cons r3 r4=>cases r4;exact⟨_,_,rfl,r1,r3⟩
theorem P8(hc:X.calm=true):CU X (.builtin "min") (λxs H Q=>∃i j,xs=[.int i,.int j]/\Q (.int (if j<i then j else i)) H):=by
 intro ae s U H xs us Q I r h;obtain⟨i,j,rfl,q⟩:=h;obtain⟨u,w',rfl,⟨t,rfl⟩,⟨t',rfl⟩⟩:=vals2 r;refine min_two_ints (I.ok.hd hc) λh' tk k=>⟨_,H,I.kept k,?_,q⟩
 by_cases hj:j<i
 .rw[if_pos hj,if_pos hj];exact⟨_,rfl⟩
 .rw[if_neg hj,if_neg hj];exact⟨_,rfl⟩
theorem Qa:CU X (.type "int") (λxs H Q=>(∃i,xs=[.int i]/\Q (.int i) H)\/∃k,xs=[.o k]/\Q (.int (if k then 1 else 0)) H):=by
 intro ae s U H xs us Q I r h;rcases h with⟨i,rfl,q⟩|⟨k,rfl,q⟩
 .obtain⟨u,rfl,t,rfl⟩:=vals1 r;exact call_int_int ⟨.int i,H,I,⟨_,rfl⟩,q⟩
 .obtain⟨u,rfl,r1⟩:=vals1 r;cases r1;exact call_int_bool ⟨.int (if k then 1 else 0),H,I.tok _,⟨_,rfl⟩,q⟩
structure W5(h:Heap)(x dx C:Addr)(mA:Str->Option Value):Prop where
 obj:h.get? x=some (instObj C dx)
 ns:h.Ns1 dx mA
 ne:dx≠x
theorem OP(n:h.Ns1 dx mA):∃od,h.get? dx=some od/\∀name,lookIn name od=some (mA name):=by
 obtain⟨o,es,ep,ho,hd,hk,_,hm⟩:=n;refine⟨o,ho,λname=>?_⟩;have e:=hm name;unfold nsFind findBy at e;rw[<- Array.find?_toList]at e;unfold lookIn;rw[hd];dsimp only;split
 next y q=>rw[q]at e;exact congrArg some e
 .rename_i q;rw[q]at e;have a:es.toList.any (·.refKey)=false:=by rw[List.any_eq_false];intro y hy;obtain⟨z,t,lB⟩:=hk y (Array.mem_toList_iff.mp hy);simp[DictEntry.refKey,lB]
  have a':¬es.toList.any (·.refKey)=true:=by rw[a];exact tR
  rw[if_neg a'];exact congrArg some e
theorem W5.look(I:W5 h x dx C mA):∃od,PySem.W.InstAt h x (instObj C dx) C (some od)/\∀name,lookIn name od=some (mA name) :=
 let⟨od,ho,hl⟩:=OP I.ns
 ⟨od,⟨I.obj,rfl,rfl,ho⟩,hl⟩
variable{prog:Program}{A:Around}{K:Fg}{dx C f:Addr}{mA:Str->Option Value}{name:Str}{v:Value}
theorem get_map(X:K.In s.heap)(I:W5 s.heap x dx C mA)(hg:plainGet K C name=true)(hh:hasDictIn K C=true)
  (ha:findIn K (.ref C) name=some none) (hv:mA name=some v) (qY:handedIn v=true) (h:Q v {s with toks:=s.toks+1}) :
  wpAny (model prog w) A (getAttr (.ref x) name expr) Q E s:=by
 obtain⟨od,J,hl⟩:=I.look;exact PySem.W.get_value X J (plainGet_of hg).1 (PySem.W.findObj_own hh ha rfl (by rw[hl,hv])) qY h
theorem R8(X:K.In s.heap)(I:W5 s.heap x dx C mA)(hg:plainGet K C name=true)
  (hf:findIn K (.ref C) name=some (some (.ref f))) (ht:isFn K (.ref f)=true) (hv:mA name=none) (h:Q (.ref f,[.ref x]) s) :
  wpAny (model prog w) A (getMethod (.ref x) name pl) Q E s:=by
 obtain⟨od,J,hl⟩:=I.look;exact PySem.W.method_fn X J (plainGet_of hg).1 (plainGet_of hg).2 hf (beq_iff_eq.mp ht) (by show(lookIn name od).map (·.isSome)=some false;rw[hl,hv];rfl) h
theorem UL(X:K.In s.heap)(I:W5 s.heap x dx C mA)
  (hs:findIn K (.ref C) "__setattr__"=some (some (.builtin "object.__setattr__"))) (hp:plainOver K C=true) (ht:takerIn K C name=some none) (hh:hasDictIn K C=true)
  (hw:PySem.Within mA ns) (hsz:ns.length<=sizeLine)
  (h:∀h',W5 h' x dx C (λy=>if y=name then some v else mA y)->Heap.SameBut dx s.heap h'->Q () {s with heap:=h',toks:=s.toks+2}) :
  wpAny (model prog w) A (setAttr (.ref x) name v) Q E s:=by
 obtain⟨od,J,hl⟩:=I.look;refine PySem.W.set_plain X J hs (PySem.W.osa_open X J hp ht λb=>?_);obtain⟨cd,hc,dM⟩:=PySem.W.any_some hh;have hx:=I.obj;refine sR (sY (sR (sR (wpAny_loadPart hx (sR (PySem.W.Looks.here (PySem.W.looks_clsIn X hc) ?_))))));rw[dM];refine sY (sR (sY (sR ?_)));refine wpAny_nsSet1 I.ns λh' gD bx=>?_
 obtain⟨oD,sH,sG,qK,qw,qv⟩:=gD.count (PySem.Within.cons name v hw);refine sR (wpAny_lookBehind qK (by rw[qw];exact pastItsLine_dict (tY qv (by rw[tM];lia))) ?_);exact sY (h _ ⟨(bx.2 _ (Ne.symm I.ne)).trans I.obj,gD,I.ne⟩ bx)
theorem Ry(X:K.In s.heap)(hm:makesIn K C=true)
  (hi:findIn K (.ref C) "__init__"=some (some (.ref f))) (hf:PySem.W.typeIn K (.ref f)=some (.type "function"))
  (h:codeAny (model prog w) (A.under (.builtin "type.__call__" ⟨.ref C::vs,kw⟩)) (.call (.ref f) ⟨.ref (s.heap.objs.size+1)::vs,kw⟩) (PySem.W.InitBack (s.heap.objs.size+1) R)
   {s with heap:=(s.heap.push emptyDict).push (instObj C s.heap.objs.size)}) :
  codeAny (model prog w) A (.call (.ref C) ⟨vs,kw⟩) R s:=by
 exact PySem.W.make_core (PySem.W.makes_of X hm) (PySem.W.looks_findIn X hi) (λself=>PySem.W.bind_fn X self hf) (.inl rfl) h
noncomputable def E3(f:Str)(v:V):List (Str×V)->List (Str×V)
 | []=>[(f,v)]
 |(g,x)::r=>if g=f then(g,v)::r else(g,x)::E3 f v r
theorem Gv(f g:Str)(v:V):∀fs:List (Str×V),(E3 f v fs).lookup g=if g=f then some v else fs.lookup g
 | []=>by
  show List.lookup g [(f,v)]=_;by_cases h:g=f
  .have hb:=beq_iff_eq.mpr h;simp only[List.lookup,hb,if_pos h]
  .have hb:=beq_eq_false_iff_ne.mpr h;simp only[List.lookup,hb,if_neg h]
 |(k,x)::r=>by
  have ih:=Gv f g v r;rw[show E3 f v ((k,x)::r)=(if k=f then(k,v)::r else(k,x)::E3 f v r)from rfl];by_cases hk:k=f
  .rw[if_pos hk];by_cases h:g=k
   .have hb:=beq_iff_eq.mpr h;simp only[List.lookup,hb,if_pos (h.trans hk)]
   .have hb:=beq_eq_false_iff_ne.mpr h;simp only[List.lookup,hb,if_neg (λe:g=f=>h (e.trans hk.symm))]
  .rw[if_neg hk];by_cases h:g=k
   .have hb:=beq_iff_eq.mpr h;simp only[List.lookup,hb,if_neg (λe:g=f=>hk (h.symm.trans e))]
   .have hb:=beq_eq_false_iff_ne.mpr h;simp only[List.lookup,hb];exact ih
theorem Gz(f:Str)(v:V):∀fs:List (Str×V),f∈(E3 f v fs).map (·.1)/\∀g,g∈fs.map (·.1)->g∈(E3 f v fs).map (·.1)
 | []=>⟨by simp[E3],λg h=>by simp at h⟩
 |(k,x)::r=>by
  obtain⟨i1,i2⟩:=Gz f v r;rw[show E3 f v ((k,x)::r)=(if k=f then(k,v)::r else(k,x)::E3 f v r)from rfl];by_cases hk:k=f
  .rw[if_pos hk];subst hk;exact⟨by simp,λg h=>by simpa using h⟩
  .rw[if_neg hk];refine⟨?_,λg h=>?_⟩
   .rw[sW];exact sZ _ i1
   .rw[sW]at h ⊢;rcases tm.mp h with e|e
    .exact tm.mpr (.inl e)
    .exact sZ _ (i2 g e)
theorem Gy(f:Str)(v:V):∀fs:List (Str×V),(E3 f v fs).length<=fs.length+1
 | []=>by simp[E3]
 |(k,x)::r=>by
  have ih:=Gy f v r;rw[show E3 f v ((k,x)::r)=(if k=f then(k,v)::r else(k,x)::E3 f v r)from rfl];by_cases hk:k=f
  .rw[if_pos hk,tM,tM];lia
  .rw[if_neg hk,tM,tM];lia
theorem A8.some_of{v}{o}(r:A8 (some v) o):∃u,o=some u/\RelV v u:=by cases o with|none=>exact(show False from r).elim|some u=>exact⟨u,rfl,r⟩
theorem A8.none_of{o}(r:A8 none o):o=none:=by cases o with|none=>rfl|some u=>exact(show False from r).elim
theorem Pe{u}{v}(r:RelV v u):handedIn u=true:=by cases v with|v=>cases(show u=Value.none from r);rfl|o b=>cases(show u=Value.bool b from r);rfl|int i=>obtain⟨t,e⟩:=(show ∃t,u=Value.int i t from r);cases e;rfl|str x=>obtain⟨t,e⟩:=(show ∃t,u=Value.str x t from r);cases e;rfl|zE b=>obtain⟨t,e⟩:=(show ∃t,u=Value.bytes b t from r);cases e;rfl|yJ b=>obtain⟨t,e⟩:=(show ∃t,u=Value.float b t from r);cases e;rfl|ref a=>cases(show u=Value.ref a from r);rfl|ty n=>cases(show u=Value.type n from r);rfl
variable{a:Addr}{fs ar:List (Str×V)}
theorem Ls(zZ:HOk P w H h)(e:H a=some (.ins C dx fs)):∃mA,W5 h a dx C mA/\(∀f,A8 (fs.lookup f) (mA f))/\PySem.Within mA (fs.map (·.1))/\fs.length<=1000/\H dx=some (.own a):=by
 obtain⟨d,z,ne,ob,mA,n,r,q⟩:=(show BJ P w H h a (.ins C dx fs)from zZ a _ e)
 exact⟨mA,⟨ob,n,ne⟩,r,q,z,d⟩
structure Cls(K:Fg)(C:Addr):Prop where
 pg:plainGet K C Str.empty=true
 hd:hasDictIn K C=true
 po:plainOver K C=true
 sa:findIn K (.ref C) "__setattr__"=some (some (.builtin "object.__setattr__"))
theorem Cls.get(c:Cls K C)(f:Str):plainGet K C f=true:=c.pg
def A2(K:Fg)(C:Addr)(f:Str):Prop:=findIn K (.ref C) f=some none
theorem A2.JaC{f}(n:A2 K C f):takerIn K C f=some none:=by unfold takerIn;rw[show findIn K (.ref C) f=some none from n];rfl
structure Meth(K:Fg)(C:Addr)(m:Str)(f:Addr):Prop where
 at_:findIn K (.ref C) m=some (some (.ref f))
 fn:isFn K (.ref f)=true
 kp:keepIn K (.ref f)=true
variable{f:Str}{v:V}
theorem HV{b}(I:Inv X ae U H s)(e:H a=some (.ins C dx fs))(c:Cls X.K C)(n:A2 X.K C f)(l:fs.lookup f=some v)
  (h:∀u s',Inv X ae U H s'->RelV v u->Q u s'):wpAny (model X.prog X.w) A (getAttr (.ref a) f b) Q E s:=by
 obtain⟨mA,O,r,_,_,_⟩:=Ls I.zZ e;obtain⟨u,hu,ru⟩:=A8.some_of (by rw[<- l];exact r f);exact get_map I.kIn O (c.get f) c.hd n hu (Pe ru) (h u _ (I.tok _) ru)
theorem HU(I:Inv X ae U H s)(e:H a=some (.ins C dx fs))(c:Cls X.K C)(k:Meth X.K C m g)(l:fs.lookup m=none)
  (h:Q (.ref g,[.ref a]) s):wpAny (model X.prog X.w) A (getMethod (.ref a) m pl) Q E s:=by
 obtain⟨mA,O,r,_,_,_⟩:=Ls I.zZ e;have hn:=A8.none_of (by rw[<- l];exact r m);exact R8 I.kIn O (c.get m) k.at_ k.fn hn h
theorem HF{u}(I:Inv X ae U H s)(e:H a=some (.ins C dx fs))(c:Cls X.K C)(n:A2 X.K C f)(hl:fs.length<1000)(ry:RelV y u)
  (h:∀s',Inv X ae U (upd H a (.ins C dx (E3 f y fs))) s'->Q () s'):wpAny (model X.prog X.w) A (setAttr (.ref a) f u) Q E s:=by
 obtain⟨mA,O,r,wi,_,ho⟩:=Ls I.zZ e;have hz:(fs.map (·.1)).length<=sizeLine:=by rw[sU,sizeLine_eq];lia
 refine UL I.kIn O c.sa c.po n.JaC c.hd wi hz λh' O' sb=>h _ ?_
 have hd:∃o,h'.get? dx=some o:=let⟨o,_,_,e',_⟩:=O'.ns;⟨o,e'⟩;refine I.write (by rw[e];exact True.intro) (.inr ho) (λb q hb z=>(sb.2 b hb).trans z) hd ?_;refine⟨by rw[Ap O.ne];exact ho,?_,O.ne,O'.obj,_,O'.ns,λg=>?_,λg hg=>?_⟩
 .have:=Gy f y fs;lia
 .show A8 ((E3 f y fs).lookup g) (if g=f then some u else mA g);rw[Gv];by_cases q:g=f
  .rwa[if_pos q,if_pos q]
  .rw[if_neg q,if_neg q];exact r g
 .by_cases q:g=f
  .rw[q];exact(Gz f y fs).1
  .refine(Gz f y fs).2 g (wi g λz=>hg ?_);show(if g=f then some u else mA g)=none;rwa[if_neg q]
theorem Inv.made(I:Inv X ae U H s):Inv X ae U (upd (upd H s.heap.objs.size (.own (s.heap.objs.size+1))) (s.heap.objs.size+1) (.ins C s.heap.objs.size []))
  {s with heap:=(s.heap.push emptyDict).push (instObj C s.heap.objs.size)}:=by
 have e1:(s.heap.push emptyDict).get? s.heap.objs.size=some emptyDict:=tj s.heap rfl;have e2:((s.heap.push emptyDict).push (instObj C s.heap.objs.size)).get? (s.heap.objs.size+1)=some (instObj C s.heap.objs.size):=by have:=tj (s.heap.push emptyDict) (o:=instObj C s.heap.objs.size) rfl;rwa[uw]at this
 have e3:(s.heap.push emptyDict).Ns s.heap.objs.size (λ_=>none):=⟨emptyDict,#[],_,e1,rfl,(λe he=>absurd he (by simp)),λ_=>rfl⟩
 have I1:=I.laid (a:=s.heap.objs.size) (o:=.own (s.heap.objs.size+1)) (h':=s.heap.push emptyDict) (t':=s.toks) (λb u q=>sS _ q) (tD _) ⟨_,e1⟩;refine I1.laid (a:=s.heap.objs.size+1) (o:=.ins C s.heap.objs.size []) (t':=s.toks) (λb u q=>sS _ q) (Nat.le_of_eq (uw _ _)) ?_;have ne:s.heap.objs.size≠s.heap.objs.size+1:=tU (Nat.lt_succ_self _);refine⟨by rw[Ap ne,As],uR _,ne,e2,λ_=>none,(Heap.Ns1.of_empty e3).at λo q=>sS _ q,λ_=>True.intro,λy hy=>absurd rfl hy⟩
theorem W0(hb:attributeBase e f env (eval e env)=eval e env)
  (h:wpAny (model prog w) A (eval e env) (λo az=>wpAny (model prog w) A (getAttr o f true) Q E az) E s):wpAny (model prog w) A (eval (.Attribute e f pos) env) Q E s :=
 Attribute_any_ h (by rw[arm_eval_Attribute,hb])
def JbN(K:Fg)(ta:TE)(f:Str):TE:=λU H Q=>ta U H λx H1=>∃a C dx fs v,x=.ref a/\H1 a=some (.ins C dx fs)/\Cls K C/\A2 K C f/\fs.lookup f=some v/\Q v H1
def JbP(K:Fg)(ta tv:TE)(f:Str):TS:=λD U H=>tv U H λy H1=>ta U H1 λx H2=>∃a C dx fs,x=.ref a/\H2 a=some (.ins C dx fs)/\Cls K C/\A2 K C f/\fs.length<1000 /\
 D.nx U (upd H2 a (.ins C dx (E3 f y fs)))
def Jb3(X:Cx)(op:Operator)(rd:V->V->Hp->VK->Prop):Prop :=
 ∀(ae:List (Addr×Obj))(s:Shared)(U:St)(H:Hp)(x y:V)(u v:Value)(Q:VK),Inv X ae U H s->RelV x u->RelV y v->rd x y H Q->wpAny (model X.prog X.w) X.A (inplaceOp op u v) (EP X ae U Q) X.xe s
def UO(K:Fg)(ta tv:TE)(rd:V->V->Hp->VK->Prop)(f:Str):TS:=λD U H=>ta U H λx H1=>∃a C dx fs v,x=.ref a/\H1 a=some (.ins C dx fs)/\Cls K C/\A2 K C f/\fs.lookup f=some v /\
 tv U H1 λy H2=>rd v y H2 λz H3=>∃i9 ar,H3 a=some (.ins C i9 ar)/\ar.length<1000/\D.nx U (upd H3 a (.ins C i9 (E3 f z ar)))
variable{o value:Expr}{bc cg:Pos}{tv:TE}
theorem Fp(he:PE X e ta)(hb:attributeBase e f X.env (eval e X.env)=eval e X.env):PE X (.Attribute e f pos) (JbN X.K ta f):=by intro ae s U H Q I h;refine W0 hb (thn (he ae s U H _ I h) λu s1 ao=>?_);obtain⟨x,H1,I1,rx,a,C,dx,fs,v,ex,ea,c,n,l,q⟩:= ao;subst ex;obtain rfl:u=Value.ref a:=rx;exact HV I1 ea c n l λu' s2 I2 ru=>⟨v,H1,I2,ru,q⟩
theorem X4(ha:PE X o ta)(hv:PE X value tv)(hs:swapsWith value (some (.Attribute o f bc)) pos.line X.env=pure false):PS X (.Assign [.Attribute o f bc] value pos) (JbP X.K ta tv f):=by intro ae s U H D I h;refine plainObj_wpAny_Assign_Attribute (thn (hv ae s U H _ I h) λu s1 ⟨y,H1,I1,ry,q⟩=>thn (ha ae s1 U H1 _ I1 q) λov s2 ao=>?_) hs;obtain⟨x,H2,I2,rx,a,C,dx,fs,ex,ea,c,n,l,q2⟩:= ao;subst ex;obtain rfl:ov=Value.ref a:=rx;exact HF I2 ea c n l ry λs3 I3=>⟨U,_,I3,q2⟩
theorem Og(ha:PE X o ta)(hv:PE X value tv)(qO:Jb3 X op rd):PS X (.AugAssign (.Attribute o f cg) op value pos) (UO X.K ta tv rd f):=by
 intro ae s U H D I h;refine wpAny_AugAssign_AttributeAny (thn (ha ae s U H _ I h) λov s1 ao=>?_);obtain⟨x,H1,I1,rx,a,C,dx,fs,v,ex,ea,c,n,l,q⟩:= ao;subst ex;obtain rfl:ov=Value.ref a:=rx;refine HV I1 ea c n l λu s2 I2 ru=>thn (hv ae s2 U H1 _ I2 q) λw3 s3 ao => ?_
 obtain⟨y,H2,I3,ry,q3⟩:= ao;refine thn (qO ae s3 U H2 v y u w3 _ I3 ru ry q3) λw4 s4 lO=>?_
 obtain⟨z,H3,I4,rz,i9,ar,qa,l',q4⟩:= lO;exact HF I4 qa c n l' rz λs5 I5=>⟨U,_,I5,q4⟩
def rSub:V->V->Hp->VK->Prop:=λx y H Q=>∃i j,x=.int i/\y=.int j/\Q (.int (i-j)) H
theorem YX:Jb3 X .Sub rSub:=by
 rintro ae s U H x y u v Q I rx ry ⟨i,j,rfl,rfl,q⟩
 obtain⟨t,rfl⟩:=(show ∃t,u=Value.int i t from rx)
 obtain⟨t',rfl⟩:=(show ∃t',v=Value.int j t' from ry)
 exact isub_int ⟨.int (i-j),H,I.tok _,⟨_,rfl⟩,q⟩
variable{Q:Value->Shared->Prop}{c:Value}{b:Bool}
structure DJ(k:Nat)(A:Around):Prop where
 hd:A.handled=none
 dp:A.depth+3*k+5<recursionLimit
 un:A.units+16*k+200<cLine
theorem DJ.mono(r:DJ k A)(h:j<=k):DJ j A:=⟨r.hd,by have:=r.dp;lia,by have:=r.un;lia⟩
theorem DJ.deeper(r:DJ (k+1) A)(env:Env):DJ k (A.deeper env) :=
 ⟨r.hd,by have:=r.dp;show A.depth+1+3*k+5<_;lia,by have:=r.un;show A.units+3+16*k+200<_;lia⟩
theorem Nb{us:List Value}{kw:List (Str×Value)}:(A.under (.builtin "type.__call__" ⟨.ref C::us,kw⟩)).depth=A.depth+1:=by first|rfl|simp[guardIds]
theorem Na{us:List Value}{kw:List (Str×Value)}:(A.under (.builtin "type.__call__" ⟨.ref C::us,kw⟩)).units=A.units+1:=by first|rfl|simp[Code.isFrame]
theorem DJ.make(r:DJ (k+1) A)(C:Addr)(us:List Value)(kw:List (Str×Value)):DJ k (A.under (.builtin "type.__call__" ⟨.ref C::us,kw⟩)) :=
 ⟨r.hd,by have:=r.dp;rw[Nb];lia,by have:=r.un;rw[Na];lia⟩
theorem DJ.depth(r:DJ k A):A.depth<recursionLimit:=by have:=r.dp;lia
theorem DJ.units(r:DJ k A):A.units+64<cLine:=by have:=r.un;lia
def Xr:TA:=λ_ H Q=>Q [] H
def Xw(ta:TE)(tr:TA):TA:=λU H Q=>ta U H λx H1=>tr U H1 λxs H2=>Q (x::xs) H2
variable{es:List Expr}{t:TA}
theorem HL:PA X [] Xr:=λ_ _ _ _ H Q I h=>Calls.spliced_nil ⟨[],H,I,.nil,h⟩
theorem Ds(ha:PE X e te)(hr:PA X es t)(hs:starEach (e::es) X.env=(false,eval e X.env)::starEach es X.env:=by rfl):PA X (e::es) (Xw te t):=by
 intro pos ae s U H Q I h;rw[hs];refine Calls.spliced_cons (thn (ha ae s U H _ I h) λu s1 ao=>?_);obtain⟨x,H1,I1,r1,q1⟩:= ao;refine thn (hr pos ae s1 U H1 _ I1 q1) λus s2 ao => ?_
 obtain⟨xs,H2,I2,r2,q2⟩:= ao;exact⟨x::xs,H2,I2,.cons r1 r2,q2⟩
def Jcc(t:TA):TE:=λU H Q=>t U H λxs H1=>xs.length<=sizeLine/\∀p,H1 p=none->Q (.ref p) (upd H1 p (.tup xs))
def Jcg(t:TA):TE:=λU H Q=>t U H λxs H1=>xs.length<=sizeLine/\∀p,H1 p=none->Q (.ref p) (upd H1 p (.lst xs))
theorem Yc(h:PA X es t):PE X (.Tuple es x1 pos) (Jcc t):=by intro ae s U H Q I hq;refine wpAny_Tuple_spliced (thn (h pos ae s U H _ I hq) λus s1 ⟨xs,H1,I1,r,z,q⟩=>⟨by rw[<- r.length];exact z,?_⟩);have hf:=I1.zZ.fresh (tD _);refine⟨.ref s1.heap.objs.size,upd H1 s1.heap.objs.size (.tup xs),I1.laid (λb u e=>sS _ e) (tD _) ?_,rfl,q _ hf⟩;exact⟨z,us,r,⟨_,tj _ rfl,rfl,_,rfl⟩⟩
theorem TK(h:PA X es t):PE X (.List es pos) (Jcg t):=by intro ae s U H Q I hq;refine wpAny_List_spliced (thn (h pos ae s U H _ I hq) λus s1 ⟨xs,H1,I1,r,z,q⟩=>⟨by rw[<- r.length];exact z,?_⟩);have hf:=I1.zZ.fresh (tD _);refine⟨.ref s1.heap.objs.size,upd H1 s1.heap.objs.size (.lst xs),I1.laid (λb u e=>sS _ e) (tD _) ?_,rfl,q _ hf⟩;exact⟨z,us,0,r,tj _ rfl⟩
abbrev Sp:=List V->Hp->VK->XK->Prop
abbrev CXT:=List Env->Hp->Shared->XK->Value->Shared->Prop
structure W9(P:Program)(w:World)(K:Fg)(mg:Str->Option Value)(base:Heap)(A:Around)(outer:List Env)(s:Shared)(H:Hp):Prop where
 frames:A.frames=some outer
 mod:Mod K mg base
 bs:∀b o,base.get? b=some o->s.heap.get? b=some o/\H b=none
 zo:base.objs.size<=s.heap.objs.size
 Mr:s.heap.FunFrames base outer
 zb:∀b∈frs outer,H b=none
 zZ:HOk P w H s.heap
 bare:AllBare s.gens
def CE(outer:List Env)(P:Program)(w:World)(H:Hp)(s:Shared)(Q:VK)(u:Value)(s':Shared):Prop :=
 ∃v H',s'.os=s.os/\AllBare s'.gens/\Un (frs outer) [] H H' s.heap s'.heap/\HOk P w H' s'.heap/\RelV v u/\Q v H'
def CR(CX:CXT)(outer:List Env)(P:Program)(w:World)(H:Hp)(s:Shared)(Q:VK)(E:XK)(r:Result)(s':Shared):Prop :=
 match r with|.ok (.ret u)=>CE outer P w H s Q u s'|.ok _=>False|.error e=>CX outer H s E e s'
structure EW(P:Program)(w:World)(K:Fg)(mg:Str->Option Value)(base:Heap)(CX:CXT)(k:Nat)(f:Addr)(fd:FuncData)(ps:List Str)(sp:Sp):Prop where
 len:∀vs H Q E,sp vs H Q E->vs.length=ps.length
 run:∀(A:Around)(outer:List Env)(s:Shared)(H:Hp)(args:Args)(us:List Value)(vs:List V)(Q:VK)(E:XK),DJ k A->W9 P w K mg base A outer s H->BindsTo s fd args (ps.zip us)->Vals vs us->sp vs H Q E ->
  codeAny (model P w) A (.call (.ref f) args) (CR CX outer P w H s Q E) s
theorem EW.imp{mg:Str->Option Value}{base:Heap}{CX:CXT}{k:Nat}{f:Addr}{fd:FuncData}{ps:List Str}{sp nU:Sp}(F:EW P w K mg base CX k f fd ps sp)
  (h:∀vs H Q E,nU vs H Q E->sp vs H Q E):EW P w K mg base CX k f fd ps nU :=
 ⟨λvs H Q E q=>F.len vs H Q E (h _ _ _ _ q),λA outer s H args us vs Q E hr he hb hv hs=>F.run A outer s H args us vs Q E hr he hb hv (h _ _ _ _ hs)⟩
theorem W9.make{mg:Str->Option Value}{base:Heap}{outer:List Env}(e:W9 P w K mg base A outer s H)(C:Addr)(us:List Value)(kw:List (Str×Value)):
  W9 P w K mg base (A.under (.builtin "type.__call__" ⟨.ref C::us,kw⟩)) outer s H:=⟨by first|exact e.frames|(simpa[pushEnvs]using e.frames),e.mod,e.bs,e.zo,e.Mr,e.zb,e.zZ,e.bare⟩
variable{s':Shared}
theorem Inv.Jbz(I:Inv X ae U H s):W9 X.prog X.w X.K X.mg X.base X.A X.stack s H :=
 ⟨I.ok.frames,I.ok.mod,I.bs,tY I.ok.zo I.sz,I.stack,I.K1,I.zZ,I.bare⟩
theorem Inv.after{Q}{u}(I:Inv X ae U H s)(h:CE X.stack X.prog X.w H s Q u s'):EP X ae U Q u s':=by obtain⟨v,H',os,bare,un,zZ,r,q⟩:=h;obtain⟨hh,g,d,t,cm⟩:=s';obtain rfl:cm=s.os:=os;exact⟨v,H',I.call un zZ bare (λb z=>absurd z (by simp)),r,q⟩
def UC(C:Addr)(m:Str)(sp:Sp)(dX:List V)(E:XK)(ta:TE)(t:TA):TE:=λU H Q=>ta U H λx H1=>∃a dx fs,x=.ref a/\H1 a=some (.ins C dx fs)/\fs.lookup m=none /\
 t U H1 λvs H2=>sp (x::(vs++dX)) H2 Q E
def Xu(C:Addr)(sp:Sp)(dX:List V)(E:XK)(t:TA):TE:=λU H Q=>t U H λvs H1=>∀x dx,H1 x=none->H1 dx=none->dx≠x ->
 sp (.ref x::(vs++dX)) (upd (upd H1 dx (.own x)) x (.ins C dx [])) (λv H2=>v=.v/\Q (.ref x) H2) E
def Binds(K:Fg)(fd:FuncData)(ps:List Str)(ds:List Value):Prop :=
 ∀(s:Shared)(us:List Value),K.In s.heap->(us++ds).length=ps.length->BindsTo s fd ⟨us,[]⟩ (ps.zip (us++ds))
theorem Binds.all{fd:FuncData}{ps:List Str}(h:∀us:List Value,us.length=ps.length->bindArgs fd ⟨us,[]⟩=pure (ps.zip us)):Binds K fd ps []:=λs us _ hl=>by rw[ug]at hl ⊢;exact .of_eq (h us hl)
def Passes(CX:CXT)(X:Cx)(E:XK):Prop:=∀(ae:List (Addr×Obj))(U:St)(H:Hp)(s:Shared)(e:Value)(s':Shared),Inv X ae U H s->CX X.stack H s E e s'->X.xe e s'
variable{CX:CXT}{k:Nat}{f:Addr}{fd:FuncData}{ps:List Str}{sp:Sp}{dX:List V}{ds:List Value}{E:XK}{x m:Str}{p aw:Pos}
theorem XM{Q}(F:EW X.prog X.w X.K X.mg X.base CX k f fd ps sp)(hr:DJ k X.A)(hb:Binds X.K fd ps ds)(hd:Vals dX ds)(hx:Passes CX X E)
  (I:Inv X ae U H s) (r:Vals vs us) (h:sp (vs++dX) H Q E):wpAny (model X.prog X.w) X.A (call (.ref f) us) (EP X ae U Q) X.xe s:=by
 have r2:=r.append hd;have hl:(us++ds).length=ps.length:=by rw[<- r2.length];exact F.len _ _ _ _ h
 refine wpAny_call (codeAny_mono (F.run X.A X.stack s H ⟨us,[]⟩ (us++ds) (vs++dX) Q E hr I.Jbz (hb s us I.kIn hl) r2 h) λr s' hq=>?_);cases r with|error e=>exact hx ae U H s e s' I hq|ok fl =>cases fl with|ret u=>exact I.after hq|next=>exact False.elim hq|brk=>exact False.elim hq|cont=>exact False.elim hq
theorem Rf(he:PE X o ta)(c:Cls X.K C)(hm:Meth X.K C m f)(F:EW X.prog X.w X.K X.mg X.base CX k f fd ps sp)(hr:DJ k X.A)(hb:Binds X.K fd ps ds)(hd:Vals dX ds)(hx:Passes CX X E)
  (ht:eval (.Call (.Attribute o m aw) [] [] pos) X.env=(do
   let ov <- eval o X.env
   standAt aw.atName
   let(f,first) <- holding [ov] (getMethod ov m pl)
   callWith pos f first (backTo pos (starEach [] X.env)) (backToKw pos (keywordEach [] X.env))):=by rfl) :
  PE X (.Call (.Attribute o m aw) [] [] pos) (UC C m sp dX E ta Xr):=by
 intro ae s U H Q I h;refine methodCall_KW (thn (he ae s U H _ I h) λu s1 ao=>?_) ht;obtain⟨x,H1,I1,rx,a,dx,fs,ex,ea,l,q⟩:= ao;subst ex;obtain rfl:u=Value.ref a:=rx;refine HU I1 ea c hm l ?_;exact PySem.W.callWith_K0 I1.kIn hm.kp (XM (vs:=[.ref a]) F hr hb hd hx I1 (.cons rfl .nil) q)
structure Mk(K:Fg)(C f:Addr):Prop where
 makes:makesIn K C=true
 init:findIn K (.ref C) "__init__"=some (some (.ref f))
 fn:isFn K (.ref f)=true
 kp:keepIn K (.ref C)=true
theorem QR{Q}(M:Mk X.K C f)(F:EW X.prog X.w X.K X.mg X.base CX k f fd ps sp)(hr:DJ (k+1) X.A)(hb:Binds X.K fd ps ds)(hd:Vals dX ds)
  (hx:Passes CX X E) (I:Inv X ae U H s) (r:Vals vs us)
  (h:∀x dx,H x=none->H dx=none->dx≠x->sp (.ref x::(vs++dX)) (upd (upd H dx (.own x)) x (.ins C dx [])) (λv H2=>v=.v/\Q (.ref x) H2) E) :
  wpAny (model X.prog X.w) X.A (call (.ref C) us) (EP X ae U Q) X.xe s:=by
 have hq:=h (s.heap.objs.size+1) s.heap.objs.size (I.zZ.fresh (Nat.le_succ _)) (I.zZ.fresh (tD _)) (tU (Nat.lt_succ_self _));have I2:=Inv.made (C:=C) I;have r2:Vals (V.ref (s.heap.objs.size+1)::(vs++dX)) (Value.ref (s.heap.objs.size+1)::(us++ds)):=.cons rfl (r.append hd);have hl:=by have e:=r2.length;rw[F.len _ _ _ _ hq]at e;exact e.symm
 refine wpAny_call (Ry I.kIn M.makes M.init (beq_iff_eq.mp M.fn) (codeAny_mono (F.run _ X.stack _ _ ⟨Value.ref (s.heap.objs.size+1)::us,[]⟩ (Value.ref (s.heap.objs.size+1)::(us++ds)) _ _ E (hr.make C us [])
  (I2.Jbz.make C us []) (hb _ (Value.ref (s.heap.objs.size+1)::us) I2.kIn hl) r2 hq) λr s' jT=>?_))
 cases r with|error e=>exact hx ae U _ _ e s' I2 jT|ok fl =>cases fl with|ret u =>obtain⟨v,H',I3,rv,ev,q3⟩:=I2.after jT;subst ev;exact⟨rv,⟨V.ref (s.heap.objs.size+1),H',I3,rfl,q3⟩⟩|next=>exact False.elim jT|brk=>exact False.elim jT|cont=>exact False.elim jT
theorem Vb(M:Mk X.K C f)(F:EW X.prog X.w X.K X.mg X.base CX k f fd ps sp)(hr:DJ (k+1) X.A)(hg:Gl X x)(hm:X.mg x=some (.ref C))(hb:Binds X.K fd ps ds)(hd:Vals dX ds)(hx:Passes CX X E)
  (ha:PA X (e::es) t) (bh:(x==("__debug__":Str))=false:=by decide) (he:starEach (e::es) X.env=(false,eval e X.env)::starEach es X.env:=by rfl) (aD:(backTo pos (starEach es X.env)).any (·.1)=false:=by rfl) :
  PE X (.Call (.Name x p) (e::es) [] pos) (Xu C sp dX E t):=by
 intro ae s U H Q I h;refine wpAny_Call_Name_kw (E7 I hg hm ?_ bh);refine callWith_K I.ok.mod.yR M.kp (thn (ha pos ae s U H _ I h) λus s1 ⟨vs,H1,I1,r,q⟩=>⟨I1.kIn,?_⟩) he aD;exact QR M F hr hb hd hx I1 r q
def PK(X:Cx)(kA:List Keyword)(t:TA):Prop :=
 ∀(pos:Pos)(ae:List (Addr×Obj))(s:Shared)(U:St)(H:Hp)(Q:List V->Hp->Prop),Inv X ae U H s->t U H Q->wpAny (model X.prog X.w) X.A (evalAll ((backToKw pos (keywordEach kA X.env)).map (·.2))) (AP X ae U Q) X.xe s
variable{ks:List Str}{lZ:Pos}{kA:List Keyword}{tk:TA}{nm:Option Str}
variable{g:List Value->List Value->List Value}{gV:List V->List V->List V}
theorem X6:PK X [] Xr:=λ_ _ _ _ H Q I h=>wpAny_evalAll_nil ⟨[],H,I,.nil,h⟩
theorem U5(ha:PE X e te)(hr:PK X kA t):PK X (⟨nm,e,lZ⟩:: kA) (Xw te t):=by
 intro pos ae s U H Q I h;refine wpAny_evalAll_cons (sR (thn (ha ae s U H _ I h) λu s1 ⟨x,H1,I1,r1,q1⟩=>sR (wpAny_standAt (sY ?_))));refine thn (hr pos ae s1 U H1 _ I1 q1) λus s2 ao => ?_
 obtain⟨xs,H2,I2,r2,q2⟩:= ao;exact⟨x::xs,H2,I2,.cons r1 r2,q2⟩
structure Jp(N P:List Str)(sc:Scope):Prop where
 kind:sc.kind=.function
 co:sc.isCoroutine=false
 gen:sc.isGenerator=false
 nd:N.Nodup
 pre:N.take P.length=P
 par:∀x∈P,sc.names.lookup x=some .local\/sc.names.lookup x=some .cell
 yI:∀y∈sc.names,y.2≠.free
theorem KH{kindOf:Str->Option NameKind}:∀{binds:List (Str×Value)}{m:Str->Option Value},(∀v,(x,v)∉binds)->bindL kindOf binds m x=m x
 | [],_,_=>rfl
 |(n,v)::r,m,h=>by
  unfold bindL;rw[KH λw hw=>h w (sZ _ hw)];split
  .have:x≠n:=by rintro rfl;exact h v tZ
   simp[this]
  .rfl
theorem KJ{kindOf:Str->Option NameKind}:∀{binds:List (Str×Value)}{m:Str->Option Value},(∀v,(x,v)∉binds)->bindC kindOf binds m x=m x
 | [],_,_=>rfl
 |(n,v)::r,m,h=>by
  unfold bindC;rw[KJ λw hw=>h w (sZ _ hw)];split
  .rfl
  .have:x≠n:=by rintro rfl;exact h v tZ
   simp[this]
theorem KI{kindOf:Str->Option NameKind}{v:Value}:∀{P:List Str}{vs:List Value}{i:Nat}{m:Str->Option Value},P.Nodup->P[i]?=some x->vs[i]?=some v->kindOf x=some .local ->
  bindL kindOf (P.zip vs) m x=some v
 | [],_,_,_,_,h,_,_=>by simp at h
 |_::_,[],_,_,_,_,h,_=>by simp at h
 |p::P,w::vs,0,m,nd,h1,h2,hk=>by simp at h1 h2;subst h1;subst h2;show bindL kindOf ((p,w)::P.zip vs) m p=_;unfold bindL;rw[KH λv hv=>(tN.mp nd).1 (List.of_mem_zip hv).1,if_pos hk];simp
 |p::P,w::vs,i+1,m,nd,h1,h2,hk=>by unfold bindL;exact KI (i:=i) (tN.mp nd).2 (by simpa using h1) (by simpa using h2) hk
theorem KN{kindOf:Str->Option NameKind}{v:Value}:∀{P:List Str}{vs:List Value}{i:Nat}{m:Str->Option Value},P.Nodup->P[i]?=some x->vs[i]?=some v->kindOf x≠some .local ->
  bindC kindOf (P.zip vs) m x=some v
 | [],_,_,_,_,h,_,_=>by simp at h
 |_::_,[],_,_,_,_,h,_=>by simp at h
 |p::P,w::vs,0,m,nd,h1,h2,hk=>by simp at h1 h2;subst h1;subst h2;show bindC kindOf ((p,w)::P.zip vs) m p=_;unfold bindC;rw[KJ λv hv=>(tN.mp nd).1 (List.of_mem_zip hv).1,if_neg hk];simp
 |p::P,w::vs,i+1,m,nd,h1,h2,hk=>by unfold bindC;exact KN (i:=i) (tN.mp nd).2 (by simpa using h1) (by simpa using h2) hk
noncomputable def start(N:List Str)(vs:List V):St:=vs.map some++List.replicate (N.length-vs.length) none
noncomputable def Nz(CX:CXT)(P:Program)(w:World)(K:Fg)(mg:Str->Option Value)(base:Heap)(N:List Str)(qual:Str)(scope:Scope)(f:Addr)(cd:Value)(A:Around)(outer:List Env)(s:Shared)(H:Hp)(E:XK):Cx where
 prog:=P
 w:=w
 K:=K
 mg:=mg
 base:=base
 A:=A.deeper (envOfC qual scope s.heap.objs.size f cd)
 N:=N
 zV:=s
 y0:=H
 env:=envOfC qual scope s.heap.objs.size f cd
 outer:=outer
 stack:=envOfC qual scope s.heap.objs.size f cd::outer
 ex:=[]
 calm:=true
 fn:=λ_=>true
 pn:=[]
 xe:=λe s'=>wpAny (model P w) (A.deeper (envOfC qual scope s.heap.objs.size f cd)) (leaving (envOfC qual scope s.heap.objs.size f cd) e) (λ_ mn=>CX outer H s E e mn) (λe' mn=>CX outer H s E e' mn) s'
theorem MC{sc:Scope}{n:Nat}(h:sc.names.lookup x=some .cell):∃c,(cellsFrom n sc.names []).lookup x=some c:=by have q:=PySem.W.cellsFrom_some sc.names n [] (.inl h);exact uN.mp q
theorem O6{mg:Str->Option Value}{base:Heap}{N:List Str}{qual:Str}{scope:Scope}{cd:Value}{outer:List Env}{s1:Shared}{us:List Value}{vs:List V}
  (S:Jp N ps scope) (hd:A.handled=none) (e0:W9 P w K mg base A outer s H) (hl:vs.length=ps.length) (r:Vals vs us)
  (x:InCallC s s.heap.objs.size (bindL (envOfC qual scope s.heap.objs.size f cd).kindOf (ps.zip us) λ_=>none) (cellsFrom (s.heap.objs.size+1) scope.names []) (bindC (envOfC qual scope s.heap.objs.size f cd).kindOf (ps.zip us) λ_=>none) s1) :
  Inv (Nz CX P w K mg base N qual scope f cd A outer s H E) [] (start N vs) H s1:=by
 have aD:ps.length<=N.length:=by have:=congrArg List.length S.pre;rw[uA]at this;lia
 obtain⟨h1,tk,rfl,hk⟩:=x.done;have j6:∀b:Addr,b∉(Nz CX P w K mg base N qual scope f cd A outer s H E).ex:=λb z=>absurd (show b∈([]:List Addr)from z) (by simp)
 refine⟨⟨e0.mod,S.kind,rfl,rfl,tD _,λy z c h1 h2=>?_,λy hy=>?_,λy c _ h=>?_,λ_=>hd,Around.frames_deeper e0.frames,.inr ⟨rfl,rfl⟩,λb z=>absurd z (j6 b),e0.bs,e0.zo,λb _ _=>j6 b,λb z=>absurd z (j6 b),e0.Mr,e0.zb⟩,
  rfl,e0.bare,Un.kept hk,⟨_,x.toInCall.ns,λi y v h1 h2 h3=>?_⟩,λy c h=>⟨_,x.cell y c h⟩,e0.zZ.fresh (tD _),λy c h=>?_,λp hp=>absurd (show p∈([]:List (Addr×Obj))from hp) (by simp),e0.zZ.kept hk,?_⟩
 .exact name_of_addr x.apart (PySem.mem_of_lookup h1) (PySem.mem_of_lookup h2)
 .have hy:scope.names.lookup y=some .cell\/scope.names.lookup y=some .free:=hy;rcases hy with hy|hy
  .exact MC hy
  .exact absurd rfl (S.yI _ (PySem.mem_of_lookup hy))
 .exact uX (x.above y c (PySem.mem_of_lookup h))
 .have hi:i<vs.length:=by
   unfold start at h2;by_cases hi:i<vs.length
   .exact hi
   .rw[List.getElem?_append_right (by simpa using hi)]at h2;rw[uO]at h2;split at h2<;>cases h2
  have ha:vs[i]?=some v:=by unfold start at h2;rw[uZ (by simpa using hi),t7]at h2;cases e:vs[i]? with|none=>rw[e]at h2;cases h2|some a=>rw[e]at h2;cases h2;rfl
  obtain⟨u,hu,rv⟩:=r.get ha;have hp:ps[i]?=some y:=by rwa[<- S.pre,u7 (by lia)]
  have nH:ps.Nodup:=by rw[<- S.pre];exact S.nd.sublist (List.take_sublist _ _)
  refine⟨u,rv,?_⟩;rcases S.par y (uu hp)with k|k
  .exact .inl ⟨k,KI nH hp hu k⟩
  .obtain⟨c,e⟩:=MC (n:=s.heap.objs.size+1) k;refine .inr ⟨.inl k,c,e,?_⟩;have q:=x.cell y c e;rwa[KN nH hp hu (by show scope.names.lookup y≠_;rw[k];decide)]at q
 .exact e0.zZ.fresh (uX (x.above y c (PySem.mem_of_lookup h)))
 .unfold start;show _=N.length;rw[t5,sU,List.length_replicate]
  lia
variable{T:String}{r:List V->Hp->VK->Prop}
section
variable{id:String}
def tCB(r:List V->Hp->VK->Prop)(t:TA):TE:=λU H Q=>t U H λvs H1=>r vs H1 Q
theorem IE(hc:CU X (.builtin id) r)(hg:Gl X x)(hm:X.mg x=none)(hv:bootBuiltins x=some (.builtin id))(ha:PA X (e::es) t)(hn:x≠"__name__":=by decide)(bh:(x==("__debug__":Str))=false:=by decide)
  (he:starEach (e::es) X.env=(false,eval e X.env)::starEach es X.env:=by rfl) (aD:(backTo pos (starEach es X.env)).any (·.1)=false:=by rfl):PE X (.Call (.Name x p) (e::es) [] pos) (tCB r t):=by
 intro ae s U H Q I h;refine wpAny_Call_Name_kw (DR I hg hm hv ?_ hn bh);exact PyProof.Rows.callWith_builtin1 (thn (ha pos ae s U H _ I h) λus s1 ⟨vs,H1,I1,r1,q1⟩=>hc ae s1 U H1 vs us Q I1 r1 q1) he aD
theorem Ot(hc:CU X (.type T) r)(hg:Gl X x)(hm:X.mg x=none)(hv:bootBuiltins x=some (.type T))(ha:PA X (e::es) t)(hn:x≠"__name__":=by decide)(bh:(x==("__debug__":Str))=false:=by decide)
  (he:starEach (e::es) X.env=(false,eval e X.env)::starEach es X.env:=by rfl) (aD:(backTo pos (starEach es X.env)).any (·.1)=false:=by rfl):PE X (.Call (.Name x p) (e::es) [] pos) (tCB r t):=by
 intro ae s U H Q I h;refine wpAny_Call_Name_kw (DR I hg hm hv ?_ hn bh);exact callWith_type1 (thn (ha pos ae s U H _ I h) λus s1 ⟨vs,H1,I1,r1,q1⟩=>hc ae s1 U H1 vs us Q I1 r1 q1) he aD
end
end L2
namespace HT
open PySem PyProof.Rows
section
open PySem.SeqAt
open PySem.AutoSeq1 (wpAny_loadPart')
open PySem.MeetsSeq PySem.MeetsSeq2 PySem.MeetsSeq3
end
variable{prog:Program}{w:World}{A:Around}{E:Value->Shared->Prop}{s:Shared}
theorem WU(ht:IsTup s.heap t vs.toArray)(hb:IsTup s.heap b ws.toArray)(hv:vs≠[])
  (h1:ws=[]->Q (.ref t) s) (h2:ws≠[]->Q (.ref s.heap.objs.size) {s with heap:=s.heap.push {cls:=.type "tuple",data:=.seq (vs++ws).toArray} })
  (hsz:vs.length+ws.length<=sizeLine):wpAny (model prog w) A (binaryOp .Add (.ref t) (.ref b)) Q E s:=by
 obtain⟨⟨cls,dd,data,sl⟩,ho,hc,n,hd⟩:=id ht;obtain⟨⟨kP,i7,data2,jh⟩,iR,dJ,n2,hd2⟩:=id hb;subst hc hd dJ hd2;have e:vs.toArray++ws.toArray=(vs++ws).toArray:=by simp
 by_cases hw:ws=[]
 .exact concat_meets ⟨_,ho,rfl⟩ ⟨_,iR,rfl⟩ noFill_tuple_add seq_tuple_add slot_tuple_add entry_tuple_add (args_tuple_add_2 _ _)
   (tuple_addW1 t b vs.toArray ws.toArray n n2 dd i7 sl jh (by simpa using hv) (by simp[hw])) ⟨ho,iR,h1 hw⟩
 .refine concat_meets ⟨_,ho,rfl⟩ ⟨_,iR,rfl⟩ noFill_tuple_add seq_tuple_add slot_tuple_add entry_tuple_add (args_tuple_add_2 _ _)
   (tuple_addW2 t b vs.toArray ws.toArray n n2 dd i7 sl jh (by simpa using hv) (by simpa using hw) (by rwa[sX,sX])) ⟨ho,iR,?_⟩
  rw[e];exact h2 hw
noncomputable def sIx(n d:Nat):Option Int->Nat
 |none=>d
 |some v=>if v<0 then(v+(n:Int)).toNat else min v.toNat n
theorem JbO(n d:Nat)(hd:d<=n)(o:Option Int):sIx n d o<=n:=by
 cases o with
 |none=>exact hd
 |some v =>
  show(if v<0 then(v+(n:Int)).toNat else min v.toNat n)<=n;by_cases hv:v<0
  .rw[if_pos hv];lia
  .rw[if_neg hv];exact Nat.min_le_right _ _
theorem P5(v:Int)(n d:Nat):(if v<0 then max (v+(n:Int)) 0 else min v (n:Int))=((sIx n d (some v):Nat):Int):=by
 show(if v<0 then max (v+(n:Int)) 0 else min v (n:Int))=(((if v<0 then(v+(n:Int)).toNat else min v.toNat n):Nat):Int);by_cases hv:v<0
 .simp only[if_pos hv];lia
 .simp only[if_neg hv];lia
theorem NH(lo hi:Option Int)(n:Nat):Builtin.Slice.sliceAdjust lo hi 1 (n:Int)=(((sIx n 0 lo:Nat):Int),((sIx n n hi:Nat):Int)):=by
 have h1:¬((1:Int)<0):=by lia
 unfold Builtin.Slice.sliceAdjust;refine Prod.ext ?_ ?_
 .cases lo with|none=>rfl|some v=>exact P5 v n 0
 .cases hi with|none=>rfl|some v=>exact P5 v n n
theorem MY(i j:Nat):Builtin.Slice.slicePlaces (i:Int) (j:Int) 1=j-i:=by unfold Builtin.Slice.slicePlaces;split<;>lia
theorem HE(p:IsPart v o)(h:Q o s):wpAny (model prog w) A (Builtin.Slice.slicePartIndex v) Q E s:=by cases p with|none=>exact slicePart_none h|int i t=>exact slicePart_int h
theorem DC{sl:Addr}{vl vu:Value}{lo hi:Option Int}{n:Nat}{Q:Int×Int×Nat->Shared->Prop}(hs:s.heap.IsSliceOf sl vl vu .none)(pl:IsPart vl lo)(pu:IsPart vu hi)
  (h:Q (((sIx n 0 lo:Nat):Int),1,sIx n n hi-sIx n 0 lo) s):wpAny (model prog w) A (Builtin.Slice.sliceApplied (.ref sl) (pure (n:Int))) Q E s:=by
 obtain⟨os,iT,jb,jG⟩:=id hs;refine sR (sR (t6 iT jG (x:=vl) rfl (sR (t6 iT jG (x:=vu) rfl (sR (t6 iT jG (x:=.none) rfl (sY ?_)))))));refine sR (slicePart_none ?_);refine sR (HE pl (sR (HE pu (sR (sY ?_)))));show wpAny _ _ (match Builtin.Slice.sliceAdjust lo hi 1 (n:Int)with|(lo,hi)=>pure (lo,(1:Int),Builtin.Slice.slicePlaces lo hi 1)) _ _ s;rw[NH lo hi n];show wpAny _ _ (pure (((sIx n 0 lo:Nat):Int),(1:Int),Builtin.Slice.slicePlaces ((sIx n 0 lo:Nat):Int) ((sIx n n hi:Nat):Int) 1)) _ _ s;rw[MY];exact sY h
theorem Q9(xs:Array Value)(i k:Nat):((List.range k).filterMap λ(m:Nat)=>xs[((i:Int)+(m:Int)*1).toNat]?).toArray=((xs.toList.drop i).take k).toArray:=by
 have e:(λ(m:Nat)=>xs[((i:Int)+(m:Int)*1).toNat]?)=λm=>xs[i+m]?:=by
  funext m;have:((i:Int)+(m:Int)*1).toNat=i+m:=by lia
  rw[this]
 rw[e];have:=pick_run xs i k;rw[List.filterMap_map]at this;have e2:((λx=>xs[x]?)∘λx=>i+x)=λm=>xs[i+m]?:=rfl
 rw[e2]at this;rw[this]
theorem E9{t sl:Addr}{items:Array Value}{vl vu:Value}{lo hi:Option Int}{Q:Value->Shared->Prop}(ht:IsTup s.heap t items)(hs:s.heap.IsSliceOf sl vl vu .none)(pl:IsPart vl lo)(pu:IsPart vu hi)
  (hw:¬(sIx items.size 0 lo=0/\sIx items.size items.size hi=items.size))
  (h:Q (.ref s.heap.objs.size) {s with heap:=s.heap.push {cls:=.type "tuple",data:=.seq ((items.toList.drop (sIx items.size 0 lo)).take (sIx items.size items.size hi-sIx items.size 0 lo)).toArray} })
  (hsz:items.size<=sizeLine):wpAny (model prog w) A (getItem (.ref t) (.ref sl)) Q E s:=by
 have eW:sizeOk (.seq ((items.toList.drop (sIx items.size 0 lo)).take (sIx items.size items.size hi-sIx items.size 0 lo)).toArray):=by
  show((items.toList.drop (sIx items.size 0 lo)).take (sIx items.size items.size hi-sIx items.size 0 lo)).toArray.size<=sizeLine;rw[sX,uA,List.length_drop,uE]
  lia
 obtain⟨os,iT,jb,jG⟩:=id hs;have qo:s.TypeIs (.ref sl) "slice":=⟨os,iT,jb⟩
 unfold getItem
 try with_reducible refine wpAny_holding ?_
 first|refine sR (sY ?_)|skip
 refine sR (wpAny_sequenceKey ht.typeIs (by decide) ?_);refine sR (wpAny_callSpecial?_slot (name:=Str.ofString "__getitem__") ht.typeIs slot_tuple_getitem
  (wpAny_call_entry slot_tuple_getitem ht.typeIs entry_tuple_getitem ?_ (args_tuple_getitem _ _)))
 show wpAny _ _ (Builtin.Tuple.tupleItemsOf (.ref t) >>= _) _ _ s;refine sR (tupleItemsOf_ ht ?_);refine sR (wpAny_typeOf qo ?_);refine sR (DC hs pl pu ?_);have lK:¬((((sIx items.size 0 lo:Nat):Int)==0&&(1:Int)==1&&(sIx items.size items.size hi-sIx items.size 0 lo)==items.size)=true):=by intro q;rw[tW,tW]at q;have q1:((sIx items.size 0 lo:Nat):Int)=0:=eq_of_beq q.1.1;have q2:sIx items.size items.size hi-sIx items.size 0 lo=items.size:=eq_of_beq q.2;exact hw ⟨by lia,by lia⟩
 show wpAny _ _ (if(((sIx items.size 0 lo:Nat):Int)==0&&(1:Int)==1&&(sIx items.size items.size hi-sIx items.size 0 lo)==items.size)=true then _ else _) _ _ s;rw[if_neg lK,Q9]
 first
  |exact sR (m:=Builtin.Tuple.tupleExact _) (wpAny_newObj_type (sY ⟨_,rfl,sY h⟩) eW)
  |exact sR (m:=Builtin.Tuple.tupleExact _) (wpAny_newObj_type (sR (sY (sY ⟨_,rfl,sY h⟩))) eW)
  |exact sR (sR (m:=Builtin.Tuple.tupleExact _) (wpAny_newObj_type (sY (sY ⟨_,rfl,sY h⟩)) eW))
  |exact sR (sR (m:=Builtin.Tuple.tupleExact _) (wpAny_newObj_type (sY ⟨_,rfl,sY h⟩) eW))
end HT
namespace L2
open PySem PySem.Spec PyProof.Rows
abbrev TO:=St->Hp->(Option Int->Hp->Prop)->Prop
def PO(X:Cx)(e:Option Expr)(t:TO):Prop :=
 ∀(ae:List (Addr×Obj))(s:Shared)(U:St)(H:Hp)(Q:Option Int->Hp->Prop),Inv X ae U H s->t U H Q ->
  wpAny (model X.prog X.w) X.A (evalPart e X.env) (λu s'=>∃o H',Inv X ae U H' s'/\IsPart u o/\Q o H') X.xe s
def UB:TO:=λ_ H Q=>Q none H
def JaD(t:TE):TO:=λU H Q=>t U H λx H1=>∃i,x=.int i/\Q (some i) H1
theorem intsAre_of:∀{us:List Value},Vals (ns.map V.int) us->IntsAre us ns:=by induction ns with|nil=>intro us r;rw[uH]at r;cases r;exact .nil|cons n ns ih =>intro us r;cases r with|cons r1 r2 =>obtain⟨t,e⟩:=r1;subst e;exact .cons n t (ih r2)
variable{X:Cx}{e:Expr}{te:TE}{lo hi:Option Expr}{tl th:TO}{pos p2:Pos}
theorem U3:PO X none UB:=by intro ae s U H Q I h;exact sY ⟨none,H,I,.none,h⟩
theorem U2(h:PE X e te):PO X (some e) (JaD te):=by
 intro ae s U H Q I hw;refine thn (h ae s U H _ I hw) λu s1 ao=>?_
 obtain⟨x,H1,I1,r1,q1⟩:= ao;obtain⟨i,rfl,q⟩:=q1;obtain⟨t,rfl⟩:=r1;exact⟨some i,H1,I1,.int i t,q⟩
def SlR(X:Cx)(r:V->Option Int->Option Int->Hp->VK->Prop):Prop :=
 ∀(ae:List (Addr×Obj))(s:Shared)(U:St)(H:Hp)(x:V)(v vl vu:Value)(lo hi:Option Int)(sl:Addr)(Q:VK),Inv X ae U H s->RelV x v->s.heap.IsSliceOf sl vl vu .none->IsPart vl lo->IsPart vu hi->r x lo hi H Q ->
  ∃T id,typeLookup (.type T) "__getitem__"=pure (some (.builtin id))/\s.TypeIs v T/\wpAny (model X.prog X.w) X.A (getItem v (.ref sl)) (EP X ae U Q) X.xe s
theorem SlR.or(h:SlR X r)(h':SlR X r'):SlR X (λx lo hi H Q=>r x lo hi H Q\/r' x lo hi H Q):=by
 intro ae s U H x v vl vu lo hi sl Q I rx hs pl pu q;rcases q with q|q
 .exact h ae s U H x v vl vu lo hi sl Q I rx hs pl pu q
 .exact h' ae s U H x v vl vu lo hi sl Q I rx hs pl pu q
def tSl(r:V->Option Int->Option Int->Hp->VK->Prop)(te:TE)(tl th:TO):TE:=λU H Q=>te U H λx H1=>tl U H1 λl H2=>th U H2 λu H3=>r x l u H3 Q
theorem Rc{r:V->Option Int->Option Int->Hp->VK->Prop}(hr:SlR X r)(he:PE X e te)(hl:PO X lo tl)(hu:PO X hi th):PE X (.Subscript e (.Slice lo hi none p2) pos) (tSl r te tl th):=by
 intro ae s U H Q I h;refine Subscript_ (thn (he ae s U H _ I h) λv s1 ao=>?_);obtain⟨x,H1,I1,r1,q1⟩:= ao;refine wpAny_Slice (thn (hl ae s1 U H1 _ I1 q1) λvl s2 ⟨l,H2,I2,pl,q2⟩=>thn (hu ae s2 U H2 _ I2 q2) λvu s3 ao=>?_);obtain⟨u,H3,I3,pu,q3⟩:= ao;refine sY ?_;have I4:Inv X ae U H3 {s3 with heap:=s3.heap.push {cls:=.type "slice",data:=.fields #[vl,vu,.none]} }:=I3.kept (t':=s3.toks) λb ob q=>sS _ q
 obtain⟨T,id,hT,ht,hg⟩:=hr ae {s3 with heap:=s3.heap.push {cls:=.type "slice",data:=.fields #[vl,vu,.none]} } U H3 x v vl vu l u s3.heap.objs.size Q I4 r1 (Heap.IsSliceOf.new ..) pl pu q3;exact tail_any (ops:=[.ref s3.heap.objs.size,v]) ht hT hg (by with_unfolding_all rfl)
noncomputable def WL(xs:List V)(lo hi:Option Int):List V:=(xs.drop (HT.sIx xs.length 0 lo)).take (HT.sIx xs.length xs.length hi-HT.sIx xs.length 0 lo)
theorem GR(xs:List V)(lo hi:Option Int):(WL xs lo hi).length<=xs.length:=by
 unfold WL;rw[uA,List.length_drop]
 lia
def rSlT(K:Fg):V->Option Int->Option Int->Hp->VK->Prop:=λx lo hi H Q=>∃a xs,x=.ref a/\SqT K H a xs /\
 ¬(HT.sIx xs.length 0 lo=0/\HT.sIx xs.length xs.length hi=xs.length)/\∀p,H p=none->Q (.ref p) (upd H p (.tup (WL xs lo hi)))
theorem XC:SlR X (rSlT X.K):=by
 intro ae s U H x v vl vu lo hi sl Q I rx hs pl pu h;obtain⟨a,xs,rfl,hx,hw,q⟩:=h;cases rx;obtain⟨ak,r,ht,hz⟩:=I.tuple hx;have hlen:ak.toArray.size=xs.length:=by rw[sX];exact r.length.symm
 refine⟨"tuple",_,PyProof.Rows.slot_tuple_getitem.lookup,ht.typeIs,?_⟩;refine HT.E9 ht hs pl pu (by rwa[hlen]) ?_ (by rwa[hlen]);rw[hlen];refine⟨.ref s.heap.objs.size,_,I.laid (t':=s.toks) (o:=.tup (WL xs lo hi)) (λb ob q=>sS _ q) (tD _) ?_,rfl,q _ (I.zZ.fresh (tD _))⟩;exact⟨tY (GR xs lo hi) hz,_,(r.drop (HT.sIx xs.length 0 lo)).take (HT.sIx xs.length xs.length hi-HT.sIx xs.length 0 lo),IsTup.new _ _⟩
def XU(K:Fg):R2:=λx y H Q=>∃a b xs ys,x=.ref a/\y=.ref b/\SqT K H a xs/\SqT K H b ys/\xs≠[]/\xs.length+ys.length<=sizeLine /\
 (ys=[]->Q (.ref a) H)/\(ys≠[]->∀p,H p=none->Q (.ref p) (upd H p (.tup (xs++ys))))
theorem Vals.Lg(r:Vals xs us):us=[]↔xs=[]:=by cases r with|nil=>simp|cons _ _=>simp
theorem Vo:OpR X (binaryOp .Add) (XU X.K):=by intro ae s U H x y v u Q I rx ry h;obtain⟨a,b,xs,ys,rfl,rfl,ha,hb,hx,hz,q1,q2⟩:=h;cases rx;cases ry;obtain⟨ak,r1,p1,_⟩:=I.tuple ha;obtain⟨aJ,r2,p2,_⟩:=I.tuple hb;refine HT.WU p1 p2 (λz=>hx (r1.Lg.mp z)) (λz=>⟨.ref a,H,I,rfl,q1 (r2.Lg.mp z)⟩) (λz=>?_) (by rwa[<- r1.length,<- r2.length]);refine⟨.ref s.heap.objs.size,_,I.laid (λb ob q=>sS _ q) (tD _) ?_,rfl,q2 (λw=>z (r2.Lg.mpr w)) _ (I.zZ.fresh (tD _))⟩;exact⟨by rw[t5];exact hz,_,r1.append r2,IsTup.new _ _⟩
noncomputable def ixN(n:Nat)(i:Int):Option Nat:=if 0<=i then(if i<n then some i.toNat else none)else if -(n:Int)<=i then some (i+n).toNat else none
noncomputable def atI{α:Type}(xs:List α)(i:Int):Option α:=(ixN xs.length i).bind λj=>xs[j]?
theorem O2(h:ixN n i=some j):seqIndex? i n=some j/\j<n/\-(n:Int)<=i/\i<n:=by
 unfold ixN at h;by_cases h0:0<=i
 .rw[if_pos h0]at h;by_cases h1:i<n
  .rw[if_pos h1]at h;have e:=Option.some.inj h;exact⟨by rw[seqIndex_of h0 h1,e],by lia,by lia,h1⟩
  .rw[if_neg h1]at h;cases h
 .rw[if_neg h0]at h;by_cases h1:-(n:Int)<=i
  .rw[if_pos h1]at h;have e:=Option.some.inj h;exact⟨by rw[seqIndex_neg (by lia) h1,e],by lia,h1,by lia⟩
  .rw[if_neg h1]at h;cases h
theorem LI(h:atI xs i=some v):∃j,seqIndex? i xs.length=some j/\xs[j]?=some v/\j<xs.length/\-(xs.length:Int)<=i/\i<xs.length:=by unfold atI at h;cases e:ixN xs.length i with|none=>rw[e]at h;cases h|some j =>rw[e]at h;obtain⟨h1,h2,h3,h4⟩:=O2 e;exact⟨j,h1,h,h2,h3,h4⟩
theorem DA{α:Type}{xs:List α}{j:Nat}{v:α}(h:xs[j]?=some v):atI xs (j:Int)=some v:=by
 have hj:j<xs.length:=(tu.mp h).1;have e:ixN xs.length (j:Int)=some j:=by unfold ixN;rw[if_pos (by lia),if_pos (by lia)];simp
 unfold atI;rwa[e]
def Jn(b:Expr):Prop:=∀o i,subscripted b false o i=operate [o,i] (getItem o i)
def IxR(X:Cx)(r:R2):Prop :=
 ∀(value aC:Expr)(ae:List (Addr×Obj))(s:Shared)(U:St)(H:Hp)(x y:V)(v u:Value)(Q:VK),Inv X ae U H s->RelV x v->RelV y u->r x y H Q ->
  subscripted aC false v u=operate [v,u] (getItem v u)->wpAny (model X.prog X.w) X.A (subscriptTail value aC v u) (EP X ae U Q) X.xe s
def MtR(X:Cx)(id:String)(r:V->List V->Hp->VK->Prop):Prop :=
 ∀(ae:List (Addr×Obj))(s:Shared)(U:St)(H:Hp)(x:V)(xs:List V)(v:Value)(us:List Value)(Q:VK),Inv X ae U H s->RelV x v->Vals xs us->r x xs H Q ->
  wpAny (model X.prog X.w) X.A (call (.builtin id) (v::us)) (EP X ae U Q) X.xe s
variable{a b:Expr}{ta tb:TE}
variable{o:Expr}{es:List Expr}{to:TE}{name:Str}{aw ax:Pos}{T:String}{r:V->List V->Hp->VK->Prop}
section
theorem IxR.or{r}(h:IxR X r)(h':IxR X r'):IxR X (λx y H Q=>r x y H Q\/r' x y H Q):=by
 intro value aC ae s U H x y v u Q I rx ry q hs;rcases q with q|q
 .exact h value aC ae s U H x y v u Q I rx ry q hs
 .exact h' value aC ae s U H x y v u Q I rx ry q hs
theorem Yg{r}(hr:IxR X r)(ha:PE X a ta)(hb:PE X b tb)(hs:Jn b):PE X (.Subscript a b pos) (tOp r ta tb):=by intro ae s U H Q I h;exact Subscript_ (JbD ha hb I h λv u s2 x y H2 I2 rx ry q=>hr a b ae s2 U H2 x y v u Q I2 rx ry q (hs _ _))
def JbS(K:Fg):R2:=λx y H Q=>∃p xs i v,x=.ref p/\y=.int i/\SqL K H p xs/\atI xs i=some v/\Q v H
def JbQ(K:Fg):R2:=λx y H Q=>∃p xs i v,x=.ref p/\y=.int i/\SqT K H p xs/\atI xs i=some v/\Q v H
def JbR:R2:=λx y H Q=>∃z i c,x=.str z/\y=.int i/\z.length<=sizeLine/\atI z.cps.toList i=some c/\Q (.str ⟨#[c]⟩) H
theorem O1:IxR X (JbS X.K):=by
 intro value aC ae s U H x y v u Q I rx ry h hs;obtain⟨p,xs,i,z,rfl,rfl,hq,he,q⟩:=h;cases rx;obtain⟨t,rfl⟩:=ry;obtain⟨ak,r,pl,hz⟩:=I.list hq;obtain⟨j,h1,h2,h3,h4,h5⟩:=LI he;obtain⟨w,ew,dI⟩:=r.get h2;have hl:=r.length;have hn:=HM;have ba:EP X ae U Q w s:=⟨z,H,I,dI,q⟩
 by_cases h0:0<=i
 .have hj:i.toNat=j:=by rw[seqIndex_of h0 h5]at h1;exact Option.some.inj h1
  exact item_listR pl.isList h0 (by lia) (by rw[hj];simpa using ew) ba hs
 .have hj:(i+(ak.toArray.size:Int)).toNat=j:=by rw[seqIndex_neg (by lia) h4]at h1;rw[sX,<- hl];exact Option.some.inj h1
  exact subscriptTail_builtinR (x:=w) pl.isList.typeIs slot_list_getitem.lookup
   (wpAny_getItem_list_neg (Q:=λr s'=>r=w/\EP X ae U Q r s') pl.isList (by lia) (by rw[sX]<;>lia) (by lia) (by rw[hj];simpa using ew) ⟨rfl,ba⟩) hs
theorem YS:IxR X (JbQ X.K):=by
 intro value aC ae s U H x y v u Q I rx ry h hs;obtain⟨p,xs,i,z,rfl,rfl,hq,he,q⟩:=h;cases rx;obtain⟨t,rfl⟩:=ry;obtain⟨ak,r,pl,hz⟩:=I.tuple hq;obtain⟨j,h1,h2,h3,h4,h5⟩:=LI he;obtain⟨w,ew,dI⟩:=r.get h2;have hl:=r.length;have hn:=HM;have ba:EP X ae U Q w s:=⟨z,H,I,dI,q⟩
 exact subscriptTail_builtinR (x:=w) pl.typeIs slot_tuple_getitem.lookup
  (getItem_tuple (j:=j) (Q:=λr s'=>r=w/\EP X ae U Q r s') pl (by lia) (by lia) (by rwa[sX,<- hl]) (by simpa using ew) ⟨rfl,ba⟩) hs
theorem YT:IxR X JbR:=by
 intro value aC ae s U H x y v u Q I rx ry h hs;obtain⟨z,i,c,rfl,rfl,hz,he,q⟩:=h;obtain⟨t,rfl⟩:=rx;obtain⟨t',rfl⟩:=ry;obtain⟨j,h1,h2,h3,h4,h5⟩:=LI he;have hl:z.cps.toList.length=z.length:=by simp[Str.length]
 rw[hl]at h1 h4 h5;have hn:=HM;exact tail_any (typeIs_str s z t) slot_str_getitem.lookup (getItem_str (c:=c) (by have e1:decide (i < -(2^63:Int))=false:=tS (by lia);have e2:decide (i>=2^63)=false:=tS (by lia);rw[e1,e2,Bool.or_false]) (by rw[h1];simpa using h2) ⟨.str ⟨#[c]⟩,H,I.tok _,⟨_,rfl⟩,q⟩) hs
def rIx(K:Fg):R2:=λx y H Q=>JbS K x y H Q\/JbQ K x y H Q\/JbR x y H Q
theorem YU:IxR X (rIx X.K):=O1.or (YS.or YT)
theorem M8(ak:List Value)(n j:Nat)(u:Value):Obj.mapSeq (·.setIfInBounds j u) {cls:=.type "list",data:=.seq ak.toArray n}={cls:=.type "list",data:=.seq (ak.set j u).toArray n}:=by simp[Obj.mapSeq]
theorem Inv.lst(I:Inv X ae U H s)(h:H p=some (.lst xs)):
  ∃(ak:List Value)(n:Nat),Vals xs ak/\s.heap.get? p=some {cls:=.type "list",data:=.seq ak.toArray n}/\xs.length<=sizeLine:=by
 obtain⟨z,ak,n,r,e⟩:=I.zZ p _ h;exact⟨ak,n,r,e,z⟩
theorem Inv.YJ{ae:List (Addr×Obj)}{U:St}{H:Hp}{s:Shared}{p:Addr}{xs ys:List V}{ak aS:List Value}{n n':Nat}{f:Obj->Obj}(I:Inv X ae U H s)(h:H p=some (.lst xs))
  (ho:s.heap.get? p=some {cls:=.type "list",data:=.seq ak.toArray n}) (hf:f {cls:=.type "list",data:=.seq ak.toArray n}={cls:=.type "list",data:=.seq aS.toArray n' }) (r:Vals ys aS) (hz:ys.length<=sizeLine) (t:Nat) :
  Inv X ae U (upd H p (.lst ys)) {s with heap:=s.heap.update p f,toks:=t}:=by
 have e:(s.heap.update p f).get? p=some {cls:=.type "list",data:=.seq aS.toArray n' }:=by rw[uh f ho (by rw[hf]<;>rfl),hf]
 refine I.write (x:=p) (e:=p) (by rw[h];trivial) (.inl rfl) (λb u hb q=>(uc _ _ (Ne.symm hb)).trans q) ⟨_,e⟩ ?_;exact⟨hz,aS,n',r,e⟩
def UR:V->V->V->Hp->(Hp->Prop)->Prop:=λo i v H Q=>∃p xs k j,o=.ref p/\i=.int k/\H p=some (.lst xs)/\ixN xs.length k=some j/\Q (upd H p (.lst (xs.set j v)))
theorem set_list:Tf X UR:=by
 intro ae s U H o i v ov iv u Q I ro ri rv h;obtain⟨p,xs,k,j,rfl,rfl,hp,hj,q⟩:=h;cases ro;obtain⟨t,rfl⟩:=ri;obtain⟨ak,n,r,ho,hz⟩:=I.lst hp;obtain⟨h1,h2,h3,h4⟩:=O2 hj;have hl:=r.length;have hn:=HM;have I':Inv X ae U (upd H p (.lst (xs.set j v))) {s with heap:=s.heap.update p (Obj.mapSeq (·.setIfInBounds j u))} :=
  I.YJ hp ho (M8 ak n j u) (r.set rv j) (by rwa[List.length_set]) s.toks
 by_cases h0:0<=k
 .have hk:k.toNat=j:=by rw[seqIndex_of h0 h4]at h1;exact Option.some.inj h1
  exact PySem.W.ki_setAt ho h0 (by lia) (by rwa[sX,<- hl]) (by rw[hk];exact⟨_,I',q⟩)
 .have hk:(k+(ak.toArray.size:Int)).toNat=j:=by rw[seqIndex_neg (by lia) h3]at h1;rw[sX,<- hl];exact Option.some.inj h1
  exact PySem.W.ki_setBack ho (by lia) (by rwa[sX,<- hl]) (by lia) (by rw[hk];exact⟨_,I',q⟩)
theorem JD(lo hi:Option Int)(n:Nat):(sliceBounds lo hi none n).1=((HT.sIx n 0 lo:Nat):Int)/\(sliceBounds lo hi none n).2.1=((HT.sIx n n hi:Nat):Int)/\(sliceBounds lo hi none n).2.2=1:=by
 refine⟨?_,?_,rfl⟩
 .cases lo with
  |none=>simp[sliceBounds,HT.sIx]
  |some i =>
   simp only[sliceBounds,HT.sIx,Option.getD_none,if_true];by_cases h:i<0
   .simp only[h,if_true]<;>lia
   .simp only[h,if_false]<;>lia
 .cases hi with
  |none=>simp[sliceBounds,HT.sIx]
  |some i =>
   simp only[sliceBounds,HT.sIx,Option.getD_none,if_true];by_cases h:i<0
   .simp only[h,if_true]<;>lia
   .simp only[h,if_false]<;>lia
theorem Iu(ak:List Value)(lo hi:Option Int):slicePick ak.toArray lo hi none=((ak.drop (HT.sIx ak.length 0 lo)).take (HT.sIx ak.length ak.length hi-HT.sIx ak.length 0 lo)).toArray:=by obtain⟨h1,h2,h3⟩:=JD lo hi ak.toArray.size;unfold slicePick;rw[h1,h2,h3];simp only[sliceRange_one,pick_run]<;>rfl
def rSlL(K:Fg):V->Option Int->Option Int->Hp->VK->Prop:=λx lo hi H Q=>∃a xs,x=.ref a/\SqL K H a xs/\∀p,H p=none->Q (.ref p) (upd H p (.lst (WL xs lo hi)))
theorem UK:SlR X (rSlL X.K):=by intro ae s U H x v vl vu lo hi sl Q I rx hs pl pu h;obtain⟨a,xs,rfl,hx,q⟩:=h;cases rx;obtain⟨ak,r,ht,hz⟩:=I.list hx;have hlen:=r.length;refine⟨"list",_,slot_list_getitem.lookup,ht.isList.typeIs,?_⟩;refine wpAny_getItem_list_slice ht.isList hs pl pu .none (by simp) ?_ (by rw[sX]<;>lia);rw[Iu,<- hlen];refine⟨.ref s.heap.objs.size,_,I.laid (λb ob q=>sS _ q) (tD _) ?_,rfl,q _ (I.zZ.fresh (tD _))⟩;exact⟨tY (GR xs lo hi) hz,_,0,(r.drop (HT.sIx xs.length 0 lo)).take (HT.sIx xs.length xs.length hi-HT.sIx xs.length 0 lo),tj _ rfl⟩
noncomputable def Fe:V->Bool
 |.v=>true
 |.o _=>true
 |.int _=>true
 |.str _=>true
 |_=>false
noncomputable def eqV:V->V->Bool
 |.v,.v=>true
 |.o a,.o b=>a==b
 |.o a,.int b=>(if a then 1 else 0)==b
 |.int a,.o b=>a==(if b then 1 else 0)
 |.int a,.int b=>a==b
 |.str a,.str b=>a==b
 |_,_=>false
theorem Uj(ry:RelV y u)(rx:RelV x v)(fy:Fe y=true)(fx:Fe x=true):SeqAt.EqAt A s u v (eqV y x):=by
 cases y with
 |v =>cases ry;cases x with|v=>cases rx;exact SeqAt.EqAt.same _|o b=>cases rx;exact SeqAt.EqAt.none_bool b|int b=>obtain⟨t,rfl⟩:=rx;exact SeqAt.EqAt.none_int b t|str b=>obtain⟨t,rfl⟩:=rx;exact SeqAt.EqAt.none_str b t|_=>exact absurd (show false=true from fx) tR
 |o a =>cases ry;cases x with|v=>cases rx;exact SeqAt.EqAt.bool_none a|o b=>cases rx;exact SeqAt.EqAt.bool_bool a b|int b=>obtain⟨t,rfl⟩:=rx;exact SeqAt.EqAt.bool_int a b t|str b=>obtain⟨t,rfl⟩:=rx;exact SeqAt.EqAt.bool_str a b t|_=>exact absurd (show false=true from fx) tR
 |int a =>obtain⟨t',rfl⟩:=ry;cases x with|v=>cases rx;exact SeqAt.EqAt.int_none a t'|o b=>cases rx;exact SeqAt.EqAt.int_bool a t' b|int b=>obtain⟨t,rfl⟩:=rx;exact SeqAt.EqAt.int_int a t' b t|str b=>obtain⟨t,rfl⟩:=rx;exact SeqAt.EqAt.int_str a t' b t|_=>exact absurd (show false=true from fx) tR
 |str a =>obtain⟨t',rfl⟩:=ry;cases x with|v=>cases rx;exact SeqAt.EqAt.str_none a t'|o b=>cases rx;exact SeqAt.EqAt.str_bool a t' b|int b=>obtain⟨t,rfl⟩:=rx;exact SeqAt.EqAt.str_int a t' b t|str b=>obtain⟨t,rfl⟩:=rx;exact SeqAt.EqAt.str_str a t' b t|_=>exact absurd (show false=true from fx) tR
 |_=>exact absurd (show false=true from fy) tR
noncomputable def eqU(x:V)(u:Value):Bool:=match u with|.none=>eqV .v x|.bool b=>eqV (.o b) x|.int i _=>eqV (.int i) x|.str z _=>eqV (.str z) x|_=>false
theorem Ui(r:RelV y u)(f:Fe y=true):eqU x u=eqV y x:=by cases y with|v=>cases r;rfl|o b=>cases r;rfl|int i=>obtain⟨t,rfl⟩:=r;rfl|str z=>obtain⟨t,rfl⟩:=r;rfl|_=>exact absurd (show false=true from f) tR
theorem Hg:∀{xs:List V}{us:List Value},Vals xs us->xs.all Fe=true->us.any (eqU x)=xs.any λy=>eqV y x
 |_,_,.nil,_=>rfl
 |y::xs,u::us,.cons r t,f=>by rw[List.all_cons,tW]at f;rw[uP,uP,Ui r f.1,Hg t f.2]
theorem EF(rx:RelV x v)(fx:Fe x=true):∀{xs:List V}{us:List Value},Vals xs us->xs.all Fe=true->∀u∈us,SeqAt.EqAt A s u v (eqU x u)
 |_,_,.nil,_=>λu hu=>by cases hu
 |y::xs,u::us,.cons r t,f=>λu' hu=>by
  rw[List.all_cons,tW]at f;rcases tm.mp hu with rfl|hu
  .rw[Ui r f.1];exact Uj r rx f.1 fx
  .exact EF rx fx t f.2 u' hu
noncomputable def inV(x:V)(xs:List V):Bool:=xs.any λy=>eqV y x
def rIn(K:Fg)(neg:Bool):R2:=λx y H Q=>∃p xs,y=.ref p/\(SqL K H p xs\/SqT K H p xs)/\Fe x=true/\xs.all Fe=true/\Q (.o (if neg then !inV x xs else inV x xs)) H
theorem JW:OpR X (compareOp .In) (rIn X.K false):=by
 intro ae s U H x y v u Q I rx ry h;obtain⟨p,xs,rfl,hq,fx,fs,q⟩:=h;cases ry;rcases hq with hq|hq
 .obtain⟨ak,r,pl,hz⟩:=I.list hq;refine SeqAt.in_listAt (eqU x) pl.isList (λw hw=>EF rx fx r fs w (by simpa using hw)) ⟨.o _,H,I,rfl,?_⟩;rwa[show ak.toArray.any (eqU x)=ak.any (eqU x) by simp,Hg r fs]
 .obtain⟨ak,r,pl,hz⟩:=I.tuple hq;refine SeqAt.in_tupleAt (eqU x) pl (λw hw=>EF rx fx r fs w (by simpa using hw)) ⟨.o _,H,I,rfl,?_⟩;rwa[show ak.toArray.any (eqU x)=ak.any (eqU x) by simp,Hg r fs]
theorem JU:OpR X (compareOp .NotIn) (rIn X.K true):=by
 intro ae s U H x y v u Q I rx ry h;obtain⟨p,xs,rfl,hq,fx,fs,q⟩:=h;cases ry;rcases hq with hq|hq
 .obtain⟨ak,r,pl,hz⟩:=I.list hq;refine SeqAt.notIn_listAt (eqU x) pl.isList (λw hw=>EF rx fx r fs w (by simpa using hw)) ⟨.o _,H,I,rfl,?_⟩;rwa[show ak.toArray.any (eqU x)=ak.any (eqU x) by simp,Hg r fs]
 .obtain⟨ak,r,pl,hz⟩:=I.tuple hq;refine SeqAt.notIn_tupleAt (eqU x) pl (λw hw=>EF rx fx r fs w (by simpa using hw)) ⟨.o _,H,I,rfl,?_⟩;rwa[show ak.toArray.any (eqU x)=ak.any (eqU x) by simp,Hg r fs]
theorem JT:OpR X (compareOp .NotIn) (λx y H Q=>∃i j,x=.str i/\y=.str j/\Q (.o (!(!(Builtin.Str.occurrences j i 0 j.length 1).isEmpty))) H):=by intro ae s U H x y v u Q I rx ry h;obtain⟨i,j,rfl,rfl,q⟩:=h;obtain⟨t,rfl⟩:=rx;obtain⟨t',rfl⟩:=ry;exact notIn_str ⟨.o _,H,I,rfl,q⟩
theorem KC:CU X (.builtin "len") (λxs H Q=>∃p ys,xs=[.ref p]/\(SqL X.K H p ys\/SqT X.K H p ys)/\Q (.int ys.length) H):=by
 intro ae s U H xs us Q I r h;obtain⟨p,ys,rfl,hq,q⟩:=h;obtain⟨u,rfl,rx⟩:=vals1 r;cases rx;have hn:=HM;rcases hq with hq|hq
 .obtain⟨ak,r',pl,hz⟩:=I.list hq;have hlen:=r'.length;exact Calls.call_len_list pl.isList (by simp only[sX]<;>lia) ⟨.int ys.length,H,I.tok _,⟨s.toks+1,by rw[sX,hlen]⟩,q⟩
 .obtain⟨ak,r',pl,hz⟩:=I.tuple hq;have hlen:=r'.length;exact len_tuple pl (by simp only[sX]<;>lia) ⟨.int ys.length,H,I.tok _,⟨s.toks+1,by rw[sX,hlen]⟩,q⟩
theorem KA:CU X (.builtin "len") (λxs H Q=>∃z,xs=[.str z]/\z.length<=sizeLine/\Q (.int z.length) H):=by intro ae s U H xs us Q I r h;obtain⟨z,rfl,hz,q⟩:=h;obtain⟨u,rfl,t,rfl⟩:=vals1 r;have hn:=HM;exact len_str (by lia) ⟨.int z.length,H,I.tok _,⟨_,rfl⟩,q⟩
theorem Kz:CU X (.type "list") (λxs H Q=>∃p ys,xs=[.ref p]/\(SqL X.K H p ys\/SqT X.K H p ys)/\∀l,H l=none->Q (.ref l) (upd H l (.lst ys))):=by
 intro ae s U H xs us Q I r h;obtain⟨p,ys,rfl,hq,q⟩:=h;obtain⟨u,rfl,rx⟩:=vals1 r;cases rx;have ba:∀(ak:List Value),Vals ys ak->ys.length<=sizeLine->∀(h':Heap)(c':Nat),(∀b o',s.heap.get? b=some o'->h'.get? b=some o') ->
   h'.get? s.heap.objs.size=some {cls:=.type "list",dict:=none,data:=.seq ak.toArray c',slots:=#[]}->EP X ae U Q (.ref s.heap.objs.size) {s with heap:=h' }:=λak r' hz h' c' kp e =>
  ⟨.ref s.heap.objs.size,_,I.laid (t':=s.toks) kp (tD _) (show BJ X.prog X.w _ h' _ (.lst ys)from⟨hz,ak,c',r',e⟩),rfl,q _ (I.zZ.fresh (tD _))⟩
 rcases hq with hq|hq
 .obtain⟨ak,r',pl,hz⟩:=I.list hq;have hlen:=r'.length;obtain⟨o,ho,hc,n,hd⟩:=pl.isList;exact call_list_seq p (.inl rfl) ho hc hd (λh' c' kp e=>ba ak r' hz h' c' kp e) (by simp only[sX]<;>lia)
 .obtain⟨ak,r',pl,hz⟩:=I.tuple hq;have hlen:=r'.length;obtain⟨o,ho,hc,n,hd⟩:=pl;exact call_list_seq p (.inr rfl) ho hc hd (λh' c' kp e=>ba ak r' hz h' c' kp e) (by simp only[sX]<;>lia)
theorem Jg:CU X (.type "tuple") (λxs H Q=>∃p ys,xs=[.ref p]/\((SqL X.K H p ys/\∀l,H l=none->Q (.ref l) (upd H l (.tup ys)))\/(SqT X.K H p ys/\Q (.ref p) H))):=by
 intro ae s U H xs us Q I r h;obtain⟨p,ys,rfl,h⟩:=h;obtain⟨u,rfl,rx⟩:=vals1 r;cases rx;rcases h with⟨hq,q⟩|⟨hq,q⟩
 .obtain⟨ak,r',pl,hz⟩:=I.list hq;have hlen:=r'.length;refine call_tuple_list pl.isList (λh' kp=>?_) (by simp only[sX]<;>lia);have I1:Inv X ae U H {s with heap:=h' }:=I.kept (t':=s.toks) kp;have I2:Inv X ae U (upd H h'.objs.size (.tup ys)) {s with heap:=h'.push {cls:=.type "tuple",data:=.seq ak.toArray} } :=
   I1.laid (t':=s.toks) (λb o e=>sS _ e) (tD _) (show BJ X.prog X.w _ _ _ (.tup ys)from⟨hz,ak,r',IsTup.new _ _⟩)
  exact⟨.ref h'.objs.size,_,I2,rfl,q _ (I1.zZ.fresh (tD _))⟩
 .obtain⟨ak,r',pl,hz⟩:=I.tuple hq;exact call_tuple_same pl ⟨.ref p,H,I,rfl,q⟩
def tyV(K:Fg)(T:String)(x:V)(H:Hp):Prop:=match x with
 |.str _=>T="str"
 |.int _=>T="int"
 |.ref p=>(T="list"/\∃xs,SqL K H p xs)\/(T="tuple"/\∃o,K.lookup p=some o/\o.cls=.type "tuple"/\o.dict=none)\/
   (T="dict"/\((∃ah,H p=some (.l ah))\/∃ah,H p=some (.dT ah)))\/(T="set"/\∃S n,H p=some (.set S n))
 |_=>False
theorem Tp{ae:List (Addr×Obj)}{U:St}{H:Hp}{s:Shared}{T:String}{x:V}{v:Value}(I:Inv X ae U H s)(r:RelV x v)(ty:tyV X.K T x H):
  s.TypeIs v T/\∀a,v=.ref a->∃ob,s.heap.get? a=some ob/\ob.dict=none:=by
 cases x with
 |str z =>obtain⟨t,rfl⟩:=r;cases(show T="str" from ty);exact⟨typeIs_str s z t,λ_ e=>nomatch e⟩
 |int i =>obtain⟨t,rfl⟩:=r;cases(show T="int" from ty);exact⟨typeIs_int s i t,λ_ e=>nomatch e⟩
 |ref p =>
  cases r;rcases ty with⟨rfl,xs,hq⟩|⟨rfl,o,hk,hc,hd⟩|⟨rfl,hk⟩|⟨rfl,S,n,hk⟩
  .obtain⟨ak,_,pl,_⟩:=I.list hq;refine⟨pl.isList.typeIs,λa e=>?_⟩;cases e;obtain⟨o,n,e,c,hd,_⟩:=pl;exact⟨o,e,hd⟩
  .refine⟨⟨o,I.kIn p o hk,hc⟩,λa e=>?_⟩;cases e;exact⟨o,I.kIn _ o hk,hd⟩
  .have z:∃o,s.heap.get? p=some o/\o.ExactDict:=by
    rcases hk with⟨ah,hk⟩|⟨ah,hk⟩
    .obtain⟨_,_,_,_,o,_,_,e,ex,_⟩:=I.zZ p _ hk;exact⟨o,e,ex⟩
    .obtain⟨_,_,_,_,o,_,_,e,ex,_⟩:=I.zZ p _ hk;exact⟨o,e,ex⟩
   obtain⟨o,e,ex⟩:=z;refine⟨⟨o,e,ex.1⟩,λa e2=>?_⟩;cases e2;exact⟨o,e,ex.2.1⟩
  .obtain⟨o,_,_,_,e,ex,_⟩:=I.zZ p _ hk;refine⟨⟨o,e,ex.1⟩,λa e2=>?_⟩;cases e2;exact⟨o,e,ex.2.1⟩
 |_=>exact False.elim ty
def Jcj(K:Fg)(T:String)(r:V->List V->Hp->VK->Prop)(to:TE):TE:=λU H Q=>to U H λx H1=>tyV K T x H1/\r x [] H1 Q
def tBM(K:Fg)(T:String)(r:V->List V->Hp->VK->Prop)(to:TE)(t:TA):TE:=λU H Q=>to U H λx H1=>tyV K T x H1/\t U H1 λxs H2=>r x xs H2 Q
variable{t:TA}{id:String}
theorem Yi(pa:PlainAttrs T)(slot:Slot T name id)(fA:typeOf (.builtin id)=pure (.type "method_descriptor"))(hm:MtR X id r)(ho:PE X o to)
  (aO:attributeBase o name X.env (eval o X.env)=eval o X.env:=by rfl) (aP:(aw.endLine==ax.line)=true:=by rfl):PE X (.Call (.Attribute o name aw) [] [] ax) (Jcj X.K T r to):=by
 intro ae s U H Q I h;refine wpAny_Call_method0_late aO aP (thn (ho ae s U H _ I h) λv s1 ao=>?_);obtain⟨x,H1,I1,r1,ty,q1⟩:= ao;obtain⟨h1,h2⟩:=Tp I1 r1 ty;exact⟨T,id,pa,slot,fA,h1,h2,Calls.callWith_builtin rfl (PySem.evalArgs_none (hm ae s1 U H1 x [] v [] Q I1 r1 .nil q1))⟩
theorem Vh(pa:PlainAttrs T)(slot:Slot T name id)(fA:typeOf (.builtin id)=pure (.type "method_descriptor"))(hm:MtR X id r)(ho:PE X o to)(ha:PA X (e::es) t)
  (aO:attributeBase o name X.env (eval o X.env)=eval o X.env:=by rfl)
  (eC:((backTo ax (starEach (e::es) X.env)).all (λx=>!x.1)&&(backToKw ax (keywordEach [] X.env)).all (λx=>x.1.isSome)
  &&decide ((e::es).length+([]:List Keyword).length+(if([]:List Keyword).isEmpty then 0 else 1)<30))=true:=by rfl)
  (aP:(aw.endLine==ax.line)=true:=by rfl) (hs:starEach (e::es) X.env=(false,eval e X.env)::starEach es X.env:=by rfl) (cb:(backTo ax (starEach es X.env)).any (·.1)=false:=by rfl) :
  PE X (.Call (.Attribute o name aw) (e::es) [] ax) (tBM X.K T r to t):=by
 intro ae s U H Q I h;refine wpAny_Call_method_late aO eC aP rfl (thn (ho ae s U H _ I h) λv s1 ao=>?_);obtain⟨x,H1,I1,r1,ty,q1⟩:= ao;obtain⟨h1,h2⟩:=Tp I1 r1 ty;refine⟨T,id,pa,slot,fA,h1,h2,?_⟩;have hA:=ha ax ae s1 U H1 _ I1 q1;rw[hs]at hA ⊢;refine Calls.callWith_builtin (by show(false||(backTo ax (starEach es X.env)).any (·.1))=false;rw[cb]<;>rfl) (Calls.evalArgs_plain ?_);refine thn hA λus s2 ao => ?_
 obtain⟨vs,H2,I2,r2,q2⟩:= ao;exact hm ae s2 U H2 x vs v us Q I2 r1 r2 q2
end
def MtM(X:Cx)(id:String)(r:V->List V->Hp->VK->Prop):Prop :=
 ∀(ae:List (Addr×Obj))(s:Shared)(U:St)(H:Hp)(x:V)(xs:List V)(v:Value)(us:List Value)(Q:VK),Inv X ae U H s->RelV x v->Vals xs us->r x xs H Q ->
  wpAny (model X.prog X.w) X.A (call (.builtin id) (v::us)) (EP X ae U Q) X.xe s
theorem Vals.one:∀{x:V}{us:List Value},Vals [x] us->∃u,us=[u]/\RelV x u
 |_,_,.cons r .nil=>⟨_,rfl,r⟩
theorem Vals.zero:∀{us:List Value},Vals [] us->us=[]
 |_,.nil=>rfl
theorem Vals.dropLast(h:Vals xs us):Vals xs.dropLast us.dropLast:=by induction h with|nil=>exact .nil|cons r t ih =>cases t with|nil=>exact .nil|cons q t'=>exact .cons r ih
theorem Vals.reverse(h:Vals xs us):Vals xs.reverse us.reverse:=by induction h with|nil=>exact .nil|cons r t ih=>rw[uS,uS];exact Vals.append ih (.cons r .nil)
theorem Nu{α:Type}(l:List α):l.eraseIdx (l.length-1)=l.dropLast:=by
 induction l with
 |nil=>rfl
 |cons a r ih =>
  cases r with
  |nil=>rfl
  |cons b r =>
   have e:(a::b::r).length-1=((b::r).length-1)+1:=by
    have h1:(a::b::r).length=r.length+2:=rfl;have h2:(b::r).length=r.length+1:=rfl
    lia
   rw[e,List.eraseIdx_cons_succ,ih]
   all_goals rfl
variable{ae:List (Addr×Obj)}{U:St}{H:Hp}{s:Shared}{l b:Addr}{xs ys zs:List V}
theorem Inv.Jak{ak aS:List Value}{n:Nat}{f:Array Value->Array Value}{t':Nat}(I:Inv X ae U H s)(hH:H l=some (.lst xs))
  (e:s.heap.get? l=some {cls:=.type "list",data:=.seq ak.toArray n}) (hf:f ak.toArray=aS.toArray) (hv:Vals ys aS) (hz:ys.length<=sizeLine) :
  Inv X ae U (upd H l (.lst ys)) {s with heap:=s.heap.update l (Obj.mapSeq f),toks:=t' }:=by
 have q:=PySem.IsL.update e f;rw[hf]at q;refine I.write (by rw[hH];exact trivial) (.inl rfl) (λb' u hb hu=>(uc s.heap (Obj.mapSeq f) (Ne.symm hb)).trans hu) ⟨_,q⟩ ?_;exact⟨hz,aS,_,hv,q⟩
theorem Inv.lnew(I:Inv X ae U H s)(hv:Vals ys ak)(hz:ys.length<=sizeLine):
  Inv X ae U (upd H s.heap.objs.size (.lst ys)) {s with heap:=s.heap.push {cls:=.type "list",data:=.seq ak.toArray},toks:=t' } :=
 I.laid (λ_ _ q=>sS _ q) (tD _) ⟨hz,ak,0,hv,tj _ rfl⟩
theorem Inv.fresh(I:Inv X ae U H s):H s.heap.objs.size=none:=I.zZ.fresh (tD _)
theorem Inv.VR(I:Inv X ae U H s)(hH:H l=some (.lst xs)):xs.length<=sizeLine/\∃(ak:List Value)(n:Nat),Vals xs ak/\xs.length=ak.length/\s.heap.get? l=some {cls:=.type "list",data:=.seq ak.toArray n}:=by obtain⟨z,ak,n,r,e⟩:=I.zZ l _ hH;exact⟨z,ak,n,r,r.length,e⟩
theorem Mc(h:n<=sizeLine):Builtin.List.listTooLong n=false:=by exact tS (by lia)
def Od:V->List V->Hp->VK->Prop:=λx vs H Q=>∃l xs y,x=.ref l/\vs=[y]/\H l=some (.lst xs)/\xs.length<sizeLine/\Q .v (upd H l (.lst (xs++[y])))
theorem Gq:MtM X "list.append" Od:=by
 intro ae s U H x vs v us Q I rx rv h;obtain⟨l,xs,y,rfl,rfl,hH,hz,q⟩:=h;cases rx;obtain⟨u,rfl,ru⟩:=rv.one;obtain⟨z,ak,n,r,hl,e⟩:=I.VR hH;refine call_meets F.slot_list_append ⟨_,e,rfl⟩ F.entry_list_append (F.args_list_append_2 _ _) (PySem.list_append l ak.toArray n u (by rw[sX];lia)) ⟨e,?_⟩;refine⟨.v,_,I.Jak hH e (by simp) (r.append (.cons ru .nil)) ?_,rfl,q⟩;rw[t5,List.length_singleton]
 lia
def Iz:V->List V->Hp->VK->Prop:=λx vs H Q=>∃l b xs zs,x=.ref l/\vs=[.ref b]/\H l=some (.lst xs)/\H b=some (.lst zs)/\xs.length+zs.length<=sizeLine/\Q .v (upd H l (.lst (xs++zs)))
theorem OJ:MtM X "list.extend" Iz:=by
 intro ae s U H x vs v us Q I rx rv h;obtain⟨l,b,xs,zs,rfl,rfl,hH,hB,hz,q⟩:=h;cases rx;obtain⟨u,rfl,ru⟩:=rv.one;cases ru;obtain⟨z,ak,n,r,hl,e⟩:=I.VR hH;obtain⟨z2,aJ,n2,r2,b0,e2⟩:=I.VR hB;have hsz:ak.toArray.size+aJ.toArray.size<=sizeLine:=by rw[sX,sX];lia
 have jL:¬(!ak.toArray.isEmpty&&Builtin.List.listTooLong (ak.toArray.size+aJ.toArray.size))=true:=by rw[Mc hsz,Bool.and_false];exact tR
 refine call_meets F.slot_list_extend ⟨_,e,rfl⟩ F.entry_list_extend (F.args_list_extend_2 _ _)
  (AutoSeq1.list_extend_list_list_0 l ak.toArray n b aJ.toArray n2 jL (by rw[sX];lia) (by lia)) ⟨e,e2,?_⟩
 refine⟨.v,_,I.Jak (aS:=ak++aJ) hH e (by simp) (r.append r2) ?_,rfl,q⟩;rw[t5]
 lia
def rPop:V->List V->Hp->VK->Prop:=λx vs H Q=>∃l xs y,x=.ref l/\vs=[]/\H l=some (.lst xs)/\xs[xs.length-1]?=some y/\Q y (upd H l (.lst xs.dropLast))
theorem YG:MtM X "list.pop" rPop:=by
 intro ae s U H x vs v us Q I rx rv h;obtain⟨l,xs,y,rfl,rfl,hH,hy,q⟩:=h;cases rx;have qX:=rv.zero;subst qX;obtain⟨z,ak,n,r,hl,e⟩:=I.VR hH;obtain⟨u,hu,ru⟩:=r.get hy;have rj:ak.toArray[ak.toArray.size-1]?=some u:=by show ak.toArray[ak.length-1]?=some u;rwa[<- uT,<- hl]
 refine call_meets F.slot_list_pop ⟨_,e,rfl⟩ F.entry_list_pop (F.args_list_pop_1 _) (MeetsSeq.list_pop_last l ak.toArray n u rj (by rw[sX];lia)) ⟨e,?_⟩;refine⟨y,_,I.Jak (aS:=ak.dropLast) hH e ?_ r.dropLast ?_,ru,q⟩
 .show ak.toArray.eraseIdxIfInBounds (ak.toArray.size-1)=ak.dropLast.toArray;rw[sX,List.eraseIdxIfInBounds_toArray,Nu]
 .rw[List.length_dropLast]
  lia
def JbT:R2:=λx y H Q=>∃l b xs zs,x=.ref l/\y=.ref b/\H l=some (.lst xs)/\H b=some (.lst zs)/\xs.length+zs.length<=sizeLine/\∀p,H p=none->Q (.ref p) (upd H p (.lst (xs++zs)))
theorem Yv:OpR X (binaryOp .Add) JbT:=by
 intro ae s U H x y v u Q I rx ry h;obtain⟨l,b,xs,zs,rfl,rfl,hH,hB,hz,q⟩:=h;cases rx;cases ry;obtain⟨z,ak,n,r,hl,e⟩:=I.VR hH;obtain⟨z2,aJ,n2,r2,b0,e2⟩:=I.VR hB;refine PySem.P.add_list e e2 ?_ (by rw[sX,sX];lia);have ea:ak.toArray++aJ.toArray=(ak++aJ).toArray:=by simp
 rw[ea];exact⟨.ref _,_,I.lnew (t':=s.toks) (r.append r2) (by rw[t5];lia),rfl,q _ I.fresh⟩
variable{prog:Program}{w:World}{A:Around}{E:Value->Shared->Prop}
set_option maxRecDepth 100000 in
section
variable{κ:Type}[DecidableEq κ]
noncomputable def K0(ah:List (κ×V))(k:κ):Option V:=(ah.find? λkv=>decide (kv.1=k)).map (·.2)
noncomputable def putK(ah:List (κ×V))(k:κ)(v:V):List (κ×V) :=
 if(ah.any λkv=>decide (kv.1=k))=true then ah.map (λkv=>if kv.1=k then(kv.1,v)else kv)else ah++[(k,v)]
theorem EB{p:κ×V}{r:List (κ×V)}{k:κ}(e:p.1=k):K0 (p::r) k=some p.2:=by simp[K0,e]
theorem EC{p:κ×V}{r:List (κ×V)}{k:κ}(e:¬p.1=k):K0 (p::r) k=K0 r k:=by simp[K0,e]
theorem LK(k:κ):∀ah:List (κ×V),(ah.any λkv=>decide (kv.1=k))=(K0 ah k).isSome
 | []=>rfl
 |p::r=>by
  rw[uP];by_cases e:p.1=k
  .simp only[EB e,tQ e,Bool.true_or,Option.isSome_some]
  .rw[EC e,tS e,Bool.false_or];exact LK k r
theorem Ep(ah:List (κ×V))(k:κ)(v:V):(putK ah k v).length<=ah.length+1:=by
 unfold putK;split
 .rw[sU];lia
 .rw[t5,tM,List.length_nil];lia
theorem A8.DS{o}(r:A8 o u):o.isSome=u.isSome:=by
 cases o with
 |none=>cases u with|none=>rfl|some _=>exact(show False from r).elim
 |some _=>cases u with|none=>exact(show False from r).elim|some _=>rfl
theorem KV.val{ah:List (κ×V)}{vs:List (κ×Value)}(r:KV ah vs)(k:κ):A8 (K0 ah k) (valueAt vs k):=by
 induction r with
 |nil=>exact True.intro
 |@cons p q ps qs h t ih =>
  obtain⟨h1,h2⟩:=h;by_cases e:p.1=k
  .have e':q.1=k:=h1.symm.trans e;have b:valueAt (q::qs) k=some q.2:=by simp[valueAt,e']
   rwa[EB e,b]
  .have e':¬q.1=k:=λz=>e (h1.trans z)
   have b:valueAt (q::qs) k=valueAt qs k:=by simp[valueAt,e']
   rwa[EC e,b]
theorem KV.any{ah:List (κ×V)}{vs:List (κ×Value)}(r:KV ah vs)(k:κ):(ah.any λkv=>decide (kv.1=k))=vs.any λkv=>decide (kv.1=k):=by induction r with|nil=>rfl|cons h t ih=>rw[uP,uP,ih,h.1]
theorem KV.JaL(r:KV ah vs)(k:κ)(ry:RelV y u):
  KV (ah.map λkv=>if kv.1=k then(kv.1,y)else kv) (vs.map λkv=>if kv.1=k then(kv.1,u)else kv):=by
 induction r with
 |nil=>exact .nil
 |@cons p q ps qs h t ih =>
  rw[sW,sW];refine .cons ?_ ih;obtain⟨h1,h2⟩:=h;by_cases e:p.1=k
  .rw[if_pos e,if_pos (h1.symm.trans e)];exact⟨h1,ry⟩
  .rw[if_neg e,if_neg (λz=>e (h1.trans z))];exact⟨h1,h2⟩
theorem KV.put(r:KV ah vs)(k:κ)(ry:RelV y u):KV (putK ah k y) (stored vs k u):=by
 unfold putK stored;rw[r.any k];by_cases e:(vs.any λkv=>decide (kv.1=k))=true
 .rw[if_pos e,if_pos e];exact r.JaL k ry
 .rw[if_neg e,if_neg e];exact Paired.snoc r ⟨rfl,ry⟩
theorem KV.length(r:KV ah vs):ah.length=vs.length:=Paired.length r
end
theorem Lr(r:RelV (kV k) u):(Bb P w).is k u=true:=by cases k with|inl i=>obtain⟨t,e⟩:=(show ∃t,u=Value.int i t from r);subst e;exact Lm P w i t|inr x=>obtain⟨t,e⟩:=(show ∃t,u=Value.str x t from r);subst e;exact Ll P w x t
theorem J8:∀{ks:List Key}{us:List Value},Vals (ks.map kV) us->ItemsAre (Bb P w) ks us
 | [],_,r=>by rw[uH]at r;cases r;exact .nil
 |k::ks,_,r=>by cases r with|cons h t=>exact .cons (Lr h) (J8 t)
abbrev KT(H:Hp):List (List Key×V)->List (List Key×Addr×Value)->Prop:=Paired λp q=>p.1=q.1/\H q.2.1=some (.tup (p.1.map kV))/\RelV p.2 q.2.2
theorem KT.val{ah:List (List Key×V)}{xs:List (List Key×Addr×Value)}(r:KT H ah xs)(k:List Key):A8 (K0 ah k) ((atKey xs k).map (·.2)):=by
 induction r with
 |nil=>exact True.intro
 |@cons p q ps qs h t ih =>
  obtain⟨h1,_,h2⟩:=h;by_cases e:p.1=k
  .have e':q.1=k:=h1.symm.trans e;have b:atKey (q::qs) k=some q.2:=by simp[atKey,e']
   rwa[EB e,b]
  .have e':¬q.1=k:=λz=>e (h1.trans z)
   have b:atKey (q::qs) k=atKey qs k:=by simp[atKey,e']
   rwa[EC e,b]
theorem KT.JaL{xs}(r:KT H ah xs)(k:List Key)(ry:RelV y u):
  KT H (ah.map λkv=>if kv.1=k then(kv.1,y)else kv) (xs.map (putAt k u)):=by
 induction r with
 |nil=>exact .nil
 |@cons p q ps qs h t ih =>
  rw[sW,sW];refine .cons ?_ ih;obtain⟨h1,h2,h3⟩:=h;unfold putAt;by_cases e:p.1=k
  .rw[if_pos e,if_pos (h1.symm.trans e)];exact⟨h1,h2,ry⟩
  .rw[if_neg e,if_neg (λz=>e (h1.trans z))];exact⟨h1,h2,h3⟩
theorem KT.put{ah:List (List Key×V)}{xs:List (List Key×Addr×Value)}(r:KT H ah xs)(k:List Key){y:V}{u:Value}(hb:H b=some (.tup (k.map kV)))(ry:RelV y u):
  KT H (putK ah k y) (storedH xs k b u):=by
 have e:(ah.any λkv=>decide (kv.1=k))=(atKey xs k).isSome:=by rw[LK,(r.val k).DS,Option.isSome_map]
 unfold putK storedH;rw[e];by_cases q:(atKey xs k).isSome=true
 .rw[if_pos q,if_pos q];exact r.JaL k ry
 .rw[if_neg q,if_neg q];exact Paired.snoc r ⟨rfl,hb,ry⟩
theorem KT.keeps{xs}(r:KT H ah xs)(ht:∀b ys,H b=some (.tup ys)->H' b=some (.tup ys)):KT H' ah xs :=
 Paired.Ja8 r λ_ _ z=>⟨z.1,ht _ _ z.2.1,z.2.2⟩
variable{P:Program}{h:Heap}{a:Addr}
theorem XS(ok:HOk P w H h)(e:Rd H a u):BJ P w H h a u:=e.ok ok
theorem Kq(ok:HOk P w H h)(e:Rd H a (.l ah)):ah.length<=sizeLine/\(a==sysModules)=false/\∃vs,KV ah vs/\h.DictOf (Bb P w) a vs :=
 show BJ P w H h a (.l ah)from XS ok e
theorem ZT(ok:HOk P w H h)(e:H a=some (.l ah)):ah.length<=sizeLine/\(a==sysModules)=false/\∃vs,KV ah vs/\h.DictOf (Bb P w) a vs:=Kq ok (.inl e)
theorem J6(ok:HOk P w H h)(e:H a=some (.tup (ks.map kV))):(tupleKind (Bb P w)).is h ks a:=by
 obtain⟨_,ak,r,o,h1,h2,n,h3⟩:=(show BJ P w H h a (.tup (ks.map kV))from ok a _ e)
 exact⟨o,ak.toArray,n,h1,h2,h3,by simpa using J8 r⟩
theorem Nv{ah:List (List Key×V)}(ok:HOk P w H h)(e:Rd H a (.dT ah)):ah.length<=sizeLine/\(a==sysModules)=false /\
  ∃xs,KT H ah xs/\h.DictOfH (tupleKind (Bb P w)) a xs:=by
 obtain⟨z,y,xs,r,o,es,ep,h1,h2,h3,h4,h5⟩:=(show BJ P w H h a (.dT ah)from XS ok e)
 refine⟨z,y,xs,r,o,es,ep,h1,h2,h3,h4,λx hx=>?_,h5⟩;have all:∀{l:List (List Key×V)}{m:List (List Key×Addr×Value)},KT H l m->∀x∈m,(tupleKind (Bb P w)).is h x.1 x.2.1:=by
  intro l m q
  induction q with
  |nil=>intro x hx;exact nomatch hx
  |@cons p q ps qs hq t ih =>
   intro x hx;rcases tm.mp hx with e|hx
   .subst e;exact J6 ok (by rw[<- hq.1];exact hq.2.1)
   .exact ih x hx
 exact all r x hx
theorem JbA(ok:HOk P w H h)(e:H a=some (.dT ah)):ah.length<=sizeLine/\(a==sysModules)=false /\
  ∃xs,KT H ah xs/\h.DictOfH (tupleKind (Bb P w)) a xs:=Nv ok (.inl e)
def KW(H:Hp)(a:Addr)(y:V)(r:Option V):Prop :=
 (∃ah k,Rd H a (.l ah)/\y=kV k/\r=K0 ah k)\/∃ah k b,Rd H a (.dT ah)/\y=.ref b/\H b=some (.tup (k.map kV))/\r=K0 ah k
def NK(H:Hp)(a:Addr)(y v:V)(H':Hp):Prop :=
 (∃ah k,H a=some (.l ah)/\y=kV k/\ah.length<sizeLine/\H'=upd H a (.l (putK ah k v)))\/
 ∃ah k b,H a=some (.dT ah)/\y=.ref b/\H b=some (.tup (k.map kV))/\ah.length<sizeLine/\H'=upd H a (.dT (putK ah k v))
theorem KW.k{ah:List (Key×V)}{k:Key}(e:H a=some (.l ah)):KW H a (kV k) (K0 ah k):=.inl ⟨ah,k,.inl e,rfl,rfl⟩
theorem KW.t{ah:List (List Key×V)}{k:List Key}(e:H a=some (.dT ah))(eb:H b=some (.tup (k.map kV))):KW H a (.ref b) (K0 ah k):=.inr ⟨ah,k,b,.inl e,rfl,eb,rfl⟩
theorem NK.k{ah:List (Key×V)}{k:Key}{v:V}(e:H a=some (.l ah))(hl:ah.length<sizeLine):NK H a (kV k) v (upd H a (.l (putK ah k v))):=.inl ⟨ah,k,e,rfl,hl,rfl⟩
theorem NK.t{ah:List (List Key×V)}{k:List Key}{v:V}(e:H a=some (.dT ah))(eb:H b=some (.tup (k.map kV)))(hl:ah.length<sizeLine):
  NK H a (.ref b) v (upd H a (.dT (putK ah k v))):=.inr ⟨ah,k,b,e,rfl,eb,hl,rfl⟩
variable{y v:V}{u r:Value}{o:Option V}
theorem Inv.big(I:Inv X ae U H s):sysModules<s.heap.objs.size:=by have h:=(I.mod.glob.keeps I.bk).lt;exact uD (by decide) h
theorem Ks(hu:A.units+1<cLine)(I:Inv X ae U H s)(g:KW H a y (some v))(ry:RelV y u)(h:∀w' s',Inv X ae U H s'->RelV v w'->Q w' s'):
  wpAny (model X.prog X.w) A (getItem (.ref a) u) Q E s:=by
 rcases g with⟨ah,k,e,ey,l⟩|⟨ah,k,b,e,ey,eb,l⟩
 .subst ey;obtain⟨z,hd,vs,aU,dd⟩:=Kq I.zZ e;obtain⟨w',hw,dI⟩:=A8.some_of (by rw[l];exact aU.val k);exact wpAny_getItem_of (Lr ry) dd.mapOf hw (h w' _ (I.tok _) dI)
 .subst ey;cases(show u=Value.ref b from ry);obtain⟨z,hd,xs,aU,dd⟩:=Nv I.zZ e;obtain⟨w',hw,dI⟩:=A8.some_of (by rw[l];exact aU.val k);obtain⟨p,hp,qQ⟩:=tq.mp hw;refine wpAny_getItem_heap (tupleKind_room_in1 hu) (J6 I.zZ eb) dd hp ?_;rw[qQ];exact h w' _ (I.tok _) dI
theorem d_in(hu:A.units+1<cLine)(I:Inv X ae U H s)(g:KW H a y o)(ry:RelV y u)(h:∀s',Inv X ae U H s'->Q (.bool o.isSome) s'):
  wpAny (model X.prog X.w) A (compareOp .In u (.ref a)) Q E s:=by
 rcases g with⟨ah,k,e,ey,l⟩|⟨ah,k,b,e,ey,eb,l⟩
 .subst ey;obtain⟨z,hd,vs,aU,dd⟩:=Kq I.zZ e;refine wpAny_in_of (Lr ry) hd dd.mapOf ?_;rw[<- (aU.val k).DS,<- l];exact h _ (I.tok _)
 .subst ey;cases(show u=Value.ref b from ry);obtain⟨z,hd,xs,aU,dd⟩:=Nv I.zZ e;refine wpAny_in_heap (tupleKind_room_in1 hu) (J6 I.zZ eb) hd dd ?_;have q:=(aU.val k).DS;rw[Option.isSome_map]at q;rw[<- q,<- l];exact h _ (I.tok _)
theorem WK(hu:A.units+1<cLine)(I:Inv X ae U H s)(g:KW H a y o)(ry:RelV y u)(h:∀s',Inv X ae U H s'->Q (.bool (!o.isSome)) s'):
  wpAny (model X.prog X.w) A (compareOp .NotIn u (.ref a)) Q E s:=by
 rcases g with⟨ah,k,e,ey,l⟩|⟨ah,k,b,e,ey,eb,l⟩
 .subst ey;obtain⟨z,hd,vs,aU,dd⟩:=Kq I.zZ e;refine wpAny_notIn_of (Lr ry) hd dd.mapOf ?_;rw[<- (aU.val k).DS,<- l];exact h _ (I.tok _)
 .subst ey;cases(show u=Value.ref b from ry);obtain⟨z,hd,xs,aU,dd⟩:=Nv I.zZ e;refine wpAny_notIn_heap (tupleKind_room_in1 hu) (J6 I.zZ eb) hd dd ?_;have q:=(aU.val k).DS;rw[Option.isSome_map]at q;rw[<- q,<- l];exact h _ (I.tok _)
theorem LF(I:Inv X ae U H s)(mu:Mut (H a))(hs:Heap.SameBut a s.heap h')(he:∃q,h'.get? a=some q)(new:BJ X.prog X.w (upd H a ob) h' a ob):
  Inv X ae U (upd H a ob) {s with heap:=h',toks:=t' } :=
 I.write mu (.inl rfl) (λb q hb z=>(hs.2 b hb).trans z) he new
theorem Uk(z:ah.length<=sizeLine)(hd:(a==sysModules)=false)(aU:KV ah vs)(dd:h'.DictOf (Bb P w) a vs):
  BJ P w H' h' a (.l ah):=⟨z,hd,vs,aU,dd⟩
theorem Kr{H':Hp}{Q:Unit->Shared->Prop}(hu:A.units+1<cLine)(I:Inv X ae U H s)(g:NK H a y v H')(ry:RelV y u)(rv:RelV v r)(h:∀s',Inv X ae U H' s'->Q () s'):
  wpAny (model X.prog X.w) A (setItem (.ref a) u r) Q E s:=by
 rcases g with⟨ah,k,e,ey,l,eH⟩|⟨ah,k,b,e,ey,eb,l,eH⟩
 .subst ey eH;obtain⟨z,hd,vs,aU,dd⟩:=ZT I.zZ e;have hz:vs.length<=sizeLine:=by rwa[<- aU.length]
  have hl:(putK ah k v).length<=sizeLine:=by have:=Ep ah k v;lia
  refine wpAny_setItem_pairs (hsz:=hz) (Lr ry) dd λh' iG hs=>h _ ?_
  have he:∃q,h'.get? a=some q:=let⟨q,_,_,hq,_⟩:=iG;⟨q,hq⟩;exact LF I (by rw[e];exact True.intro) hs he (Uk hl hd (aU.put k rv) iG)
 .subst ey eH;cases(show u=Value.ref b from ry);obtain⟨z,hd,xs,aU,dd⟩:=JbA I.zZ e;have hz:xs.length<=sizeLine:=by rwa[<- Paired.length aU]
  have hl:(putK ah k v).length<=sizeLine:=by have:=Ep ah k v;lia
  refine wpAny_setItem_heap (hsz:=hz) (tupleKind_room_in1 hu) (J6 I.zZ eb) dd λh' iG hs=>h _ ?_
  obtain⟨q,es,ep,hq,h2,h3,h4,_,h5⟩:=iG;refine LF I (by rw[e];exact True.intro) hs ⟨q,hq⟩ ⟨hl,hd,_,(aU.put k eb rv).keeps λc ys ec=>?_,q,es,ep,hq,h2,h3,h4,h5⟩;rwa[Ap (Ja6 ec e (λz=>nomatch z))]
variable{ah:List (Key×V)}{k:Key}
theorem JbB(I:Inv X ae U H s)(e:Rd H a (.l ah))(h:∀t s',Inv X ae U H s'->Q (.int ah.length t) s'):wpAny (model X.prog X.w) A (call (.builtin "len") [.ref a]) Q E s:=by obtain⟨z,hd,vs,aU,dd⟩:=Kq I.zZ e;refine call_len_dict hd dd (by rw[<- aU.length];rw[sizeLine_eq]at z;lia) ?_;rw[<- aU.length];exact h _ _ (I.tok _)
def JbJ(i:Expr):Prop:=∀ov iv,subscripted i false ov iv=operate [ov,iv] (getItem ov iv)
theorem UH{env:Env}{value aC:Expr}{id:String}{Q:Value->Shared->Prop}
  (hl:typeLookup (.type T) "__getitem__"=pure (some (.builtin id))) (hs:JbJ aC)
  (h:wpAny (model prog w) A (eval value env) (λo az=>wpAny (model prog w) A (eval aC env) (λi dh=>dh.TypeIs o T/\wpAny (model prog w) A (getItem o i) Q E dh) E az) E s) :
  wpAny (model prog w) A (eval (.Subscript value aC pos) env) Q E s:=by
 refine Subscript_ (wpAny_mono h (λo az aI=>wpAny_mono aI (λi dh gi=>?_) λ_ _ x=>x) λ_ _ x=>x);obtain⟨hT,gi⟩:=gi;refine sR ?_;refine sR (wpAny_specialOf hT hl ?_);have ba:wpAny (model prog w) A (subscripted aC false o i) (λr bz=>wpAny (model prog w) A (letTemporaryGo value o r >>= λ_=>pure r) Q E bz) E dh:=by rw[hs o i];exact wpAny_operating (wpAny_mono gi (λr bz fC=>sR (wpAny_letTemporaryGo (sY fC))) λ_ _ x=>x)
 first
  |exact sY (sR ba)
  |exact sR (sY (sR ba))
  |exact sR ba
theorem GP(I:Inv X ae U H s)(g:KW H a y o):s.TypeIs (.ref a) "dict":=by
 rcases g with⟨ah,k,e,_,_⟩|⟨ah,k,b,e,_,_,_⟩
 .obtain⟨_,_,vs,_,dd⟩:=Kq I.zZ e;exact dd.typeIs
 .obtain⟨_,_,xs,_,dd⟩:=Nv I.zZ e;exact dd.typeIs
def JaJ(td ty:TE):TE:=λU H Q=>td U H λx H1=>ty U H1 λy H2=>∃a v,x=.ref a/\KW H2 a y (some v)/\Q v H2
def XI(td ty tv:TE):TS:=λD U H=>tv U H λv H1=>td U H1 λx H2=>ty U H2 λy H3=>∃a H4,x=.ref a/\NK H3 a y v H4/\D.nx U H4
variable{o i value:Expr}{bc cg:Pos}{td ty tv:TE}
theorem Ve(hu:X.A.units+1<cLine)(ho:PE X o td)(hi:PE X i ty)(hs:JbJ i):PE X (.Subscript o i pos) (JaJ td ty):=by intro ae s U H Q I h;refine UH PySem.F.slot_dict_getitem.lookup hs (thn (ho ae s U H _ I h) λu s1 ⟨x,H1,I1,rx,q1⟩=>thn (hi ae s1 U H1 _ I1 q1) λiv s2 ao=>?_);obtain⟨y,H2,I2,ry,a,v,ex,g,q2⟩:= ao;subst ex;obtain rfl:u=Value.ref a:=rx;exact⟨GP I2 g,Ks hu I2 g ry λw' s3 I3 dI=>⟨v,H2,I3,dI,q2⟩⟩
theorem K6(hu:X.A.units+1<cLine)(ho:PE X o td)(hi:PE X i ty)(hv:PE X value tv)(hs:swapsWith value (some (.Subscript o i bc)) pos.line X.env=pure false):
  PS X (.Assign [.Subscript o i bc] value pos) (XI td ty tv):=by
 intro ae s U H D I h;refine wpAny_Assign_Subscript (thn (hv ae s U H _ I h) λr s1 ⟨v,H1,I1,rv,q1⟩=>thn (ho ae s1 U H1 _ I1 q1) λu s2 ⟨x,H2,I2,rx,q2⟩=>thn (hi ae s2 U H2 _ I2 q2) λiv s3 ao=>?_) hs;obtain⟨y,H3,I3,ry,a,H4,ex,g,q3⟩:= ao;subst ex;obtain rfl:u=Value.ref a:=rx;exact Kr hu I3 g ry rv λs4 I4=>⟨U,H4,I4,q3⟩
theorem Mx(h:Heap)(hb:sysModules<h.objs.size):BJ P w H (h.push {cls:=.type "dict",data:=.dict #[]}) h.objs.size (.l []) :=
 ⟨uR _,beq_eq_false_iff_ne.mpr (Ne.symm (tU hb)),[],.nil,Heap.DictOf.new h⟩
def Xv:TE:=λ_ H Q=>∀p,H p=none->Q (.ref p) (upd H p (.l []))
theorem L7:PE X (.Dict [] [] pos) Xv:=λae s U H Q I h =>wpAny_Dict_empty ⟨.ref s.heap.objs.size,_,I.laid (λ_ _ q=>sS _ q) (tD _) (Mx s.heap I.big),rfl,h _ (I.zZ.fresh (tD _))⟩
def NW:List (TE×TE)->St->Hp->(List (V×V)->Hp->Prop)->Prop
 | [],_,H,Q=>Q [] H
 |(tk,tv)::r,U,H,Q=>tk U H λx H1=>tv U H1 λy H2=>NW r U H2 λps H3=>Q ((x,y)::ps) H3
abbrev VV:List (V×V)->List (Value×Value)->Prop:=Paired λp q=>RelV p.1 q.1/\RelV p.2 q.2
def PPs(X:Cx)(pos:Pos)(dH:List (Option Expr))(values:List Expr)(iE:List (TE×TE)):Prop :=
 ∀(ae:List (Addr×Obj))(s:Shared)(U:St)(H:Hp)(Q:List (V×V)->Hp->Prop),Inv X ae U H s->NW iE U H Q ->
  wpAny (model X.prog X.w) X.A (evalPairs (pairTrees dH values X.env pos)) (λvs s'=>∃ps H',Inv X ae U H' s'/\VV ps vs/\Q ps H') X.xe s
theorem U1:PPs X pos [] [] []:=λae s U H Q I h=>pairTrees_nil_walk ⟨[],H,I,.nil,h⟩
theorem LY{k}{v}(hk:PE X k tk)(hv:PE X v tv)(hr:PPs X pos ks vs iE):
  PPs X pos (some k::ks) (v::vs) ((tk,tv)::iE):=λae s U H Q I h =>
 pairTrees_cons_walk (thn (hk ae s U H _ I h) λu s1 ⟨x,H1,I1,rx,q1⟩=>thn (hv ae s1 U H1 _ I1 q1) λw2 s2 ⟨y,H2,I2,ry,q2⟩ =>thn (hr ae s2 U H2 _ I2 q2) λws s3 ⟨ps,H3,I3,aU,q3⟩=>⟨(x,y)::ps,H3,I3,.cons ⟨rx,ry⟩ aU,q3⟩)
noncomputable def Gs(ah more:List (Key×V)):List (Key×V):=more.foldl (λay kv=>putK ay kv.1 kv.2) ah
theorem KV.merge:∀{more:List (Key×V)}{rs:List (Key×Value)}{ah:List (Key×V)}{vs:List (Key×Value)},KV more rs->KV ah vs->KV (Gs ah more) (merged vs rs):=by
 intro more rs ah vs r
 induction r generalizing ah vs with
 |nil=>intro q;exact q
 |@cons p q ps qs h t ih =>
  intro r0;have e:KV (putK ah p.1 p.2) (stored vs q.1 q.2):=by have:=r0.put p.1 h.2;rwa[<- h.1]
  exact ih e
theorem EG:∀(more ah:List (Key×V)),(Gs ah more).length<=ah.length+more.length
 | [],ah=>by show ah.length<=ah.length+0;lia
 |p::r,ah=>by have h1:=EG r (putK ah p.1 p.2);have h2:=Ep ah p.1 p.2;show(Gs (putK ah p.1 p.2) r).length<=_;rw[tM];lia
theorem Ie:∀{ah:List (Key×V)}{ws:List (Value×Value)},VV (ah.map λkv=>(kV kv.1,kv.2)) ws->∃rs,Carries (Bb P w) ws rs/\KV ah rs
 | [],_,r=>by rw[uH]at r;cases r;exact⟨[],True.intro,.nil⟩
 |p::ah,_,r=>by cases r with|@cons a b as bs h t =>obtain⟨rs,c,q⟩:=Ie t;obtain⟨b1,b2⟩:=b;exact⟨(p.1,b2)::rs,⟨Lr h.1,rfl,c⟩,.cons ⟨rfl,h.2⟩ q⟩
def JaI(iE:List (TE×TE)):TE:=λU H Q=>∀p,H p=none->NW iE U (upd H p (.l [])) λps H2=>H2 p=some (.l [])/\∃ah:List (Key×V),ps=ah.map (λkv=>(kV kv.1,kv.2))/\ah.length<=15/\Q (.ref p) (upd H2 p (.l (Gs [] ah)))
theorem Vd{dH:List (Option Expr)}{values:List Expr}{iE:List (TE×TE)}(h:PPs X pos dH values iE)(eA:dH.all (·.isSome)=true)(hl:dH.length=values.length)(h0:dH≠[])
  (qj:dH.length<=15):PE X (.Dict dH values pos) (JaI iE):=by
 intro ae s U H Q I q;have hn:=I.zZ.fresh (tD s.heap.objs.size);have I1:=I.laid (a:=s.heap.objs.size) (o:=.l []) (h':=s.heap.push {cls:=.type "dict",data:=.dict #[]}) (t':=s.toks) (λ_ _ q=>sS _ q) (tD _) (Mx s.heap I.big);refine wpAny_Dict_walk (knd:=Bb X.prog X.w) eA hl h0 qj (thn (h ae _ U _ _ I1 (q _ hn)) λws s2 ao=>?_);obtain⟨ps,H2,I2,aU,e,ah,ep,lk,q2⟩:= ao;subst ep;obtain⟨rs,c,rk⟩:=Ie (P:=X.prog) (w:=X.w) aU;obtain⟨z,hd,kJ,r0,dd⟩:=ZT I2.zZ e;cases r0;refine⟨rs,c,dd,λh' iG hs=>⟨.ref s.heap.objs.size,_,?_,rfl,q2⟩⟩;have hz:(Gs [] ah).length<=sizeLine:=by have h1:=EG ah [];rw[List.length_nil]at h1;rw[sizeLine_eq];lia
 have he:∃q,h'.get? s.heap.objs.size=some q:=let⟨q,_,_,hq,_⟩:=iG;⟨q,hq⟩;exact LF I2 (by rw[e];exact True.intro) hs he (Uk hz hd (rk.merge .nil) iG)
def IsD(H:Hp)(a:Addr):Prop:=(∃ah,Rd H a (.l ah))\/∃ah,Rd H a (.dT ah)
theorem YV(I:Inv X ae U H s)(d:IsD H a):
  s.TypeIs (.ref a) "dict"/\(∀b,Value.ref a=.ref b->∃ob,s.heap.get? b=some ob/\ob.dict=none)/\(a==sysModules)=false:=by
 rcases d with⟨ah,e⟩|⟨ah,e⟩
 .obtain⟨_,hd,vs,_,dd⟩:=Kq I.zZ e;refine⟨dd.typeIs,λb q=>?_,hd⟩;cases q;obtain⟨ob,_,_,h1,h2,_⟩:=dd;exact⟨ob,h1,h2.2.1⟩
 .obtain⟨_,hd,xs,_,dd⟩:=Nv I.zZ e;refine⟨dd.typeIs,λb q=>?_,hd⟩;cases q;obtain⟨ob,_,_,h1,h2,_⟩:=dd;exact⟨ob,h1,h2.2.1⟩
variable{d:V}{o:Option V}
variable{o f:Expr}{tx:TE}
end L2
namespace Att
open PySem PySem.W PySem.Calls PyProof.Rows
theorem GB:∀(ns:List Int)(vs:List Value),WellAll P h vs (ns.map WData.int)->IntsAre vs ns:=by
 intro ns
 induction ns with|nil =>intro vs w;cases w;exact .nil|cons n ns ih =>intro vs w;cases w with|cons a b =>cases a;exact .cons _ _ (ih _ b)
theorem N8{l:OpenLaw}{n:Nat}(hn:l.most=some n){P:Params}{h:Heap}{args:List WData}{vals:List Value}
  (fu:l.row.toRowW.claim.pre args=true) (jU:WellAll P h vals args) :
  ∃a vs ns,vals=[Value.ref a]/\args=[WData.list (ns.map WData.int)]/\h.get? a=some {cls:=.type "list",data:=.seq vs.toArray}/\IntsAre vs ns/\ns.length<=n:=by
 have qS:WShape.hasAll [] args [.list .int]=true:=(pre_splitW fu).1;have hc:l.pre.holds [] {args:=args}=true:=(pre_splitW fu).2;obtain⟨d,r,rfl,h1,h2⟩:=hasAllW_cons qS;obtain rfl:=hasAllW_nil h2;obtain⟨xs,rfl,h3⟩:=hasW_list h1;obtain⟨ns,rfl⟩:=items_int h3;have hlen:ns.length<=n:=by
  have h4:(WTm.not (.lt (.lit (.int (n:Int))) (.len (.arg 0)))).holds [] {args:=[.list (ns.map .int)]}=true:=by have h4:=(holds_andW hc).1;rwa[hn]at h4
  have h5:=condW_of h4 (w_not (w_lt w_lit (w_len_list (w_arg rfl))));refine Nat.le_of_not_lt λq=>?_
  first
   |(rw[tQ q']at h5;exact absurd h5 (by decide))
   |(simp at h5;lia)
 cases jU with|cons w1 w2 =>cases w2;cases w1 with|list ho eA=>exact⟨_,_,ns,rfl,rfl,ho,GB ns _ eA,hlen⟩
theorem Oi(l:OpenLaw)(args:List WData):l.row.toRowW.claim.post args (.bool true) args=true :=
 postW_of
  (show WShape.has [] (.bool true) .bool=true by first|rfl|decide|simp[WShape.armsAll])
  (show(WTm.eq .res (.lit (.bool true))).value [] {args:=args,res:=some (.bool true),after:=args}=some (.bool (true==true))from w_eq_bool (w_res rfl) w_lit) rfl
variable{prog:Program}{w:World}{A:Around}{E:Value->Shared->Prop}{s:Shared}{K:Frag}
end Att
namespace L2
open PySem PySem.Spec PyProof.Rows
theorem Jv:∀{vs:List Value}{ns:List Int},IntsAre vs ns->Vals (ns.map V.int) vs
 |_,_,.nil=>.nil
 |_,_,.cons n t h=>.cons ⟨t,rfl⟩ (Jv h)
def Jas(H:Hp):Prop:=∀b,H b=none\/∃o xs,H b=some (.frz o (.lst xs))
theorem RD{P:Program}{w:World}{K:Fg}{mg mb:Str->Option Value}{CX:CXT}{k:Nat}{fa a:Addr}{fd:FuncData}{x:Str}{sp:Sp}{az:Shared}{vs:List Value}{ns:List Int}
  (KX:K.In az.heap) (nh:az.heap.Ns mainGlobals mg) (hb:az.heap.Ns builtinsNs mb) (qt:∀x:Str,x≠"__name__"->mb x=bootBuiltins x) (lE:az.heap.NoLimit) (hg:az.gens=#[])
  (ha:az.heap.get? a=some {cls:=.type "list",data:=.seq vs.toArray}) (hi:IntsAre vs ns) (hl:ns.length<=sizeLine) (hr:DJ k callerA)
  (F:∀base:Heap,K.In base->base.Ns mainGlobals mg->EW P w K mg base CX k fa fd [x] sp) (jC:∀(s:Shared)(u:Value),BindsTo s fd ⟨[u],[]⟩ [(x,u)])
  (gE:∀H:Hp,Jas H->SqL K H a (ns.map V.int)->sp [.ref a] H (λv _=>v=.o true) λ_ _ _=>False)
  (jx:∀H e s',CX [] H az (λ_ _ _=>False) e s'->False) :
  codeAny (model P w) callerA (.call (.ref fa) ⟨[.ref a],[]⟩) (λr s'=>r=.ok (.ret (.bool true))/\OldK az.heap s'.heap/\s'.os=az.os/\AllBare s'.gens) az:=by
 have rv:=Jv hi;have l7:=hi.length;have core:∀H:Hp,Jas H->SqL K H a (ns.map V.int)->HOk P w H az.heap->(∀b,H b≠none->b=a)->(H a≠none->K.lookup a=none) ->
   codeAny (model P w) callerA (.call (.ref fa) ⟨[.ref a],[]⟩) (λr s'=>r=.ok (.ret (.bool true))/\OldK az.heap s'.heap/\s'.os=az.os/\AllBare s'.gens) az:=by
  intro H hO hS zZ hA hK;have eT:∀{b:Addr}{o:Obj},az.heap.get? b=some o->H b=none->(RS az.heap H).get? b=some o:=λe n=>RQ e n
  have j6:∀{b:Addr}{o:Obj}{es:Array DictEntry}{ep:Nat},az.heap.get? b=some o->o.data=.dict es ep->H b=none:=λ{b o es ep} e d=>by cases q:H b with|none=>rfl|some u =>have e':b=a:=hA b (by rw[q];simp);subst e';rw[ha]at e;cases e;have d':Data.seq vs.toArray _=Data.dict es ep:=d;cases d'
  have kF:∀{b:Addr}{m:Str->Option Value},az.heap.Ns b m->(RS az.heap H).Ns b m:=λ{b m} ⟨o,es,ep,e,d,r⟩=>⟨o,es,ep,eT e (j6 e d),d,r⟩
  have mW:K.In (RS az.heap H):=λb o e=>eT (KX b o e) (by cases q:H b with|none=>rfl|some u =>have e':b=a:=hA b (by rw[q];simp);subst e';rw[hK (by rw[q];simp)]at e;cases e)
  have hM:Mod K mg (RS az.heap H):=⟨mW,kF nh,⟨mb,kF hb,qt⟩,let⟨mc,h1,h2⟩:=lE;⟨mc,kF h1,h2⟩⟩
  have e0:W9 P w K mg (RS az.heap H) callerA [] az H:=⟨rfl,hM,λb o e=>Vu e,Nat.le_of_eq (Pc _ _),trivial,λb hb=>absurd (show b∈([]:List Addr)from hb) (by simp),zZ,.of_eq hg⟩
  refine codeAny_mono ((F _ mW (kF nh)).run callerA [] az H ⟨[.ref a],[]⟩ [.ref a] [.ref a] _ _ hr e0 (jC az (.ref a)) (.cons rfl .nil) (gE H hO hS)) λr s' h=>?_
  cases r with
  |error e=>exact(jx H e s' h).elim
  |ok fl =>
   cases fl with
   |next=>exact False.elim h
   |brk=>exact False.elim h
   |cont=>exact False.elim h
   |ret u =>
    obtain⟨v,H',os,bare,un,lM,r',q⟩:=h;have q':v=.o true:=q;subst q';obtain rfl:u=Value.bool true:=r';refine⟨rfl,OldK.of_keep λb o e=>?_,os,bare⟩;cases q:H b with
    |none=>exact un.keep b o e q (by intro z;exact absurd (show b∈([]:List Addr)from z) (by simp)) (by simp)
    |some u =>
     rcases hO b with z|⟨ob,xs,z⟩
     .rw[q]at z;cases z
     .have z2:=un.zL b ob _ z;obtain⟨e1,_⟩:=zZ b _ z;obtain⟨e2,_⟩:=lM b _ z2;rw[e]at e1;cases e1;exact e2
 cases hk:K.lookup a with
 |some o =>have e:=KX a o hk;rw[ha]at e;cases e;refine core (λ_=>none) (λ_=>.inl rfl) (.inr ⟨_,vs.toArray,_,hk,rfl,rfl,rfl,by rw[sX,l7];exact hl,by simpa using rv⟩) (λb u z=>by have z':(none:Option HO)=some u:=z;cases z') (λb z=>absurd rfl z) λz=>absurd rfl z
 |none =>
  refine core (λb=>if b=a then some (.frz {cls:=.type "list",data:=.seq vs.toArray} (.lst (ns.map V.int)))else none) (λb=>?_) (.inl (.inr ⟨{cls:=.type "list",data:=.seq vs.toArray},if_pos rfl⟩)) (λb u z=>?_) (λb z=>?_) λ_=>hk
  .by_cases hb:b=a
   .exact .inr ⟨_,_,if_pos hb⟩
   .exact .inl (if_neg hb)
  .by_cases hb:b=a
   .have z':=(if_pos hb).symm.trans z;cases z';subst hb;exact⟨ha,by rw[sU];exact hl,vs,_,rv,ha⟩
   .have z':=(if_neg hb).symm.trans z;cases z'
  .by_cases hb:b=a
   .exact hb
   .exact absurd (if_neg hb) z
noncomputable def inClass(s:Stmt)(j:Nat):Stmt:=match s with|.ClassDef _ _ _ body _ _ _ _ _ _ _=>body.getD j (.Pass ⟨0,0,0,0⟩)|_=>.Pass ⟨0,0,0,0⟩
noncomputable def GQ(s:Stmt):Arguments:=match s with|.FunctionDef _ a _ _ _ _ _ _ _ _=>a|_=>{posonlyargs:=[],args:=[],vararg:=none,kwonlyargs:=[],kw_defaults:=[],kwarg:=none,defaults:=[]}
noncomputable def Et(s:Stmt):List Stmt:=match s with|.FunctionDef _ _ b _ _ _ _ _ _ _=>b|_=>[]
noncomputable def Bz(s:Stmt):Scope:=match s with|.FunctionDef _ _ _ _ _ _ sc _ _ _=>sc|_=>{kind:=.function,names:=[],isGenerator:=false,isCoroutine:=false}
abbrev E0:XK:=λ_ _ _=>False
structure Fun(K:Fg)(x qual:Str)(st:Stmt)(f:Addr)(fd:FuncData):Prop where
 ex:∃(oc:Value)(od:Option Addr)(kV di pm:Value)(an:Option Addr)(aV ct:Value)(iC:Array (Option Value)),
  fd=fnOf x qual (GQ st) (Et st) (Bz st) .none kV di pm an aV ct/\K.lookup f=some ⟨oc,od,.func fd,iC⟩/\codeIn K aV qual=true
 kp:keepIn K (.ref f)=true
variable{P:Program}{w:World}{K:Fg}{mg:Str->Option Value}{base:Heap}
theorem Fun.binds{x qual:Str}{st:Stmt}{f:Addr}{fd:FuncData}{ps:List Str}(F:Fun K x qual st f fd)
  (h:∀(kV di pm:Value)(an:Option Addr)(aV ct:Value)(us:List Value),us.length=ps.length->bindArgs (fnOf x qual (GQ st) (Et st) (Bz st) .none kV di pm an aV ct) ⟨us,[]⟩=pure (ps.zip us)):Binds K fd ps []:=by
 obtain⟨oc,od,kV,di,pm,an,aV,ct,iC,rfl,lk,fm⟩:=F.ex;exact .all (h kV di pm an aV ct)
theorem AM{x qual:Str}{st:Stmt}{f:Addr}{oc:Value}{od an:Option Addr}{iC:Array (Option Value)}{kV di pm aV ct:Value}(l:K.lookup f=some ⟨oc,od,.func (fnOf x qual (GQ st) (Et st) (Bz st) .none kV di pm an aV ct),iC⟩)
  (c:codeIn K aV qual=true) (k:keepIn K (.ref f)=true):Fun K x qual st f (fnOf x qual (GQ st) (Et st) (Bz st) .none kV di pm an aV ct):=⟨⟨oc,od,kV,di,pm,an,aV,ct,iC,rfl,l,c⟩,k⟩
theorem Y1(hr:DJ k A):A.units+1<cLine:=Nat.lt_of_le_of_lt (Nat.add_le_add_left (by decide:1<=64) _) hr.units
variable{X:Cx}
theorem pv(i:Nat)(hN:X.N[i]?=some x:=by rfl)(hv:Vis X.env.scope x:=by first|exact Or.inl rfl|exact Or.inr (Or.inl rfl)|exact Or.inr (Or.inr rfl))(hd:(x==("__debug__":Str))=false:=by decide)
  (fm:(x==("__classdict__":Str))=false:=by decide):PE X (.Name x pos) (Jz i):=Yb hN hv hd fm
section
variable{κ:Type}[DecidableEq κ]
end
theorem Eu:∀(l:List (Str×NameKind))(cs:List (Str×Addr)),(∀y∈l,y.2=.free->∃c,env.cells.lookup y.1=some c)->(∀n c,cs.lookup n=some c->env.cells.lookup n=some c) ->
  ∃cl,(forIn l cs λ(x:Str×NameKind)(r:List (Str×Addr))=>match x with|(name,kind)=>if(kind==NameKind.free)=true then do let c <- cellOf env name;pure (ForInStep.yield ((name,c)::r))else pure (ForInStep.yield r))=(pure cl:Sem _) /\
   (∀n c,cl.lookup n=some c->env.cells.lookup n=some c)/\(∀y∈l,y.2=.free->∃c,cl.lookup y.1=some c)/\(∀n c,cs.lookup n=some c->∃c',cl.lookup n=some c')
 | [],cs,_,h2=>⟨cs,rfl,h2,(λ_ h=>nomatch h),λn c h=>⟨c,h⟩⟩
 |(n,k)::r,cs,h1,h2=>by
  by_cases e:k=.free
  .subst e;obtain⟨c,hc⟩:=h1 (n,.free) tZ rfl;have e1:cellOf env n=(pure c:Sem _):=by unfold cellOf;rw[hc]
   obtain⟨cl,q1,q2,q3,q4⟩:=Eu r ((n,c)::cs) (λy hy=>h1 y (sZ _ hy)) (λn' c' q=>by rw[ud]at q;cases hb:n'==n with|true=>rw[hb]at q;cases q;rw[beq_iff_eq.mp hb];exact hc|false=>rw[hb]at q;exact h2 _ _ q);have iz:=q4 n c (by simp);refine⟨cl,?_,q2,λy hy hf=>?_,λn' c' q=>?_⟩
   .rw[List.forIn_cons];simp only[e1];exact q1
   .rcases tm.mp hy with rfl|hy
    .exact iz
    .exact q3 y hy hf
   .by_cases hb:n'=n
    .subst hb;exact iz
    .exact q4 n' c' (by rwa[ud,beq_eq_false_iff_ne.mpr hb])
  .obtain⟨cl,q1,q2,q3,q4⟩:=Eu r cs (λy hy=>h1 y (sZ _ hy)) h2;refine⟨cl,?_,q2,λy hy hf=>?_,q4⟩
   .rw[List.forIn_cons];have hb:(k==NameKind.free)=false:=by simpa using e
    simp only[hb,pure_bind];exact q1
   .rcases tm.mp hy with rfl|hy
    .exact absurd hf e
    .exact q3 y hy hf
theorem ER(h:∀y∈sc.names,y.2=.free->∃c,env.cells.lookup y.1=some c):
  ∃cl,closureFor sc env=pure cl/\(∀n c,cl.lookup n=some c->env.cells.lookup n=some c)/\(∀y∈sc.names,y.2=.free->∃c,cl.lookup y.1=some c):=by
 obtain⟨cl,q1,q2,q3,_⟩:=Eu sc.names [] h (λn c q=>by simp at q);refine⟨cl,?_,q2,q3⟩;unfold closureFor;simp only[bind_pure];refine Eq.trans ?_ q1;congr 1
variable{prog:Program}{A:Around}{R:Result->Shared->Prop}{s:Shared}
theorem Kv(I:Nat->Shared->Prop)
  (turn:∀n s,I n s->wpAny (model prog w) A (pyNext it) (λr az=>match r with
   |none=>R (.ok .next) az
   |some v=>wpAny (model prog w) A (letOwnedTupleGo target it v) (λ_ az=>wpAny (model prog w) A (assign target env v) (λ_ dh =>
     wpAny (model prog w) A (forIn cM true λc r=>if r=true then do let ok <- isTrue c env (eval c env);pure (ForInStep.yield ok)else pure (ForInStep.yield r)) (λok bz =>
      if ok=true then wpAny (model prog w) A (eval dD env) (λx hU =>wpAny (model prog w) A (call (.builtin "list.append") [ay,x]) (λ_ kh=>∃m,m<n/\I m kh) (λ_ _=>False) hU) (λ_ _=>False) bz
      else ∃m,m<n/\I m bz) (λ_ _=>False) dh) (λ_ _=>False) az) (λ_ _=>False) az) (λ_ _=>False) s)
  (n:Nat) (h:I n s) :
  codeAny (model prog w) A (.compLoop (.ListComp dD [⟨target,aA,cM,0⟩] scope pos) 0 it ay env) R s:=by
 refine codeAny_loop rfl I (λn s hI=>?_) n h;refine wpAny_noted ?_;refine sR (wpAny_standAt (sR (wpAny_mono (turn n s hI) (λr az aI=>?_) λ_ _ h'=>h'.elim)));cases r with|none=>exact sY aI|some v =>refine sR (wpAny_mono aI (λ_ nW jW=>?_) λ_ _ h'=>h'.elim);refine sR (wpAny_mono jW (λ_ dh gi=>sR (wpAny_mono gi (λok bz fC=>?_) λ_ _ h'=>h'.elim)) λ_ _ h'=>h'.elim);cases ok with|false=>exact sY ⟨rfl,fC⟩|true =>exact sR (sR (wpAny_mono fC (λx hU lX=>sR (wpAny_mono lX (λ_ kh lY=>sY (sY ⟨rfl,lY⟩)) λ_ _ h'=>h'.elim)) λ_ _ h'=>h'.elim))
structure MK(fn sc:Scope):Prop where
 kind:sc.kind=.function
 yS:∀y∈sc.names,y.2≠.cell
 loc:∀y∈sc.names,y.2=.local->sc.names.lookup y.1=some .local
 fr:∀y∈sc.names,y.2=.free->fn.names.lookup y.1=some .cell\/fn.names.lookup y.1=some .free
noncomputable def H0(fn sc:Scope):Bool :=
 decide (sc.kind=.function)&&sc.names.all λy=>decide (y.2≠.cell)&&(decide (y.2≠.local)||decide (sc.names.lookup y.1=some .local)) &&
  (decide (y.2≠.free)||decide (fn.names.lookup y.1=some .cell)||decide (fn.names.lookup y.1=some .free))
theorem Ku(h:H0 fn sc=true):MK fn sc:=by
 unfold H0 at h;rw[tW,ur]at h;obtain⟨h1,h2⟩:=h;refine⟨tX h1,λy hy=>?_,λy hy e=>?_,λy hy e=>?_⟩
 all_goals
  have q:=h2 y hy;rw[tW,tW]at q;obtain⟨⟨q1,q2⟩,q3⟩:=q
 .exact tX q1
 .rw[uQ]at q2;rcases q2 with q|q
  .exact absurd e (tX q)
  .exact tX q
 .rw[uQ,uQ]at q3;rcases q3 with(q|q)|q
  .exact absurd e (tX q)
  .exact .inl (tX q)
  .exact .inr (tX q)
theorem C6{env:Env}:∀{names:List (Str×NameKind)},
  (names.map λ(n,k)=>if(k==NameKind.free&&env.scope.kind==.function&&env.kindOf n==some .cell)then(n,NameKind.cell)else(n,k)).lookup x=some k'->∃k,names.lookup x=some k/\(k'=k\/(k=.free/\k'=.cell))
 | [],h=>by simp at h
 |(n,k)::r,h=>by
  have h:List.lookup x ((if(k==NameKind.free&&env.scope.kind==.function&&env.kindOf n==some .cell)=true then(n,NameKind.cell)else(n,k))::_)=some k':=h;cases hx:x==n with
  |true =>
   refine⟨k,by simp[ud,hx],?_⟩;by_cases hc:(k==NameKind.free&&env.scope.kind==.function&&env.kindOf n==some .cell)=true
   .rw[if_pos hc]at h;simp only[ud,hx]at h;cases h;rw[tW,tW]at hc;exact .inr ⟨beq_iff_eq.mp hc.1.1,rfl⟩
   .rw[if_neg hc]at h;simp only[ud,hx]at h;cases h;exact .inl rfl
  |false =>
   obtain⟨k0,e1,e2⟩:=C6 (by
    by_cases hc:(k==NameKind.free&&env.scope.kind==.function&&env.kindOf n==some .cell)=true
    .rw[if_pos hc]at h;simpa only[ud,hx]using h
    .rw[if_neg hc]at h;simpa only[ud,hx]using h)
   exact⟨k0,by simp only[ud,hx];exact e1,e2⟩
noncomputable def B4(X:Cx)(N:List Str)(sc:Scope)(cl:List (Str×Addr))(C:Addr)(s:Shared)(H:Hp)(ex:List Addr):Cx :=
 {X with N:=N,zV:=s,y0:=H,env:=compEnvC sc cl C X.env,outer:=X.stack,stack:=X.stack,ex:=ex,fn:=λ_=>false,xe:=λ_ _=>False}
noncomputable def Ff(XN:List Str)(sc:Scope):List Str->List (Option Nat)->Bool
 | [],[]=>true
 |n::r,none::q=>Ff XN sc r q
 |n::r,some i::q=>decide (XN[i]?=some n)&&decide (sc.names.lookup n=some .free)&&Ff XN sc r q
 |_,_=>false
noncomputable def FD(U:St)(src:List (Option Nat)):St:=src.map λo=>o.bind λi=>(U[i]?).join
theorem GX:∀{N:List Str}{src:List (Option Nat)},Ff XN sc N src=true->src.length=N.length
 | [],[],_=>rfl
 |_::r,none::q,h=>by rw[tM,tM,GX (src:=q) h]
 |_::r,some i::q,h=>by unfold Ff at h;rw[tW]at h;rw[tM,tM,GX h.2]
 | [],_::_,h=>by cases h
 |_::_,[],h=>by cases h
theorem Ky:∀{N:List Str}{src:List (Option Nat)}{j i:Nat}{n:Str},Ff XN sc N src=true->N[j]?=some n->src[j]?=some (some i)->XN[i]?=some n/\sc.names.lookup n=some .free
 | [],_,j,i,n,_,h1,_=>by simp at h1
 |_::_,[],j,i,n,_,_,h2=>by simp at h2
 |n0::r,o::q,0,i,n,h,h1,h2=>by simp at h1 h2;subst h1;subst h2;unfold Ff at h;rw[tW,tW]at h;exact⟨tX h.1.1,tX h.1.2⟩
 |n0::r,o::q,j+1,i,n,h,h1,h2=>by refine Ky ?_ (by simpa using h1) (by simpa using h2);cases o with|none=>exact h|some k =>unfold Ff at h;rw[tW]at h;exact h.2
variable{ae:List (Addr×Obj)}{U:St}{H:Hp}{fp:List Addr}{N:List Str}{sc:Scope}{cl:List (Str×Addr)}{C:Addr}{src:List (Option Nat)}
theorem Z2(I:Inv X ae U H s)(hf:∀b∈fp,KS X ae H b)(iM:∀b∈fp,b<s.heap.objs.size)(hS:MK X.env.scope sc)(hC:s.heap.objs.size<=C)
  (eB:∀n c,cl.lookup n=some c->X.env.cells.lookup n=some c) (dJ:∀y∈sc.names,y.2=.free->∃c,cl.lookup y.1=some c):(B4 X N sc cl C s H fp).Ok where
 mod:=I.ok.mod
 kind:=hS.kind
 glob:=I.ok.glob
 blt:=I.ok.blt
 above:=hC
 inj:=λx y c h1 h2=>I.ok.inj x y c (eB _ _ h1) (eB _ _ h2)
 has:=λx hx=>by
  have free:∀k',(k'=NameKind.cell\/k'=NameKind.free)->(relabel sc X.env).names.lookup x=some k'->∃c,cl.lookup x=some c:=λk' hk e=>by
   obtain⟨k,e1,e2⟩:=C6 e;have hm:=PySem.mem_of_lookup e1;exact dJ _ hm (by
    rcases e2 with e2|⟨e2,_⟩
    .subst e2;rcases hk with hk|hk
     .exact absurd hk (hS.yS _ hm)
     .exact hk
    .exact e2)
  rcases hx with hx|hx
  .exact free _ (.inl rfl) hx
  .exact free _ (.inr rfl) hx
 yY:=λx c h _=>absurd (show false=true from h) tR
 hd:=I.ok.hd
 frames:=I.ok.frames
 yQ:=.inl rfl
 yM:=λb hb=>⟨tU (tw (iM b hb) hC),λx c e=>(hf b hb).2.2.2.2.1 x c (eB x c e)⟩
 bs:=I.bs
 zo:=tY I.ok.zo I.sz
 zi:=λb o e hb=>by
  rcases(hf b hb).2.2.2.1 with z|z
  .exact I.ok.zi b o e z
  .exact absurd (tw (tf e) (tY I.ok.zo z)) (uf _)
 zm:=λb hb hz=>by
  rcases tm.mp (I.JB b hz)with z|z
  .exact(hf b hb).2.1 z
  .exact(hf b hb).2.2.1 z
 Mr:=I.stack
 zb:=I.K1
theorem WX(I:Inv X ae U H s)(hf:∀b∈fp,KS X ae H b)(iM:∀b∈fp,b<s.heap.objs.size)(hS:MK X.env.scope sc)
  (eB:∀n c,cl.lookup n=some c->X.env.cells.lookup n=some c) (dJ:∀y∈sc.names,y.2=.free->∃c,cl.lookup y.1=some c) (bP:Ff X.N sc N src=true)
  (hD:s.heap.objs.size<=D) (hC:s.heap.objs.size<=C) (km:D≠C) (hk:∀b o,s.heap.get? b=some o->h'.get? b=some o) (hn:h'.Ns C m) (hl:h'.get? D=some {cls:=.type "list",data:=.seq (#[]:Array Value)}) :
  Inv (B4 X N sc cl C s H fp) ae (FD U src) (upd H D (.lst [])) {s with heap:=h',toks:=tk}:=by
 have old:∀{b:Addr}{o:Obj},s.heap.get? b=some o->b≠D/\b≠C:=λ{b o} e=>⟨tU (tw (tf e) hD),tU (tw (tf e) hC)⟩
 refine⟨Z2 I hf iM hS hC eB dJ,rfl,I.bare,Un.laid hk hD (I.zZ.fresh hD),⟨m,hn,λj x v e1 e2 e3=>?_⟩,λx c e=>?_,?_,λx c e=>?_,λp hp=>?_,I.zZ.laid hk hD ⟨uR _,[],0,.nil,hl⟩,?_⟩
 .unfold FD at e2;rw[t7]at e2;cases q:src[j]? with
  |none=>rw[q]at e2;cases e2
  |some o =>
   rw[q]at e2;cases o with
   |none=>cases e2
   |some i =>
    have jo:(U[i]?).join=some v:=Option.some.inj e2;obtain⟨g1,g2⟩:=Ky bP e1 q;obtain⟨m0,_,qE⟩:=I.loc;have iq:=hS.fr _ (PySem.mem_of_lookup g2) rfl;obtain⟨u,ru,lk⟩:=qE i x v g1 (by cases r:U[i]? with|none=>rw[r]at jo;cases jo|some u=>rw[r]at jo;cases u with|none=>cases jo|some u=>have e5:=jo;cases e5;rfl) (iq.elim (λz=>.inr (.inl z)) λz=>.inr (.inr z));refine⟨u,ru,.inr ⟨?_,?_⟩⟩
    .rcases e3 with e3|e3|e3
     .obtain⟨k,r1,r2⟩:=C6 (show(relabel sc X.env).names.lookup x=some .local from e3);rw[g2]at r1;cases r1;rcases r2 with r2|⟨_,r2⟩<;>cases r2
     .exact .inl e3
     .exact .inr e3
    .obtain⟨c,hc⟩:=dJ _ (PySem.mem_of_lookup g2) rfl;refine⟨c,hc,?_⟩;rcases lk with⟨lk,_⟩|⟨_,c',ko,z⟩
     .rcases iq with z|z
      .have z':X.env.kindOf x=some .cell:=z;rw[lk]at z';cases z'
      .have z':X.env.kindOf x=some .free:=z;rw[lk]at z';cases z'
     .have:=eB _ _ hc;rw[ko]at this;cases this;obtain⟨o,ho,hd⟩:=z;exact⟨o,hk _ _ ho,hd⟩
 .obtain⟨v,o,ho,hd⟩:=I.cell x c (eB x c e);exact⟨v,o,hk _ _ ho,hd⟩
 .show upd H D (.lst []) C=none;rw[Ap (Ne.symm km)];exact(I.zZ.fresh hC)
 .obtain⟨v,o,ho,hd⟩:=I.cell x c (eB x c e);rw[Ap (old ho).1];exact I.zS x c (eB x c e)
 .obtain⟨p1,p2,p3,p4,p5⟩:=I.pin p hp;refine⟨hk _ _ p1,by rw[Ap (old p1).1];exact p2,(old p1).2,λz=>?_,p5⟩;rcases tm.mp (I.JB _ z)with z|z
  .exact p3 z
  .exact p4 z
 .show(FD U src).length=N.length;unfold FD;rw[sU];exact GX bP
def Uu(X:Cx)(cM:List Expr)(t:TT):Prop :=
 ∀(ae:List (Addr×Obj))(s:Shared)(U:St)(H:Hp)(Q:Bool->Hp->Prop),Inv X ae U H s->t U H Q ->
  wpAny (model X.prog X.w) X.A (forIn cM true λc r=>if r=true then do let ok <- isTrue c X.env (eval c X.env);pure (ForInStep.yield ok)else pure (ForInStep.yield r)) (TP X ae U Q) X.xe s
def Jcb:TT:=λ_ H Q=>Q true H
theorem Q7:Uu X [] Jcb:=λae s U H Q I h=>sY ⟨H,I,h⟩
theorem Q6(h:PT X c t):Uu X [c] t:=by intro ae s U H Q I q;rw[List.forIn_cons];refine sR (sR (thn (h ae s U H Q I q) λb s1 q1=>sY ?_));exact sY q1
def ZV(J:It)(g:TG)(tt:TT)(te:TE)(Q:VK)(mE:St)(H1:Hp):Prop:=∀D,H1 D=none ->
 ∃W:Nat->Nat->St->Hp->Prop,(∃m,W 0 m mE (upd H1 D (.lst [])))/\∀i m τ H2,W i m τ H2 ->
  (J.stop i H2/\Q (.ref D) H2)\/(J.go i H2/\∃N:St->Hp->Prop,(∀kK H',N kK H'->∃m',m'<m/\W (i+1) m' kK H')/\∀x H3,J.yL i H2 x H3->g x τ H3 λdP H4=>tt dP H4 λb H5 =>if b=true then te dP H5 λy H6=>∃ys,H6 D=some (.lst ys)/\ys.length<sizeLine/\N dP (upd H6 D (.lst (ys++[y])))else N dP H5)
def UD(src:List (Option Nat))(wi:TI)(g:TG)(tt:TT)(te:TE):TE:=λU H Q=>wi U H λJ H1=>ZV J g tt te Q (FD U src) H1
variable{tg aA dD:Expr}{cM:List Expr}{pos:Pos}{wi:TI}{g:TG}{tt:TT}{te:TE}
theorem Mz(bw:X.calm=true)(hS:MK X.env.scope sc)(bP:Ff X.N sc N src=true)
  (hg:∀cl C s H fp,PG (B4 X N sc cl C s H fp) tg g) (ht:∀cl C s H fp,Uu (B4 X N sc cl C s H fp) cM tt) (he:∀cl C s H fp,PE (B4 X N sc cl C s H fp) dD te)
  {RR:Value->Addr->Result->Shared->Prop}
  (eB:∀n c,cl.lookup n=some c->X.env.cells.lookup n=some c) (dJ:∀y∈sc.names,y.2=.free->∃c,cl.lookup y.1=some c)
  (I:Inv X ae U H s) (T:Turn X.prog X.w X.K tg J fp it tn) (t0:tn 0 s.heap) (hf:∀b∈fp,KS X ae H b) (hw:ZV J g tt te Q (FD U src) H)
  (hR:∀(D C:Addr)(s':Shared)(τ:St)(H':Hp)(m:Str->Option Value),s.heap.objs.size<=C->s'.heap.Ns C m->Inv (B4 X N sc cl C s H fp) ae τ H' s'->(∀b∈fp,H' b=none)->Q (.ref D) H'->RR (.ref D) C (.ok .next) s') :
  wpAny (model X.prog X.w) X.A (newList []) (λay bz=>wpAny (model X.prog X.w) X.A (newFunctionEnv sc X.env.globals cl [] X.env.qual none .none (some X.env)) (λjl hU =>codeAny (model X.prog X.w) X.A (.compStart (.ListComp dD [⟨tg,aA,cM,0⟩] sc pos) 0 (.ref it) ay {jl with scope:=relabel sc X.env}) (RR ay jl.locals) hU) E bz) E s:=by
 have iM:∀b∈fp,b<s.heap.objs.size:=λb hb=>by obtain⟨o,e,_⟩:=T.obj 0 _ t0 b hb;exact tf e
 refine wpAny_newObj_type (wpAny_newFunctionEnv hS.yS (by intro y hy;simp at hy) (λaI gf eI=>?_) hS.kind);generalize hH2:s.heap.push {cls:=.type "list",dict:=none,data:=.seq ([]:List Value).toArray}=H2 at gf eI ⊢;have hC:H2.objs.size=s.heap.objs.size+1:=by rw[<- hH2,uw]
 have km:s.heap.objs.size≠H2.objs.size:=by rw[hC];exact tU (Nat.lt_succ_self _)
 have gK:s.heap.objs.size<=H2.objs.size:=by rw[hC];exact Nat.le_succ _
 have old:=λb o e=>eI.extBut b o (tU (tw (tf e) gK)) (sS _ (hH2▸sS _ e))
 obtain⟨W,⟨m0,w0⟩,turn⟩:=hw s.heap.objs.size (I.zZ.fresh (tD _));have Y0:Inv (B4 X N sc cl H2.objs.size s H fp) ae (FD U src) (upd H s.heap.objs.size (.lst [])) {s with heap:=aI,toks:=s.toks+([]:List (Str×Value)).length} :=
  WX I hf iM hS eB dJ bP (tD _) gK km old gf (eI.extBut _ _ km (sS _ (hH2▸tj _ rfl)))
 have t1:tn 0 aI:=T.keep 0 _ _ t0 λb _ o e=>old b o e
 have eP:∀{H':Hp},(∀b∈fp,H' b=none)->∀b∈fp,KS (B4 X N sc cl H2.objs.size s H fp) ae H' b:=λ{H'} hn b hb =>⟨hn b hb,tU (tw (iM b hb) gK),Y0.ok.zm b hb,.inl hb,(Y0.ok.yM b hb).2,(hf b hb).2.2.2.2.2⟩
 have loop:∀bz:Shared,bz={s with heap:=aI,toks:=s.toks+([]:List (Str×Value)).length} ->
   codeAny (model X.prog X.w) X.A (.compLoop (.ListComp dD [⟨tg,aA,cM,0⟩] sc pos) 0 (.ref it) (.ref s.heap.objs.size) (compEnvC sc cl H2.objs.size X.env)) (RR (.ref s.heap.objs.size) H2.objs.size) bz:=by
  rintro bz rfl
  refine Kv (λn s'=>∃i τ H',Inv (B4 X N sc cl H2.objs.size s H fp) ae τ H' s'/\tn i s'.heap/\(∀b∈fp,H' b=none)/\W i n τ H') ?_ m0 ⟨0,_,_,Y0,t1,(λb hb=>by
  rw[Ap (tU (iM b hb))];exact(hf b hb).1),w0⟩
  rintro n s4 ⟨i,τ,H4,I4,t4,fr4,w4⟩
  rcases turn i n τ H4 w4 with⟨stop,qn⟩|⟨go,Nx,hNx,step⟩
  .refine thn (T.done (B4 X N sc cl H2.objs.size s H fp) rfl rfl rfl bw i ae s4 τ H4 _ I4 (eP fr4) t4 stop) λr s5 ⟨hr,I5⟩=>?_
   subst hr;obtain⟨m5,qI,_⟩:=I5.loc;exact hR _ _ s5 τ H4 m5 gK qI I5 fr4 qn
  .refine thn (T.item (B4 X N sc cl H2.objs.size s H fp) rfl rfl rfl bw i ae s4 τ H4 _ I4 (eP fr4) t4 go) λr s5 ⟨u,hr,h5⟩=>?_
   subst hr;refine thn h5 λ_ s6 ao=>?_
   obtain⟨x,H6,I6,r6,y6,mB,qi⟩:= ao;have again:∀{hV:St}{H7:Hp}{s7:Shared}{m':Nat},Inv (B4 X N sc cl H2.objs.size s H fp) (ae++JO fp s6.heap) hV H7 s7->m'<n->W (i+1) m' hV H7 ->
     ∃m,m<n/\∃i τ H',Inv (B4 X N sc cl H2.objs.size s H fp) ae τ H' s7/\tn i s7.heap/\(∀b∈fp,H' b=none)/\W i m τ H':=λ{hV H7 s7 m'} I7 hm w7=>by
    refine⟨m',hm,i+1,hV,H7,I7.FG,T.keep _ _ _ mB λb hb o e=>(I7.pin (b,o) (tB _ (tB _ (Ea hb e)))).1,λb hb=>?_,w7⟩;obtain⟨o,e,d⟩:=T.obj _ _ mB b hb;exact(I7.pin (b,o) (tB _ (tB _ (Ea hb e)))).2.1
   refine thn (hg cl H2.objs.size s H fp _ s6 τ H6 x u _ (I6.pinned (eP qi) (T.obj _ _ mB)) r6 (step x H6 y6)) λ_ s7 ao=>?_
   obtain⟨hV,H7,I7,q7⟩:= ao;refine thn (ht cl H2.objs.size s H fp _ s7 hV H7 _ I7 q7) λb s8 ao=>?_
   obtain⟨H8,I8,q8⟩:= ao;cases b with
   |false =>obtain⟨m',hm,w8⟩:=hNx _ _ q8;exact again I8 hm w8
   |true =>
    refine thn (he cl H2.objs.size s H fp _ s8 hV H8 _ I8 q8) λv s9 ao=>?_
    obtain⟨y,H9,I9,r9,ys,qm,hz,w9⟩:= ao;obtain⟨m',hm,w9⟩:=hNx _ _ w9;refine thn (Gq _ s9 hV H9 (.ref s.heap.objs.size) [y] (.ref s.heap.objs.size) [v] (λ_ Hn=>W (i+1) m' hV Hn) I9 rfl (.cons r9 .nil) ⟨_,ys,y,rfl,rfl,qm,hz,w9⟩) λ_ sO ao=>?_
    obtain⟨_,sg,oR,_,rX⟩:= ao;exact again oR hm rX
 exact codeAny_compStart_list (loop _ rfl) (T.self X.A 0 _ _ _ t1 (loop _ rfl))
theorem Qe(I:Inv X ae U H s)(hf:∀b∈fp,KS X ae H b)(J:Inv (B4 X N sc cl C s H fp) ae τ H' s'):Inv X ae U H' s' :=
 I.Z1 J.os J.base J.zZ J.bare λb hb=>⟨(hf b hb).2.2.2.1,(hf b hb).2.1,(hf b hb).2.2.2.2.1,(hf b hb).2.2.2.2.2⟩
theorem WW(I:Inv X ae U H s)(hC:s.heap.objs.size<=C)(hf:∀b∈fp,KS X ae H b)
  (J:Inv (B4 X N sc cl C s H fp) ae τ H' s') (hs:Heap.SameBut C s'.heap h'):Inv X ae U H' {s' with heap:=h' }:=by
 refine(Qe I hf J).turned (λb o hb e=>hs.extBut b o hb e) J.free (Nat.ne_of_gt (tw I.lt hC)) (.inr (tY I.sz hC)) (λx c e z=>?_) λp hp z=>?_
 .obtain⟨v,q⟩:=I.cell x c e;exact absurd (tw q.lt (by rwa[z])) (uf _)
 .exact absurd (tw (tf (I.pin p hp).1) (by rwa[z])) (uf _)
theorem Vf(N:List Str)(src:List (Option Nat))(bw:X.calm=true)(hi:PI X tg aA wi)(hg:∀cl C s H fp,PG (B4 X N sc cl C s H fp) tg g)(ht:∀cl C s H fp,Uu (B4 X N sc cl C s H fp) cM tt)
  (he:∀cl C s H fp,PE (B4 X N sc cl C s H fp) dD te) (hS:H0 X.env.scope sc=true:=by rfl) (bP:Ff X.N sc N src=true:=by rfl)
  (hs:∀x,foldedSetIterable aA X.env x=pure x:=by intro _;rfl):PE X (.ListComp dD [⟨tg,aA,cM,0⟩] sc pos) (UD src wi g tt te):=by
 intro ae s U H Q I h;have S:=Ku hS;obtain⟨cl,lb,eB,dJ⟩:=ER λy hy e=>I.ok.has y.1 (S.fr y hy e)
 refine wpAny_comprehension_free rfl hs lb S.kind S.loc (thn (hi ae s U H _ I h) λv s1 h1=>thn h1 λkz s2 h2=>?_);obtain⟨it,fp,tn,J,H2,e,I2,T,t2,f2,hw⟩:=h2;subst e;refine Mz bw S bP hg ht he eB dJ I2 T t2 f2 hw λD C s' τ H' m hC hn J' _ q=>?_
 exact⟨m,hn,λh' bC=>⟨.ref D,H',WW I2 hC f2 J' bC,rfl,q⟩⟩
theorem MX{i:Nat}{y:Str}{bc hJ:Pos}(N:List Str)(src:List (Option Nat))(bw:X.calm=true)(hN:X.N.Nodup)(lA:X.N[i]?=some y)(hy:Loc X.env.scope y)(hi:PI X tg aA wi)(hg:∀cl C s H fp,PG (B4 X N sc cl C s H fp) tg g)(ht:∀cl C s H fp,Uu (B4 X N sc cl C s H fp) cM tt)
  (he:∀cl C s H fp,PE (B4 X N sc cl C s H fp) dD te) (hS:H0 X.env.scope sc=true:=by rfl) (bP:Ff X.N sc N src=true:=by rfl)
  (hs:∀x,foldedSetIterable aA X.env x=pure x:=by intro _;rfl) (lS:swapsWith (.ListComp dD [⟨tg,aA,cM,0⟩] sc pos) (some (.Name y bc)) hJ.line X.env=pure true:=by rfl)
  (hf:X.fn y=true\/X.env.scope.names.lookup y=some .local:=by first|exact .inl rfl|exact .inr rfl|assumption) :
  PS X (.Assign [.Name y bc] (.ListComp dD [⟨tg,aA,cM,0⟩] sc pos) hJ) (Xy (UD src wi g tt te) (Se i)):=by
 intro ae s U H D0 I h;have S:=Ku hS;obtain⟨cl,lb,eB,dJ⟩:=ER (sc:=sc) (env:=X.env) λy hy e=>I.ok.has y.1 (S.fr y hy e)
 rw[exec_Assign_Name_used _ _ _ _ lS];refine sR (wpAny_standAt (sR ?_));refine sR (wpAny_mono (wpAny_comprehension_free (use:=some (assign (.Name y bc) X.env)) (Q:=λ_ s'=>SP X ae D0 .next s') rfl hs lb S.kind S.loc
  (thn (hi ae s U H _ I h) λv s1 h1=>thn h1 λkz s2 h2=>?_)) (λ_ s' hq=>sY (sY hq)) λ_ _ e=>e)
 obtain⟨it,fp,tn,J,H2,e,I2,T,t2,f2,hw⟩:=h2;subst e;refine Mz bw S bP hg ht he eB dJ I2 T t2 f2 hw (RR:=λay C=>compPost (model X.prog X.w) X.A X.xe (some (assign (.Name y bc) X.env)) (λ_ s'=>SP X ae D0 .next s') ay C) λD C s' τ H' m hC hn J' _ q=>?_
 have nE:∀{b:Addr}{o:Obj},s2.heap.get? b=some o->b≠C:=λe=>tU (tw (tf e) hC)
 have cC:∀x c,X.env.cells.lookup x=some c->c≠C:=λx c e=>by obtain⟨v,o,ho,_⟩:=I2.cell x c e;exact nE ho
 have lC:X.env.locals≠C:=tU (tw I2.lt hC);refine wpAny_assign_Name (JA (Qe I2 f2 J') hN lA hy (v:=.ref D) rfl (λs3 I3 ao=>?_) hf);obtain⟨a,sb,ha⟩:= ao;refine⟨m,hn.sameBut sb (by
  rcases ha with rfl|ha
  .exact Ne.symm lC
  .exact Ne.symm (cC _ _ ha)),λh' aZ=>⟨_,H',I3.turned (it:=C) (t':=s3.toks) (λb o hb e=>aZ.extBut b o hb e) J'.free (Ne.symm lC) (.inr (tY I2.sz hC)) cC (λp hp z=>nE (I2.pin p hp).1 z),q⟩⟩
variable{a:Addr}{xs:List V}{Q:VK}{mE:St}{H1:Hp}
end L2
namespace PySem
namespace F
theorem OE:typeLookup (.type "list_reverseiterator") "__len__"=pure none:=by rw[typeLookup_type,builtinLookup_eq_fast];kernel_rfl
theorem RN:typeLookup (.type "list_reverseiterator") "__length_hint__"=pure (some (.builtin "list_reverseiterator.__length_hint__")):=by rw[typeLookup_type,builtinLookup_eq_fast];kernel_rfl
end F
variable{prog:Program}{w:World}{A:Around}{s:Shared}{R:Result->Shared->Prop}
variable{I:Addr}{fp wr:List Addr}{G:Array GenState->Array GenState->Prop}{n:Nat}{P:Nat->Value->Prop}{St:Nat->Shared->Prop}
theorem Fz(W:WalksS prog w A.in1 I fp wr G n P St)(hT:∀i s,St i s->s.TypeIs (.ref I) "list_reverseiterator")(S:Addr)(res:Value)(c₀:Nat)(bL:St 0 s)(jA:S∉fp)(hI:I∈fp)
  (hS:s.heap.get? S=some {cls:=.type "list",data:=.seq #[] c₀})
  (hR:∀s' bB c',Moved (S::wr) G s s'->s'.heap.get? S=some {cls:=.type "list",dict:=none,data:=.seq bB c',slots:=#[]}->ItemsOf P bB n->R (.ok (.ret res)) s') (hn:n<=sizeLine) :
  wpAny (model prog w) A.in1 (Builtin.List.listExtendWith (.ref S) (.ref I) res)
   (λba s'=>match ba with|.done f=>R (.ok f) s'|.again c'=>c'.quiet=true/\codeAny (model prog w) A c' R s') (λe s'=>R (.error e) s') s:=by
 have fR:S≠I:=λe=>jA (e▸hI)
 refine sR (wpAny_typeOf (hT 0 _ bL) ?_);have h1:Builtin.List.listSameRef (.ref S) (.ref I)=false:=by simp[Builtin.List.listSameRef,fR]
 have h2:(Value.type "list_reverseiterator"==Value.type "list")=false:=by decide
 have h3:(Value.type "list_reverseiterator"==Value.type "tuple")=false:=by decide
 simp only[h1,h2,h3,if_false];refine sR (W.self 0 _ _ _ bL ?_);refine sR (wpAny_holding ?_);refine sR (wpAny_specialOf (hT 0 _ bL) F.OE ?_);refine sR (wpAny_specialOf (hT 0 _ bL) F.RN ?_);generalize hid:("list_reverseiterator.__length_hint__":String)=id0
 wp_delta
 subst hid;refine sR (wpAny_isInstance (b:=true) (hT 0 _ bL) (by rw[isSubtype_type];kernel_rfl) ?_);refine sY ?_;refine sY ⟨plainId_quiet F.plain_extend_loop _,codeAny_extend_loopS W hn _ jA _ n 0 _ _ _ rfl (uR _) bL hS (ItemsOf.nil P) λs' bB c' hm dZ cY=>?_⟩;exact hR s' bB c' hm dZ cY
theorem Em(W:WalksS prog w A.in1 I fp wr G n P St)(hT:∀i s,St i s->s.TypeIs (.ref I) "list_reverseiterator")(S:Addr)(bL:St 0 s)(jA:S∉fp)(hI:I∈fp)
  (hS:s.heap.get? S=some {cls:=.type "list",data:=.seq #[]})
  (hR:∀s' bB c',Moved (S::wr) G s s'->s'.heap.get? S=some {cls:=.type "list",dict:=none,data:=.seq bB c',slots:=#[]}->ItemsOf P bB n->R (.ok (.ret .none)) s') (hn:n<=sizeLine) :
  wpAny (model prog w) A.in1 (Builtin.«list.__init__» ⟨[.ref S,.ref I],[]⟩)
   (λba s'=>match ba with|.done f=>R (.ok f) s'|.again c'=>c'.quiet=true/\codeAny (model prog w) A c' R s') (λe s'=>R (.error e) s') s:=by
 refine sR ?_;refine sR (wpAny_seqItems hS rfl (sY ?_));refine sR (wpAny_updateSeq hS rfl ?_);have zX:∀b o,b≠S->s.heap.get? b=some o->(s.heap.update S (Obj.mapSeq (λ_=>(#[]:Array Value)))).get? b=some o :=
  λb o hb e=>(uc _ _ (Ne.symm hb)).trans e
 refine sR (wpAny_letGo ?_);refine Fz (hn:=hn) W hT S .none _ (W.frame 0 s _ s.toks bL (tD _) λb hb o e=>zX b o (λh=>jA (h▸hb)) e) jA hI (uh (Obj.mapSeq (λ_=>(#[]:Array Value))) hS rfl) λs' bB c' hm dZ cY=>?_
 exact hR s' bB c' (Moved.trans W.gtrans ((Moved.refl W.grefl).then_heap (tD _) λb o hb e=>zX b o (λh=>hb (h▸tZ)) e) hm) dZ cY
variable{E:Value->Shared->Prop}
theorem Fh(hh:A.handled=none)(bV:l≠it)(bj:s.heap.IsRevIter it l ((items.size:Int)-1))(hl:s.heap.IsList l items)(hz:items.size<=sizeLine)
  (hQ:∀h' tk bB c',(∀b o,b≠it->s.heap.get? b=some o->h'.get? b=some o) ->
   h'.get? s.heap.objs.size=some {cls:=.type "list",dict:=none,data:=.seq bB c',slots:=#[]}->ItemsOf (λi v=>items[items.size-1-i]?=some v) bB items.size->Q (.ref s.heap.objs.size) {s with heap:=h',toks:=tk}) :
  wpAny (model prog w) A (call (.type "list") [.ref it]) Q E s:=by
 refine callType_codes (Q₁:=λobj az=>obj=.ref s.heap.objs.size/\az={s with heap:=s.heap.push {cls:=.type "list",data:=.seq #[]} }) F.called_list (F.typeCall_list_1 _) F.entry_list_init
  (code_list_new _ ⟨rfl,rfl⟩) λobj az aI=>?_
 obtain⟨rfl,rfl⟩:=aI;have hS:(s.heap.push {cls:=.type "list",data:=.seq #[]}).get? s.heap.objs.size=some {cls:=.type "list",data:=.seq #[]}:=tj _ rfl;have e0:(items.size:Int)-1-((0:Nat):Int)=(items.size:Int)-1:=by simp
 refine⟨⟨_,hS,rfl⟩,F.args_list_init_2 _ _,Em ((Walks.listRev (prog:=prog) (w:=w) (A:=A.in1.in1) hh it l bV items).toS) (λi s' st=>?_) _ ?_ ?_ (by simp) hS (λs' bB c' hm dZ cY=>?_) hz⟩
 .exact st.2.1.typeIs
 .refine⟨uR _,?_,hl.push _⟩;rw[e0];exact bj.at λo e=>sS _ e
 .intro hm;rcases tm.mp hm with e|hm
  .exact absurd (by obtain⟨o,e,_⟩:=bj;exact tf e) (by rw[e];exact uf _)
  .exact absurd (by obtain⟨o,e,_⟩:=hl;exact tf e) (by rw[tK.mp hm];exact uf _)
 .rw[Moved.eq_with hm]at dZ ⊢;refine⟨rfl,hQ s'.heap s'.toks bB c' (λb o hb e=>hm.heap b o (λiQ=>?_) (sS _ e)) dZ cY⟩;rcases tm.mp iQ with e'|iQ
  .exact absurd (tf e) (by rw[e'];exact uf _)
  .exact hb (tK.mp iQ)
end PySem
namespace L2
open PySem PySem.Spec PyProof.Rows
variable{X:Cx}{ae:List (Addr×Obj)}{U:St}{H:Hp}{s:Shared}
theorem Inv.P0(I:Inv X ae U H s)(hf:KS X ae H it)(hd:s.heap.objs.size<=d)(k:∀b o,b≠it->s.heap.get? b=some o->h'.get? b=some o)
  (hz:ys.length<=sizeLine) (r:Vals ys ak) (e:h'.get? d=some {cls:=.type "list",data:=.seq ak.toArray n}):Inv X ae U (upd H d (.lst ys)) {s with heap:=h',toks:=t' }:=by
 obtain⟨f0,f1,f2,f3,f4,f5⟩:=hf;have fd:=I.zZ.fresh hd;have gm:∀{b:Addr}{u:HO},H b=some u->b≠it:=λ{b u} e z=>by rw[z,f0]at e;cases e
 refine I.step (ch:=[it]) (λb hb=>?_) (λb o _ _ hc e _=>k b o (λz=>hc (by simp[z])) e) (λb o _ _ hc e _=>⟨o.slots,k b o (λz=>hc (by simp[z])) e⟩)
  (λb o _ e n=>by rwa[Ap (tU (tw (tf e) hd))]) (λb o hc e=>⟨o,k b o (λz=>hc (by simp[z])) e⟩) (λb xs e=>by rwa[Ap (AX e fd)]) (λb o u e=>by rwa[Ap (AX e fd)])
  (λb ps e=>⟨#[],by rw[Ap (AX e fd),e];simp⟩) (λm hm=>?_) (λb u e=>?_) I.bare
 .have e:=by simpa using hb
  subst e;exact⟨f3,f1,f4,f5⟩
 .obtain⟨o,es,ep,ho,r⟩:=hm;exact⟨o,es,ep,k _ o (Ne.symm f1) ho,r⟩
 .by_cases hb:b=d
  .subst hb;rw[As]at e;cases e;exact⟨hz,ak,n,r,‹_›⟩
  .rw[Ap hb]at e;refine(I.zZ b u e).N5 (λc v hc q=>k c v ?_ q) (λc q=>by rwa[Ap (AX q fd)]) λc xs q=>by rwa[Ap (AX q fd)]
   rcases hc with z|z
   .rw[z];exact gm e
   .exact gm z
theorem Qz(r:Vals ys ak)(h:ItemsOf (λi v=>ak.toArray[ak.toArray.size-1-i]?=some v) ay ak.toArray.size):Vals ys.reverse ay.toList:=by
 have e:ay.toList=ak.reverse:=by
  apply List.ext_getElem?;intro i;obtain⟨h1,h2⟩:=h;have hs:ak.toArray.size=ak.length:=by simp
  by_cases hi:i<ak.length
  .have ha:ay[i]?=some (ay[i]'(by lia)):=by simp
   rw[List.getElem?_reverse (by lia)];have q':=by simpa using (h2 i _ ha)
   rw[q'];simp
  .rw[uq (by simp;lia),uq (by simp;lia)]
 rw[e];exact r.reverse
variable{a:Expr}{ta:TE}{p1 p2 fE bf:Pos}
def QH(K:Fg)(ta:TE):TE:=λU H Q=>ta U H λx H1=>∃l ys,x=.ref l/\SqL K H1 l ys/\∀d,H1 d=none->Q (.ref d) (upd H1 d (.lst ys.reverse))
theorem MZ(hc:X.calm=true)(iP:X.mg "list"=none)(fq:X.mg "reversed"=none)(ha:PE X a ta)(iO:Gl X "list":=by rfl)(eE:Gl X "reversed":=by rfl)
  (he:starEach [(.Call (.Name "reversed" p2) [a] [] bf:Expr)] X.env=[(false,eval (.Call (.Name "reversed" p2) [a] [] bf) X.env)]:=by rfl) (gR:starEach [a] X.env=[(false,eval a X.env)]:=by rfl) :
  PE X (.Call (.Name "list" p1) [.Call (.Name "reversed" p2) [a] [] bf] [] fE) (QH X.K ta):=by
 intro ae s U H Q I h;refine wpAny_Call_Name_kw (DR I iO iP boot_list ?_);refine callWith_type1 ?_ he rfl;refine Calls.spliced_cons ?_;refine wpAny_Call_Name_kw (DR I eE fq boot_reversed ?_);refine callWith_type1 ?_ gR rfl;rw[gR];refine Calls.spliced_cons (thn (ha ae s U H _ I h) λu s1 ao=>?_);obtain⟨x,H1,I1,r1,l,ys,ex,hq,q⟩:= ao;subst ex;cases r1;obtain⟨ak,rv,pl,hz⟩:=I1.list hq;have hlen:=rv.length;refine Calls.spliced_nil (call_reversed_list pl.isList ?_);refine Calls.spliced_nil ?_;have I2:Inv X ae U H1 {s1 with heap:=s1.heap.push (revObj l ((ak.toArray.size:Int)-1))}:=I1.kept λb o e=>sS _ e
 refine Fh (I.ok.hd hc) (tU (by obtain⟨o,n,e,_⟩:=pl;exact tf e)) ⟨_,tj _ rfl,rfl,rfl⟩ (pl.isList.push _) (by rw[sX];lia) λh' tk ay c kp e cY=>?_
 refine⟨.ref _,_,I2.P0 (I1.Sn (tD _) (I1.zZ.fresh (tD _))) (tD _) kp (by rwa[uU]) (Qz rv cY) (by simpa using e),rfl,q _ (I2.zZ.fresh (tD _))⟩
theorem SV(hc:X.calm=true):CU X (.builtin "sum") (λxs H Q=>∃(l:Addr)(ns:List Int),xs=[.ref l]/\SqL X.K H l (ns.map V.int)/\Q (.int ns.sum) H):=by
 intro ae s U H xs us Q I r h;obtain⟨l,ns,rfl,hq,q⟩:=h;obtain⟨u,rfl,rx⟩:=vals1 r;cases rx;obtain⟨ak,rv,pl,hz⟩:=I.list hq;have hi:=intsAre_of rv;obtain⟨zs,hx⟩:=hi.allInts.items;refine sum_intListG (I.ok.hd hc) (hx▸pl.isList) λh' tk t' hk=>?_
 have e1:ns=zs.toList.map (·.1):=by rw[<- nums_intItems,<- hx];exact(show numsOf ak.toArray.toList=ns from hi.numsOf).symm
 have e2:preSum (numAt zs) zs.size=ns.sum:=by rw[preSum_eq,vf (by simp),e1]
 rw[e2];exact⟨.int ns.sum,H,I.kept hk,⟨_,rfl⟩,q⟩
theorem B5:∀{bs:List Bool}{us:List Value},Vals (bs.map V.o) us->us=bs.map Value.bool
 | [],_,.nil=>rfl
 |b::bs,_,.cons r t=>by cases(show _=Value.bool b from r);rw[sW,B5 t]
theorem SY(hc:X.calm=true):CU X (.builtin "all") (λxs H Q=>∃(l:Addr)(bs:List Bool),xs=[.ref l]/\SqL X.K H l (bs.map V.o)/\Q (.o (bs.all id)) H):=by
 intro ae s U H xs us Q I r h;obtain⟨l,bs,rfl,hq,q⟩:=h;obtain⟨u,rfl,rx⟩:=vals1 r;cases rx;obtain⟨ak,rv,pl,hz⟩:=I.list hq;have hb:=B5 rv;have hl:=pl.isList;refine call_all_walk (wpAny_pyIter_list hl ?_);refine⟨s.heap.objs.size,[s.heap.objs.size,l],[s.heap.objs.size],ak.toArray.size,_,_,λi=>(bs[i]?).getD true,rfl,Walks.list (A:=X.A.in1) (I.ok.hd hc) _ l (tU (by obtain⟨_,e,_⟩:=hl;exact tf e)) ak.toArray,
  ⟨⟨_,tj _ rfl,rfl,rfl⟩,hl.push _⟩,λi v s' Q' E' hP hQ=>?_,λh' tk hk=>?_⟩
 .have e:=by simpa using hP
  rw[hb,t7]at e;cases eb:bs[i]? with|none=>rw[eb]at e;cases e|some b =>rw[eb]at e;have e':=Option.some.inj e;subst e';simp only[eb]at hQ;exact wpAny_truthy_bool hQ
 .have e:((List.range ak.toArray.size).all λi=>(bs[i]?).getD true)=bs.all id:=by
   have hlen:ak.toArray.size=bs.length:=by rw[hb];simp
   rw[hlen];rw[uC,ur,ur];constructor
   .intro hh b hm;obtain⟨i,hi,rfl⟩:=uV hm;have:=hh i (uG.mpr hi);simpa[sV hi]using this
   .intro hh i hi;have gC:=uG.mp hi;have:=hh _ (List.getElem_mem gC);simpa[sV gC]using this
  rw[e];exact⟨.o _,H,I.kept (λb o e=>hk b o (λhm=>by rw[tK.mp hm]at e;exact uf _ (tf e)) (sS _ e)),rfl,q⟩
theorem Vm:OpR X (binaryOp .Mult) (rI IntMulOk λi j=>.int (i*j)):=opI λ_ _ _ _ _ _ _ hc q=>mul_int q hc
theorem Ov:OpR X (binaryOp .Mult) (λx y H Q=>∃z n,x=.str z/\y=.int n/\MulOk z n/\Q (.str (Txt.mul z n)) H):=by intro ae s U H x y v u Q I rx ry h;obtain⟨z,n,rfl,rfl,zZ,q⟩:=h;obtain⟨t,rfl⟩:=rx;obtain⟨t',rfl⟩:=ry;exact SB.mul zZ λt' k=>⟨.str _,H,I.tok _,⟨_,rfl⟩,q⟩
theorem Gf:∀{ys:List Str}{us:List Value},Vals (ys.map V.str) us->StrsAre us ys
 | [],_,.nil=>.nil
 |y::ys,_,.cons r t=>by
  obtain⟨tk,rfl⟩:=(show ∃tk,_=Value.str y tk from r)
  exact .cons _ _ (Gf t)
theorem VG:MtR X "str.join" (λx xs H Q=>∃(z:Str)(l:Addr)(ys:List Str),x=.str z/\xs=[.ref l]/\SqL X.K H l (ys.map V.str)/\(ys.map (·.length)).sum+ys.length*z.length<=16777216/\Q (.str (Txt.join z ys)) H):=by intro ae s U H x xs v us Q I rx rv h;obtain⟨z,l,ys,rfl,rfl,hq,zZ,q⟩:=h;obtain⟨t,rfl⟩:=rx;obtain⟨u,rfl,ru⟩:=vals1 rv;cases ru;obtain⟨ak,r,pl,hz⟩:=I.list hq;exact join_list pl.isList (Gf r) zZ λt' k=>⟨.str _,H,I.tok _,⟨_,rfl⟩,q⟩
variable{tg:Expr}
def Its(z:Str):It:=⟨λi _=>i<z.cps.size,λi H x H'=>H'=H/\∃c,z.cps[i]?=some c/\x=.str ⟨#[c]⟩,λi _=>z.cps.size<=i⟩
theorem Y8(hQ:Q () s):wpAny M A (letOwnedTupleGo tg it (.str x t)) Q E s:=by
 cases tg<;>first
  |exact sY hQ
  |(cases it<;>exact sY hQ)
theorem QC{K:Fg}(it:Addr)(ty:String)(z:Str)(t:Tok)(fA:ty="str_ascii_iterator"\/ty="str_iterator"):Turn P w K tg (Its z) [it] it (λi h=>h.IsStrIter it ty z t i) where
 mem:=by simp
 obj:=λi h st b hb=>by
  have e:=by simpa using hb
  subst e;obtain⟨o,e,c,d⟩:=st;exact⟨o,e,λv z=>by rw[d]at z;cases z⟩
 keep:=λi h h' st k=>by obtain⟨o,e,c,d⟩:=st;exact⟨o,k it (by simp) o e,c,d⟩
 item:=by
  intro X hP hw hK hc i ae s U H E I hf st hg;subst hP hw hK;obtain⟨f0,f1,f2,f3,f4,f5⟩:=hf it (by simp);have ba:∀(v:Value)(h':Heap)(tk:Nat),SignAt z i v->h'.IsStrIter it ty z t (i+1)->(∀b o,b∉[it]->s.heap.get? b=some o->h'.get? b=some o) ->
    ∃u,some v=some u/\wpAny (model X.prog X.w) X.A (letOwnedTupleGo tg (.ref it) u) (λ_ s2=>∃x H',Inv X ae U H' s2/\RelV x u/\(Its z).yL i H x H'/\s2.heap.IsStrIter it ty z t (i+1)/\∀b∈[it],H' b=none) E {s with heap:=h',toks:=tk}:=λv h' tk hv eZ kk=>by
   obtain⟨c,u,jb,rfl⟩:=hv;exact⟨_,rfl,Y8 ⟨.str ⟨#[c]⟩,H,(I.turned (λb o hb e=>kk b o (by simpa using hb) e) f0 f1 f3 f4 f5),⟨u,rfl⟩,⟨rfl,c,jb,rfl⟩,eZ,λb hb=>(hf b hb).1⟩⟩
  rcases fA with rfl|rfl
  .exact(Walks.strAscii (I.ok.hd hc) it z t).item i s _ _ hg st ba
  .exact(Walks.strWide (I.ok.hd hc) it z t).item i s _ _ hg st ba
 done:=by
  intro X hP hw hK hc i ae s U H E I hf st hg;obtain⟨f0,f1,f2,f3,f4,f5⟩:=hf it (by simp);have hz:=Array.getElem?_eq_none hg;rcases fA with rfl|rfl
  .exact wpAny_pyNext_ascii_end (I.ok.hd hc) st hz λh' ik=>⟨rfl,I.turned (λb o hb e=>ik b o hb e) f0 f1 f3 f4 f5⟩
  .exact wpAny_pyNext_wide_end (I.ok.hd hc) st hz λh' ik=>⟨rfl,I.turned (λb o hb e=>ik b o hb e) f0 f1 f3 f4 f5⟩
 self:=λ_ _ _ _ _ st h=>by
  rcases fA with rfl|rfl
  .exact wpAny_pyIter_striter_ascii st h
  .exact wpAny_pyIter_striter_wide st h
variable{a:Addr}{xs:List V}{g:TG}{te:TE}{Q:VK}{mE:St}{H1:Hp}
section
variable{K:Fg}
end
section
variable(K:Fg)
end
theorem VF:MtM X "list.pop" (λx vs H Q=>∃l e z,x=.ref l/\vs=[]/\H l=some (.lst (e++[z]))/\Q z (upd H l (.lst e))):=by intro ae s U H x vs v us Q I rx rv h;obtain⟨l,e,z,rfl,rfl,hH,q⟩:=h;refine YG ae s U H _ _ v us Q I rx rv ⟨l,e++[z],z,rfl,rfl,hH,by simp,?_⟩;rwa[List.dropLast_concat]
structure FnAt(P:Program)(w:World)(K:Fg)(mg:Str->Option Value)(base:Heap)(CX:CXT)(x:Str)(k:Nat)(ps:List Str)(sp:Sp):Prop where
 ex:∃f fd,EW P w K mg base CX k f fd ps sp/\mg x=some (.ref f)/\keepIn K (.ref f)=true/\Binds K fd ps []
variable{CX:CXT}{k:Nat}{ps:List Str}{sp:Sp}{E:XK}{x:Str}{p pos:Pos}{e:Expr}{es:List Expr}{t:TA}
theorem JaW(h:∃t,X.mg x=some (.int i t))(hg:Gl X x:=by rfl)(hd:(x==("__debug__":Str))=false:=by decide):PE X (.Name x pos) (tC (.int i)):=by obtain⟨t,h⟩:=h;exact Oq hg h ⟨t,rfl⟩ hd
theorem JaV(h:∃t,X.mg x=some (.str z t))(hg:Gl X x:=by rfl)(hd:(x==("__debug__":Str))=false:=by decide):PE X (.Name x pos) (tC (.str z)):=by obtain⟨t,h⟩:=h;exact Oq hg h ⟨t,rfl⟩ hd
theorem OY{k}(h:Hw k v=true):RelV (kV k) v:=by
 rcases Be h with⟨i,t,rfl,rfl⟩|⟨x,t,rfl,rfl⟩
 .exact⟨t,rfl⟩
 .exact⟨t,rfl⟩
theorem NN(r:KV ah vs)(h:ItemsOf (λi v=>∃k x,vs[i]?=some (k,x)/\Hw k v=true) ay vs.length):Vals (ah.map λkv=>kV kv.1) ay.toList:=by
 obtain⟨h1,h2⟩:=h;have key:∀(ah:List (Key×V))(vs:List (Key×Value))(l:List Value),KV ah vs->l.length=vs.length->(∀(j:Nat)(v:Value),l[j]?=some v->∃k x,vs[j]?=some (k,x)/\Hw k v=true)->Vals (ah.map λkv=>kV kv.1) l:=by
  intro ah
  induction ah with
  |nil =>intro vs l r hl _;cases r;have:=uF (by simpa using hl);subst this;exact .nil
  |cons p ah ih =>
   intro vs l r hl hh;cases r with
   |@cons _ q _ vr e t =>
    cases l with
    |nil=>simp at hl
    |cons v l =>
     obtain⟨k,x,e1,e2⟩:=hh 0 v rfl;refine .cons ?_ (ih vr l t (by simpa using hl) λj w hw=>?_)
     .have:p.1=k:=by rw[e.1,(Option.some.inj e1)]
      show RelV (kV p.1) v;rw[this];exact OY e2
     .exact hh (j+1) w hw
 exact key ah vs ay.toList r (by rwa[uE]) λj v e=>h2 j v (by rwa[<- uT])
structure W6(P:Program)(w:World)(K:Fg)(mg:Str->Option Value)(base:Heap)(CX:CXT)(C:Addr)(m:Str)(k:Nat)(ps:List Str)(sp:Sp):Prop where
 cl:Cls K C
 ex:∃f fd,EW P w K mg base CX k f fd ps sp/\Meth K C m f/\Binds K fd ps []
structure Jau(P:Program)(w:World)(K:Fg)(mg:Str->Option Value)(base:Heap)(CX:CXT)(x:Str)(C:Addr)(k:Nat)(ps:List Str)(sp:Sp):Prop where
 at_:mg x=some (.ref C)
 ex:∃f fd,EW P w K mg base CX k f fd ps sp/\Mk K C f/\Binds K fd ps []
variable{C:Addr}{m:Str}{aw:Pos}{o:Expr}
theorem Yf(G:W6 X.prog X.w X.K X.mg X.base CX C m k ps sp)(hr:DJ k X.A)(hx:Passes CX X E)(he:PE X o ta)
  (ht:eval (.Call (.Attribute o m aw) [] [] pos) X.env=(do
   let ov <- eval o X.env
   standAt aw.atName
   let(f,first) <- holding [ov] (getMethod ov m pl)
   callWith pos f first (backTo pos (starEach [] X.env)) (backToKw pos (keywordEach [] X.env))):=by rfl) :
  PE X (.Call (.Attribute o m aw) [] [] pos) (UC C m sp [] E ta Xr):=by
 obtain⟨f,fd,F,hm,hb⟩:=G.ex;exact Rf he G.cl hm F hr hb .nil hx ht
theorem JaU(G:Jau X.prog X.w X.K X.mg X.base CX x C k ps sp)(hr:DJ (k+1) X.A)(hx:Passes CX X E)(ha:PA X (e::es) t)(hg:Gl X x:=by rfl)(bh:(x==("__debug__":Str))=false:=by decide)
  (he:starEach (e::es) X.env=(false,eval e X.env)::starEach es X.env:=by rfl) (aD:(backTo pos (starEach es X.env)).any (·.1)=false:=by rfl):PE X (.Call (.Name x p) (e::es) [] pos) (Xu C sp [] E t):=by
 obtain⟨f,fd,F,M,hb⟩:=G.ex;exact Vb M F hr hg G.at_ hb .nil hx ha bh he aD
def orR(r r':R2):R2:=λx y H Q=>r x y H Q\/r' x y H Q
theorem OpR.orR(h:OpR X f r)(h':OpR X f r'):OpR X f (orR r r'):=λae s U H x y v u Q I rx ry q=>q.elim (h ae s U H x y v u Q I rx ry) (h' ae s U H x y v u Q I rx ry)
theorem IxR.orR(h:IxR X r)(h':IxR X r'):IxR X (L2.orR r r'):=λvalue aC ae s U H x y v u Q I rx ry q e=>q.elim (λq=>h value aC ae s U H x y v u Q I rx ry q e) (λq=>h' value aC ae s U H x y v u Q I rx ry q e)
def XT:R2:=λx y H Q=>∃a v,x=.ref a/\KW H a y (some v)/\Q v H
def JaM(neg:Bool):R2:=λy x H Q=>∃a o,x=.ref a/\KW H a y o/\Q (.o (if neg then !o.isSome else o.isSome)) H
theorem TN(hu:X.A.units+1<cLine):OpR X (compareOp .In) (JaM false):=by intro ae s U H y x v u Q I ry rx h;obtain⟨a,o,rfl,g,q⟩:=h;obtain rfl:u=Value.ref a:=rx;exact d_in hu I g ry λs3 I3=>⟨.o o.isSome,H,I3,rfl,q⟩
theorem Ow(hu:X.A.units+1<cLine):OpR X (compareOp .NotIn) (JaM true):=by intro ae s U H y x v u Q I ry rx h;obtain⟨a,o,rfl,g,q⟩:=h;obtain rfl:u=Value.ref a:=rx;exact WK hu I g ry λs3 I3=>⟨.o (!o.isSome),H,I3,rfl,q⟩
theorem V0(hu:X.A.units+1<cLine):IxR X XT:=by
 intro value aC ae s U H x y v u Q I rx ry h hs;obtain⟨a,w,rfl,g,q⟩:=h;obtain rfl:v=Value.ref a:=rx;have hT:=GP I g;refine sR ?_;refine sR (wpAny_specialOf hT PySem.F.slot_dict_getitem.lookup ?_);have ba:wpAny (model X.prog X.w) X.A (subscripted aC false (.ref a) u) (λr bz=>wpAny (model X.prog X.w) X.A (letTemporaryGo value (.ref a) r >>= λ_=>pure r) (EP X ae U Q) X.xe bz) X.xe s:=by rw[hs];exact wpAny_operating (wpAny_mono (Ks hu I g ry λw' s3 I3 dI=>⟨w,H,I3,dI,q⟩) (λr bz fC=>sR (wpAny_letTemporaryGo (sY fC))) λ_ _ x=>x)
 first
  |exact sY (sR ba)
  |exact sR (sY (sR ba))
  |exact sR ba
noncomputable def Yo(r r':Xj):Xj:=λo i v H Q=>r o i v H Q\/r' o i v H Q
theorem Tf.orR(h:Tf X r)(h':Tf X r'):Tf X (Yo r r'):=λae s U H o i v ov iv u Q I r1 r2 r3 q=>q.elim (h ae s U H o i v ov iv u Q I r1 r2 r3) (h' ae s U H o i v ov iv u Q I r1 r2 r3)
noncomputable def US:Xj:=λo i v H Q=>∃a H4,o=.ref a/\NK H a i v H4/\Q H4
theorem set_dict(hu:X.A.units+1<cLine):Tf X US:=by intro ae s U H o i v ov iv u Q I ro ri rv h;obtain⟨a,H4,rfl,g,q⟩:=h;obtain rfl:ov=Value.ref a:=ro;exact Kr hu I g ri rv λs4 I4=>⟨H4,I4,q⟩
def TL(r r':List V->Hp->VK->Prop):List V->Hp->VK->Prop:=λvs H Q=>r vs H Q\/r' vs H Q
theorem CU.orR(h:CU X f r)(h':CU X f r'):CU X f (TL r r'):=λae s U H xs us Q I rx q=>q.elim (h ae s U H xs us Q I rx) (h' ae s U H xs us Q I rx)
def Jah(r r':V->List V->Hp->VK->Prop):V->List V->Hp->VK->Prop:=λx vs H Q=>r x vs H Q\/r' x vs H Q
theorem MtR.orR{id:String}(h:MtR X id r)(h':MtR X id r'):MtR X id (Jah r r'):=λae s U H x xs v us Q I rx rs q=>q.elim (h ae s U H x xs v us Q I rx rs) (h' ae s U H x xs v us Q I rx rs)
def iSeq(K:Fg)(tl:TE):TI:=λU H R=>tl U H λx H1=>(∃a,x=.ref a/\(∃xs,SqL K H1 a xs)/\R (Itl K a) H1)\/(∃a,x=.ref a/\(∃xs,SqT K H1 a xs)/\R (Itt K a) H1)\/(∃z,x=.str z/\R (Its z) H1)
theorem X8(hl:PE X l tl):PI X tg l (iSeq X.K tl):=by
 intro ae s U H R I h;have key:∀(x:V)(H1:Hp)(v:Value)(s1:Shared),Inv X ae U H1 s1->RelV x v->((∃a,x=.ref a/\(∃xs,SqL X.K H1 a xs)/\R (Itl X.K a) H1)\/(∃a,x=.ref a/\(∃xs,SqT X.K H1 a xs)/\R (Itt X.K a) H1)\/(∃z,x=.str z/\R (Its z) H1)) ->
   wpAny (model X.prog X.w) X.A (pyIter v) (PIE X ae U tg R) X.xe s1:=by
  intro x H1 v s1 I1 r1 q1;rcases q1 with⟨a,e,⟨xs,hq⟩,q⟩|⟨a,e,⟨xs,hq⟩,q⟩|⟨z,e,q⟩
  .subst e;cases r1;obtain⟨ak,rv,p,hz⟩:=I1.list hq;refine wpAny_pyIter_list p.isList ?_;refine⟨s1.heap.objs.size,[s1.heap.objs.size],_,_,H1,rfl,I1.kept λb o e=>sS _ e,NT a _,⟨_,tj _ rfl,rfl,rfl⟩,λb hb=>?_,q⟩;have e:=by simpa using hb
   subst e;exact I1.Sn (tD _) (I1.zZ.fresh (tD _))
  .subst e;cases r1;obtain⟨ak,rv,p,hz⟩:=I1.tuple hq;refine wpAny_pyIter_tuple (show s1.heap.IsTuple a ak.toArray from p) ?_;refine⟨s1.heap.objs.size,[s1.heap.objs.size],_,_,H1,rfl,I1.kept λb o e=>sS _ e,MM a _,⟨_,tj _ rfl,rfl,rfl⟩,λb hb=>?_,q⟩;have e:=by simpa using hb
   subst e;exact I1.Sn (tD _) (I1.zZ.fresh (tD _))
  .subst e;obtain⟨t,rfl⟩:=r1;have go:∀(ty:String),(ty="str_ascii_iterator"\/ty="str_iterator")->PIE X ae U tg R (.ref s1.heap.objs.size) {s1 with heap:=s1.heap.push {cls:=.type ty,data:=.fields #[.str z t,.int 0 0]} }:=λty fA=>by
    refine⟨s1.heap.objs.size,[s1.heap.objs.size],_,_,H1,rfl,I1.kept λb o e=>sS _ e,QC _ ty z t fA,⟨_,tj _ rfl,rfl,rfl⟩,λb hb=>?_,q⟩;have e:=by simpa using hb
    subst e;exact I1.Sn (tD _) (I1.zZ.fresh (tD _))
   cases ha:z.cps.all (·<128)
   .exact wpAny_pyIter_wide ha (go _ (.inr rfl))
   .exact wpAny_pyIter_ascii ha (go _ (.inl rfl))
 refine thn (hl ae s U H _ I h) λv s1 ao => ?_
 obtain⟨x,H1,I1,r1,q1⟩:= ao;exact key x H1 v s1 I1 r1 q1
end L2
namespace PySem
namespace Zp
variable{prog:Program}{w:World}{A:Around}{E:Value->Shared->Prop}{s:Shared}
theorem QF(bj:s.heap.IsTupleIter it t i)(ht:s.heap.IsTuple t items)(hx:items[i]?=some x)
  (hQ:∀h',h'.IsTupleIter it t (i+1)->Heap.SameBut it s.heap h'->Q x {s with heap:=h' }):wpAny (model prog w) A (Builtin.SmallTypes.nextOf (.ref it)) Q E s:=by
 obtain⟨o,ho,hc,hd⟩:=id bj;obtain⟨ol,lN,_,nl,lu⟩:=ht;refine sR (wpAny_callSpecial?_slot bj.typeIs F.slot_tuple_iterator_next (wpAny_call_entry F.slot_tuple_iterator_next bj.typeIs F.entry_tuple_iterator_next ?_ (F.args_tuple_iterator_next_1 _)));show wpAny _ _ (field (.ref it) 0 >>= _) _ _ s;refine sR (t6 ho hd rfl ?_);show wpAny _ _ (field (.ref it) 1 >>= _) _ _ s;refine sR (t6 ho hd rfl ?_);show wpAny _ _ (seqItems? (.ref t) >>= _) _ _ s;refine sR (wpAny_seqItems lN lu ?_);simp only[u9,hx];refine sR (wpAny_setField ho hd (by simp) (sY ⟨x,rfl,sY (hQ _ ?_ (Heap.SameBut.update ..))⟩));exact⟨_,uh _ ho (Obj.isFreed_of_fields (Obj.data_mapFields hd _)),(Obj.cls_mapFields ..).trans hc,by rw[Obj.data_mapFields hd];simp[rawInt]⟩
theorem Uy(hh:A.handled=none)(bj:s.heap.IsTupleIter it t i)(ht:s.heap.IsTuple t items)(hx:items[i]?=none)
  (hE:∀h' e,Heap.ExtBut it s.heap h'->(∃o,h'.get? e=some o/\o.cls=.type "StopIteration")->E (.ref e) {s with heap:=h' }):wpAny (model prog w) A (Builtin.SmallTypes.nextOf (.ref it)) Q E s:=by
 obtain⟨o,ho,hc,hd⟩:=id bj;obtain⟨ol,lN,_,nl,lu⟩:=ht;refine sR (wpAny_callSpecial?_slot bj.typeIs F.slot_tuple_iterator_next (wpAny_call_entry F.slot_tuple_iterator_next bj.typeIs F.entry_tuple_iterator_next ?_ (F.args_tuple_iterator_next_1 _)));show wpAny _ _ (field (.ref it) 0 >>= _) _ _ s;refine sR (t6 ho hd rfl ?_);show wpAny _ _ (field (.ref it) 1 >>= _) _ _ s;refine sR (t6 ho hd rfl ?_);show wpAny _ _ (seqItems? (.ref t) >>= _) _ _ s;refine sR (wpAny_seqItems lN lu ?_);simp only[u9,hx];refine sR (wpAny_rule (sR (wpAny_setField ho hd (by simp) ?_)));show wpAny _ _ (newExc (.type "StopIteration") [] >>= _) _ _ _;refine sR ?_;simp only[newExc];refine sR (wpAny_newObj_type ?_ (by size_fits));refine sR (wpAny_of_eq (by first|rfl|(simp only;rfl)) ?_);refine wpAny_newObj_type ?_ (by size_fits);simp only;refine sR (wpAny_handled ?_);first|rw[show A.in1.handled=none from hh]|rw[hh]
 refine sR (sY (wpAny_throw ?_));exact hE _ _ (((Heap.SameBut.update ..).extBut.push _).push _) ⟨_,tj _ rfl,rfl⟩
structure Draws(prog:Program)(w:World)(it src:Addr)(xs:Array Value)(S:Nat->Heap->Prop):Prop where
 ne:src≠it
 obj:∀k h,S k h->∃o,h.get? it=some o/\∀v,o.data≠.cell v
 yw:∀k h,S k h->∃o,h.get? src=some o/\(o.cls=.type "list"\/o.cls=.type "tuple")
 keep:∀k (h h':Heap),S k h->(∀o,h.get? it=some o->h'.get? it=some o)->(∀o,h.get? src=some o->h'.get? src=some o)->S k h'
 item:∀(A:Around)(s:Shared)(k:Nat)(x:Value)(Q:Value->Shared->Prop)(E:Value->Shared->Prop),S k s.heap->xs[k]?=some x->(∀h',S (k+1) h'->Heap.SameBut it s.heap h'->Q x {s with heap:=h' }) ->
  wpAny (model prog w) A (Builtin.SmallTypes.nextOf (.ref it)) Q E s
 stop:∀(A:Around)(s:Shared)(k:Nat)(Q:Value->Shared->Prop)(E:Value->Shared->Prop),A.handled=none->S k s.heap->xs[k]?=none ->
  (∀h' e,Heap.ExtBut it s.heap h'->(∃o,h'.get? e=some o/\o.cls=.type "StopIteration")->E (.ref e) {s with heap:=h' })->wpAny (model prog w) A (Builtin.SmallTypes.nextOf (.ref it)) Q E s
theorem Draws.tup(bV:t≠it):Draws prog w it t xs (λk h=>h.IsTupleIter it t k/\h.IsTuple t xs) where
 ne:=bV
 obj:=λk h st=>by obtain⟨⟨o,e,c,d⟩,_⟩:=st;exact⟨o,e,λv z=>by rw[d]at z;cases z⟩
 yw:=λk h st=>by obtain⟨_,o,e,c,_⟩:=st;exact⟨o,e,.inr c⟩
 keep:=λk h h' st k1 k2=>⟨st.1.at k1,st.2.at k2⟩
 item:=λA s k x Q E st hx hQ=>QF st.1 st.2 hx λh' a b=>hQ h' ⟨a,st.2.at λo e=>(b.2 t bV).trans e⟩ b
 stop:=λA s k Q E hh st hx hE=>Uy hh st.1 st.2 hx hE
theorem Draws.lst(bV:t≠it):Draws prog w it t xs (λk h=>h.IsListIter it t k/\h.IsList t xs) where
 ne:=bV
 obj:=λk h st=>by obtain⟨⟨o,e,c,d⟩,_⟩:=st;exact⟨o,e,λv z=>by rw[d]at z;cases z⟩
 yw:=λk h st=>by obtain⟨_,o,e,c,_⟩:=st;exact⟨o,e,.inl c⟩
 keep:=λk h h' st k1 k2=>⟨st.1.at k1,st.2.at k2⟩
 item:=λA s k x Q E st hx hQ=>wpAny_nextOf_list_item st.1 st.2 hx λh' a b=>hQ h' ⟨a,st.2.at λo e=>(b.2 t bV).trans e⟩ b
 stop:=λA s k Q E hh st hx hE=>wpAny_nextOf_list_end hh st.1 st.2 hx hE
structure Apart(z TI TO i1 i2 l1 l2:Addr):Prop where
 zs:TI≠z/\TO≠z/\i1≠z/\i2≠z/\l1≠z/\l2≠z
 ts:TI≠TO/\TI≠i1/\TI≠i2/\TO≠i1/\TO≠i2/\i1≠i2
 ls:l1≠TO/\l1≠i1/\l1≠i2/\l2≠TO/\l2≠i1/\l2≠i2
variable{z TI TO i1 i2 l1 l2:Addr}{xs ys:Array Value}{S1 S2:Nat->Heap->Prop}
theorem Rn(D:Apart z TI TO i1 i2 l1 l2)(W1:Draws prog w i1 l1 xs S1)(W2:Draws prog w i2 l2 ys S2){Q:Value->Shared->Prop}
  (hz:IsZip s.heap z TI TO .none) (bu:IsPair s.heap TI (.ref i1) (.ref i2)) (bN:IsPair s.heap TO a b) (h1:S1 k s.heap) (h2:S2 k s.heap) (hx:xs[k]?=some x) (hy:ys[k]?=some y)
  (hQ:∀h',IsZip h' z TI TO (rawInt s.heap.objs.size)->IsPair h' TO x y->S1 (k+1) h'->S2 (k+1) h'->IsPair h' s.heap.objs.size x y->h'.objs.size=s.heap.objs.size+1 ->
   (∀c o,c≠z->c≠TO->c≠i1->c≠i2->s.heap.get? c=some o->h'.get? c=some o)->Q (.ref s.heap.objs.size) {s with heap:=h' }) :
  wpAny (model prog w) A (Builtin.«zip.__next__» ⟨[.ref z],[]⟩) (λba s'=>∃v,ba=.done (.ret v)/\Q v s') E s:=by
 obtain⟨⟨gz,fh,dN,eM,gj,gk⟩,⟨dB,cV,cW,cD,cE,fH⟩,⟨de,bI,df,cH,cf,bJ⟩⟩:=D;show wpAny _ _ (field (.ref z) 2 >>= _) _ _ _;refine sR (t6 hz rfl rfl ?_);show wpAny _ _ (field (.ref z) 3 >>= _) _ _ _;refine sR (t6 hz rfl rfl ?_);refine sR (wpAny_seqItems bu rfl ?_);show wpAny _ _ (Builtin.SmallTypes.ownedTupleIsFree (.ref z) >>= _) _ _ _;refine sR ?_;unfold Builtin.SmallTypes.ownedTupleIsFree;refine sR (t6 hz rfl rfl (sY ?_));simp only;refine sR (wpAny_rule ?_);refine sR (t6 hz rfl rfl ?_);refine sR (wpAny_setField_rec hz (by simp) λha iA eG=>?_);replace iA:IsZip ha z TI TO .ellipsis:=iA;refine sR ?_;simp only[List.zipIdx_cons,List.forIn_nil];refine sR (sR (wpAny_onRaise ?_));show wpAny _ _ (Builtin.SmallTypes.nextOf (.ref i1) >>= _) _ _ _;refine sR (W1.item _ _ k x _ _ (W1.keep _ _ _ h1 (λo e=>eG.extBut _ _ dN e) λo e=>eG.extBut _ _ gj e) hx λhb jw bC=>sY ?_);have fS:=bC.extBut _ _ cD (eG.extBut _ _ fh bN);refine sR (wpAny_seqItems fS rfl ?_);refine sR (wpAny_updateSeq_pair fS λhc gM eJ=>?_);replace gM:IsPair hc TO x b:=gM;refine sR (wpAny_letGo (sY ?_));refine sR (sR (wpAny_onRaise ?_));show wpAny _ _ (Builtin.SmallTypes.nextOf (.ref i2) >>= _) _ _ _;refine sR (W2.item _ _ k y _ _ (W2.keep _ _ _ h2 (λo e=>eJ.extBut _ _ (Ne.symm cE) (bC.extBut _ _ (Ne.symm fH) (eG.extBut _ _ eM e))) λo e=>eJ.extBut _ _ cH (bC.extBut _ _ cf (eG.extBut _ _ gk e))) hy λhd kZ dG=>sY ?_);have jB:=dG.extBut _ _ cE gM;refine sR (wpAny_seqItems jB rfl ?_);refine sR (wpAny_updateSeq_pair jB λhe gN iW=>?_);replace gN:IsPair he TO x y:=gN;refine sR (wpAny_letGo (sY (sY ?_)));refine sR (wpAny_seqItems gN rfl ?_);refine sR (wpAny_newTuple ?_);have hsz:he.objs.size=s.heap.objs.size:=by rw[iW.1,dG.1,eJ.1,bC.1,eG.1]
 have ny:=iW.extBut _ _ (Ne.symm fh) (dG.extBut _ _ (Ne.symm eM) (eJ.extBut _ _ (Ne.symm fh) (bC.extBut _ _ (Ne.symm dN) iA)));have nG:=tf ny;show wpAny _ _ (Builtin.SmallTypes.ownedTupleHandOut (.ref z) (.ref he.objs.size) >>= _) _ _ _;refine sR ?_;unfold Builtin.SmallTypes.ownedTupleHandOut;refine sR (wpAny_setField_rec (sS _ ny) (by simp) λhg lW lP=>?_);replace lW:IsZip hg z TI TO (rawInt he.objs.size):=lW;refine wpAny_setField_rec lW (by simp) λhi ky lQ=>?_;replace ky:IsZip hi z TI TO (rawInt he.objs.size):=ky
 have up:∀c o,c≠z->he.get? c=some o->hi.get? c=some o:=λc o c1 e=>lQ.extBut _ _ c1 (lP.extBut _ _ c1 (sS _ e))
 have mX:IsPair hi he.objs.size x y:=lQ.extBut _ _ (Nat.ne_of_gt nG) (lP.extBut _ _ (Nat.ne_of_gt nG) (tj _ rfl));have nV:hi.objs.size=he.objs.size+1:=by rw[lQ.1,lP.1,uw]
 rw[hsz]at ky mX nV;refine sY ⟨_,rfl,?_⟩;show Q (.ref he.objs.size) _;rw[hsz];exact hQ hi ky (up _ _ fh gN) (W1.keep _ _ _ (W1.keep _ _ _ jw (λo e=>iW.extBut _ _ (Ne.symm cD) (dG.extBut _ _ fH (eJ.extBut _ _ (Ne.symm cD) e))) λo e=>iW.extBut _ _ de (dG.extBut _ _ df (eJ.extBut _ _ de e))) (λo e=>up _ o dN e) λo e=>up _ o gj e) (W2.keep _ _ _ (W2.keep _ _ _ kZ (λo e=>iW.extBut _ _ (Ne.symm cE) e) λo e=>iW.extBut _ _ cH e) (λo e=>up _ o eM e) λo e=>up _ o gk e) mX nV λc o c1 c2 c3 c4 e=>up c o c1 (iW.extBut _ _ c2 (dG.extBut _ _ c4 (eJ.extBut _ _ c2 (bC.extBut _ _ c3 (eG.extBut _ _ c1 e)))))
theorem next_end(hh:A.handled=none)(D:Apart z TI TO i1 i2 l1 l2)(W1:Draws prog w i1 l1 xs S1)(W2:Draws prog w i2 l2 ys S2)
  (hz:IsZip s.heap z TI TO .none) (bu:IsPair s.heap TI (.ref i1) (.ref i2)) (bN:IsPair s.heap TO a b) (h1:S1 k s.heap) (h2:S2 k s.heap) (bQ:xs[k]?=none\/ys[k]?=none)
  (hE:∀h' e,(∀c o,c≠z->c≠TO->c≠i1->c≠i2->s.heap.get? c=some o->h'.get? c=some o)->(∃o,h'.get? e=some o/\o.cls=.type "StopIteration")->E (.ref e) {s with heap:=h' }) :
  wpAny (model prog w) A (Builtin.«zip.__next__» ⟨[.ref z],[]⟩) Q E s:=by
 obtain⟨⟨gz,fh,dN,eM,gj,gk⟩,⟨dB,cV,cW,cD,cE,fH⟩,⟨de,bI,df,cH,cf,bJ⟩⟩:=D;show wpAny _ _ (field (.ref z) 2 >>= _) _ _ _;refine sR (t6 hz rfl rfl ?_);show wpAny _ _ (field (.ref z) 3 >>= _) _ _ _;refine sR (t6 hz rfl rfl ?_);refine sR (wpAny_seqItems bu rfl ?_);show wpAny _ _ (Builtin.SmallTypes.ownedTupleIsFree (.ref z) >>= _) _ _ _;refine sR ?_;unfold Builtin.SmallTypes.ownedTupleIsFree;refine sR (t6 hz rfl rfl (sY ?_));simp only;refine sR (wpAny_rule ?_);refine sR (t6 hz rfl rfl ?_);refine sR (wpAny_setField_rec hz (by simp) λha iA eG=>?_);replace iA:IsZip ha z TI TO .ellipsis:=iA;refine sR ?_;simp only[List.zipIdx_cons,List.forIn_nil];refine sR (sR (wpAny_onRaise ?_));show wpAny _ _ (Builtin.SmallTypes.nextOf (.ref i1) >>= _) _ _ _;have jv:=W1.keep _ _ _ h1 (λo e=>eG.extBut _ _ dN e) λo e=>eG.extBut _ _ gj e
 cases hx:xs[k]? with
 |none =>
  refine sR (W1.stop _ _ k _ _ hh jv hx λhb e bC he=>?_);obtain⟨oe,iS,jE⟩:=he;have nu:=bC _ _ (Ne.symm dN) iA;have qz:e≠z:=λq=>by subst q;rw[nu]at iS;cases iS;simp at jE
  refine wpAny_setField_rec nu (by simp) λhc _ eJ=>hE hc e (λc o c1 _ c3 _ q=>eJ.extBut _ _ c1 (bC _ _ c3 (eG.extBut _ _ c1 q))) ⟨oe,eJ.extBut _ _ qz iS,jE⟩
 |some x =>refine sR (W1.item _ _ k x _ _ jv hx λhb jw bC=>sY ?_);have fS:=bC.extBut _ _ cD (eG.extBut _ _ fh bN);refine sR (wpAny_seqItems fS rfl ?_);refine sR (wpAny_updateSeq_pair fS λhc gM eJ=>?_);refine sR (wpAny_letGo (sY ?_));refine sR (sR (wpAny_onRaise ?_));show wpAny _ _ (Builtin.SmallTypes.nextOf (.ref i2) >>= _) _ _ _;refine sR (W2.stop _ _ k _ _ hh (W2.keep _ _ _ h2 (λo e=>eJ.extBut _ _ (Ne.symm cE) (bC.extBut _ _ (Ne.symm fH) (eG.extBut _ _ eM e))) λo e=>eJ.extBut _ _ cH (bC.extBut _ _ cf (eG.extBut _ _ gk e))) (by rcases bQ with h|h;rw[hx]at h;cases h;exact h) λhd e dG he=>?_);obtain⟨oe,iS,jE⟩:=he;have nv:=dG _ _ (Ne.symm eM) (eJ.extBut _ _ (Ne.symm fh) (bC.extBut _ _ (Ne.symm dN) iA));refine wpAny_setField_rec nv (by simp) λhf _ nq=>hE hf e (λc o c1 c2 c3 c4 q=>nq.extBut _ _ c1 (dG _ _ c4 (eJ.extBut _ _ c2 (bC.extBut _ _ c3 (eG.extBut _ _ c1 q))))) ⟨oe,nq.extBut _ _ (λq=>by subst q;rw[nv]at iS;cases iS;simp at jE) iS,jE⟩
end Zp
end PySem
namespace PySem
namespace Zp
noncomputable def RH(T:String)(l:Addr):Obj:={cls:=.type T,data:=.fields #[.ref l,.int 0 0]}
noncomputable def z1(h:Heap)(T1:String)(l1:Addr):Heap:=h.push (RH T1 l1)
noncomputable def z2(h:Heap)(T1 T2:String)(l1 l2:Addr):Heap:=(z1 h T1 l1).push (RH T2 l2)
noncomputable def z3(h:Heap)(T1 T2:String)(l1 l2:Addr):Heap:=(z2 h T1 T2 l1 l2).push {cls:=.type "tuple",data:=.seq #[.ref h.objs.size,.ref (z1 h T1 l1).objs.size]}
noncomputable def z4(h:Heap)(T1 T2:String)(l1 l2:Addr):Heap:=(z3 h T1 T2 l1 l2).push {cls:=.type "tuple",data:=.seq #[.none,.none]}
noncomputable def z5(h:Heap)(T1 T2:String)(l1 l2:Addr):Heap:=(z4 h T1 T2 l1 l2).push {cls:=.type "zip",data:=.fields #[.none,.bool false,.bool false,.ref (z2 h T1 T2 l1 l2).objs.size,.ref (z3 h T1 T2 l1 l2).objs.size]}
abbrev Its(T:String)(l:Addr)(C:Heap->Prop):Prop:=∀{prog:Program}{w:World}{A:Around}{E:Value->Shared->Prop}{s:Shared}{Q:Value->Shared->Prop},C s.heap->Q (.ref s.heap.objs.size) {s with heap:=s.heap.push (RH T l)}->wpAny (model prog w) A (pyIter (.ref l)) Q E s
theorem Gu(T1 T2:String)(l1 l2:Addr)(C1 C2:Heap->Prop)(p1:Its T1 l1 C1)(p2:Its T2 l2 C2)(k2:∀h o,C2 h->C2 (Heap.push h o)):
  Meets (Builtin.«zip.__new__» ⟨[.type "zip",.ref l1,.ref l2],[]⟩) (λ_ R s=>C1 s.heap/\C2 s.heap/\R (.ok (.ret (.ref (z4 s.heap T1 T2 l1 l2).objs.size))) {s with heap:=z5 s.heap T1 T2 l1 l2}) :=
 .of_wp λprog w A R s h=>by
  obtain⟨hp,g,d,tk,os⟩:=s;obtain⟨c1,c2,h⟩:=h;have iY:=sub_zip
  wp_walk using p1 c1,p2 (k2 _ _ c2)
  exact⟨_,rfl,h⟩
variable{prog:Program}{w:World}{A:Around}{E:Value->Shared->Prop}{s:Shared}{z TI TO i1 i2 l1 l2:Addr}{xs ys:Array Value}{S1 S2:Nat->Heap->Prop}
theorem MD(p1:Its T1 l1 C1)(p2:Its T2 l2 C2)(k2:∀h o,C2 h->C2 (Heap.push h o))(c1:C1 s.heap)(c2:C2 s.heap)
  (h:Q (.ref (z4 s.heap T1 T2 l1 l2).objs.size) {s with heap:=z5 s.heap T1 T2 l1 l2}):wpAny (model prog w) A (call (.type "zip") [.ref l1,.ref l2]) Q E s :=
 callType_new F.called_zip (by decide) (F.typeCall_zip_2 _ _) (F.newCall_zip_2 _ _) (λobj=>F.args_object_init_3 obj _ _) F.entry_zip_new (Gu T1 T2 l1 l2 C1 C2 p1 p2 k2)
  ⟨c1,c2,⟨_,tj _ rfl,rfl⟩,h⟩
theorem HH(D:Apart z TI TO i1 i2 l1 l2)(W1:Draws prog w i1 l1 xs S1)(W2:Draws prog w i2 l2 ys S2)
  (hz:IsZip s.heap z TI TO .none) (bu:IsPair s.heap TI (.ref i1) (.ref i2)) (bN:IsPair s.heap TO a b) (h1:S1 k s.heap) (h2:S2 k s.heap) (hx:xs[k]?=some x) (hy:ys[k]?=some y)
  (hQ:∀h',IsZip h' z TI TO (rawInt s.heap.objs.size)->IsPair h' TO x y->S1 (k+1) h'->S2 (k+1) h'->IsPair h' s.heap.objs.size x y->h'.objs.size=s.heap.objs.size+1 ->
   (∀c o,c≠z->c≠TO->c≠i1->c≠i2->s.heap.get? c=some o->h'.get? c=some o)->Q (some (.ref s.heap.objs.size)) {s with heap:=h' }) :
  wpAny (model prog w) A (pyNext (.ref z)) Q E s:=by
 have hT:s.TypeIs (.ref z) "zip":=⟨_,hz,rfl⟩
 exact sR (wpAny_attempt (wpAny_callSpecial?_slot hT F.slot_zip_next (wpAny_call_entry F.slot_zip_next hT F.entry_zip_next
  (Rn D W1 W2 hz bu bN h1 h2 hx hy λh' a1 a2 a3 a4 a5 a6 a7=>sY (hQ h' a1 a2 a3 a4 a5 a6 a7)) (F.args_zip_next_1 _))))
theorem HI(hh:A.handled=none)(D:Apart z TI TO i1 i2 l1 l2)(W1:Draws prog w i1 l1 xs S1)(W2:Draws prog w i2 l2 ys S2)
  (hz:IsZip s.heap z TI TO .none) (bu:IsPair s.heap TI (.ref i1) (.ref i2)) (bN:IsPair s.heap TO a b) (h1:S1 k s.heap) (h2:S2 k s.heap) (bQ:xs[k]?=none\/ys[k]?=none)
  (hQ:∀h',(∀c o,c≠z->c≠TO->c≠i1->c≠i2->s.heap.get? c=some o->h'.get? c=some o)->Q none {s with heap:=h' }):wpAny (model prog w) A (pyNext (.ref z)) Q E s:=by
 have hT:s.TypeIs (.ref z) "zip":=⟨_,hz,rfl⟩
 refine sR (wpAny_attempt (wpAny_callSpecial?_slot hT F.slot_zip_next (wpAny_call_entry F.slot_zip_next hT F.entry_zip_next
  (next_end (show A.in1.handled=none from hh) D W1 W2 hz bu bN h1 h2 bQ λh' e hk he=>?_) (F.args_zip_next_1 _))))
 obtain⟨o,ho,hc⟩:=he;refine sR (wpAny_isInstance ⟨o,ho,hc⟩ isSubtype_stop ?_);exact sY (hQ _ hk)
def Jt:Bool->Heap->Addr->Addr->Nat->Prop
 |true,h,it,l,k=>h.IsTupleIter it l k
 |false,h,it,l,k=>h.IsListIter it l k
def EA:Bool->Heap->Addr->Array Value->Prop
 |true,h,l,xs=>h.IsTuple l xs
 |false,h,l,xs=>h.IsList l xs
noncomputable def CH:Bool->String
 |true=>"tuple_iterator"
 |false=>"list_iterator"
theorem BF(b:Bool)(bV:t≠it):Draws prog w it t xs (λk h=>Jt b h it t k/\EA b h t xs):=by
 cases b
 .exact Draws.lst bV
 .exact Draws.tup bV
theorem Ml(b:Bool)(l:Addr)(xs:Array Value):Its (CH b) l (λh=>EA b h l xs):=by
 intro prog w A E s Q c q;cases b
 .exact wpAny_pyIter_list c q
 .exact wpAny_pyIter_tuple c q
theorem EA.at(c:EA b h l xs)(e:∀o,h.get? l=some o->h'.get? l=some o):EA b h' l xs:=by
 cases b
 .exact Heap.IsList.at c e
 .exact Heap.IsTuple.at c e
theorem Jt.at(c:Jt b h it l k)(e:∀o,h.get? it=some o->h'.get? it=some o):Jt b h' it l k:=by
 cases b
 .exact Heap.IsListIter.at c e
 .exact Heap.IsTupleIter.at c e
theorem Jt.obj(c:Jt b h it l k):∃o,h.get? it=some o/\∀v,o.data≠.cell v:=by
 cases b
 .obtain⟨o,e,_,d⟩:=c;exact⟨o,e,λv z=>by rw[d]at z;cases z⟩
 .obtain⟨o,e,_,d⟩:=c;exact⟨o,e,λv z=>by rw[d]at z;cases z⟩
theorem Jt.new(e:h.get? it=some (RH (CH b) l)):Jt b h it l 0:=by
 cases b
 .exact⟨_,e,rfl,rfl⟩
 .exact⟨_,e,rfl,rfl⟩
end Zp
end PySem
namespace L2
open PySem PySem.Spec PyProof.Rows
def SqB(b:Bool)(K:Fg)(H:Hp)(a:Addr)(xs:List V):Prop:=match b with|true=>SqT K H a xs|false=>SqL K H a xs
variable{X:Cx}{ae:List (Addr×Obj)}{U:St}{H:Hp}{s:Shared}{a:Addr}{xs ys:List V}{b:Bool}
theorem Inv.sqb(I:Inv X ae U H s)(h:SqB b X.K H a xs):∃ak:List Value,Vals xs ak/\Zp.EA b s.heap a ak.toArray/\xs.length<=sizeLine:=by
 cases b
 .obtain⟨ak,r,p,z⟩:=I.list h;exact⟨ak,r,p.isList,z⟩
 .obtain⟨ak,r,p,z⟩:=I.tuple h;exact⟨ak,r,p,z⟩
theorem Inv.N7(I:Inv X ae U H s)(h:SqB b X.K H a xs)(h':SqB b X.K H a ys):xs=ys:=by
 cases b
 .exact I.Me h h'
 .exact I.Gd h h'
theorem Inv.Ip{fp:List Addr}(I:Inv X ae U H s)(k:∀b o,b∉fp->s.heap.get? b=some o->h'.get? b=some o)(hf:∀b∈fp,KS X ae H b):Inv X ae U H {s with heap:=h',toks:=t' }:=by
 have gm:∀b u,H b=some u->b∉fp:=λb u e z=>by rw[(hf b z).1]at e;cases e
 refine I.step (λb hb=>?_) (λb o _ _ hc e _=>k b o hc e) (λb o _ _ hc e _=>⟨o.slots,k b o hc e⟩) (λ_ _ _ _ n=>n)
  (λb o hc e=>⟨o,k b o hc e⟩) (λ_ _ e=>e) (λ_ _ _ e=>e) (λb ps e=>⟨#[],by rw[e];simp⟩) (λm hm=>?_) (λb u e=>?_) I.bare
 .obtain⟨f0,f1,f2,f3,f4,f5⟩:=hf b hb;exact⟨f3,f1,f4,f5⟩
 .obtain⟨o,es,ep,ho,r⟩:=hm;exact⟨o,es,ep,k _ o (λz=>(hf _ z).2.1 rfl) ho,r⟩
 .refine(I.zZ b u e).N5 (λc v hc q=>k c v ?_ q) (λ_ q=>q) λ_ _ q=>q
  rcases hc with z|z
  .rw[z];exact gm b u e
  .exact gm c _ z
def Itz(K:Fg)(b1:Bool)(a1:Addr)(b2:Bool)(a2:Addr):It :=
  ⟨λi H=>∃xs ys x y,SqB b1 K H a1 xs/\SqB b2 K H a2 ys/\xs[i]?=some x/\ys[i]?=some y,
   λi H x H'=>∃T vx vy,H T=none/\x=.ref T/\H'=upd H T (.tup [vx,vy])/\(∀xs,SqB b1 K H a1 xs->xs[i]?=some vx)/\∀ys,SqB b2 K H a2 ys->ys[i]?=some vy,
   λi H=>∃xs ys,SqB b1 K H a1 xs/\SqB b2 K H a2 ys/\(xs.length<=i\/ys.length<=i)⟩
theorem QB{K:Fg}{a1 a2 z TI TO i1 i2:Addr}(D:Zp.Apart z TI TO i1 i2 a1 a2):
  Turn P w K (.Tuple fj k0 cg) (Itz K b1 a1 b2 a2) [z,TI,TO,i1,i2] z (λi h=>IsZip h z TI TO .none/\IsPair h TI (.ref i1) (.ref i2)/\(∃a b,IsPair h TO a b)/\Zp.Jt b1 h i1 a1 i/\Zp.Jt b2 h i2 a2 i) where
 mem:=by simp
 obj:=λi h st b hb=>by
  obtain⟨hz,bu,⟨ta,tb,bN⟩,h1,h2⟩:=st;simp only[tm,tO,or_false]at hb;rcases hb with rfl|rfl|rfl|rfl|rfl
  .exact⟨_,hz,λv z=>nomatch z⟩
  .exact⟨_,bu,λv z=>nomatch z⟩
  .exact⟨_,bN,λv z=>nomatch z⟩
  .exact h1.obj
  .exact h2.obj
 keep:=λi h h' st k=>by obtain⟨hz,bu,⟨ta,tb,bN⟩,h1,h2⟩:=st;exact⟨k z (by simp) _ hz,k TI (by simp) _ bu,⟨ta,tb,k TO (by simp) _ bN⟩,h1.at λo e=>k i1 (by simp) o e,h2.at λo e=>k i2 (by simp) o e⟩
 item:=by
  intro X hP hw hK hc i ae s U H E I hf st hg;subst hP hw hK;obtain⟨hz,bu,⟨ta,tb,bN⟩,h1,h2⟩:=st;obtain⟨xs,ys,x,y,q1,q2,ex,ey⟩:=hg;obtain⟨cG,r1,c1,z1⟩:=I.sqb q1;obtain⟨aJ,r2,c2,z2⟩:=I.sqb q2;obtain⟨u1,qV,rN⟩:=r1.get ex;obtain⟨u2,qW,rP⟩:=r2.get ey;obtain⟨⟨gz,fh,dN,eM,gj,gk⟩,⟨dB,cV,cW,cD,cE,fH⟩,⟨de,bI,df,cH,cf,bJ⟩⟩:=id D;refine Zp.HH D (Zp.BF b1 bI) (Zp.BF b2 bJ) hz bu bN ⟨h1,c1⟩ ⟨h2,c2⟩ (by simpa using qV) (by simpa using qW) λh' iZ k8 rR rT k7 aZ fY=>⟨_,rfl,?_⟩
  refine wpAny_letOwnedTupleGo_zip iZ λkY kx sb=>?_
  have fT:∀{c o},s.heap.get? c=some o->c≠s.heap.objs.size:=λe=>tU (tf e)
  have Il:Inv X ae U (upd H s.heap.objs.size (.tup [x,y])) {s with heap:=s.heap.push {cls:=.type "tuple",data:=.seq #[u1,u2]},toks:=s.toks} :=
   I.laid (λb o e=>sS _ e) (tD _) ⟨by show 2<=sizeLine;rw[sizeLine_eq];decide,[u1,u2],.cons rN (.cons rP .nil),⟨_,tj _ rfl,rfl,_,rfl⟩⟩
  have jH:∀b∈[z,TI,TO,i1,i2],KS X ae (upd H s.heap.objs.size (.tup [x,y])) b:=λb hb=>by
   obtain⟨f0,f⟩:=hf b hb;exact⟨by rw[Ap (by
   simp only[tm,tO,or_false]at hb;rcases hb with rfl|rfl|rfl|rfl|rfl
   .exact fT hz
   .exact fT bu
   .exact fT bN
   .obtain⟨o,e,_⟩:=h1.obj;exact fT e
   .obtain⟨o,e,_⟩:=h2.obj;exact fT e)];exact f0,f⟩
  refine⟨.ref s.heap.objs.size,_,(Il.Ip (λb o hb e=>by
   have nz:b≠z:=λq=>hb (by simp[q])
   refine sb.extBut _ _ nz ?_;by_cases hbT:b=s.heap.objs.size
   .subst hbT;have e':(s.heap.push {cls:=.type "tuple",data:=.seq #[u1,u2]}).get? s.heap.objs.size=some o:=e;rw[tj _ rfl]at e';cases e';exact k7
   .have e':(s.heap.push {cls:=.type "tuple",data:=.seq #[u1,u2]}).get? b=some o:=e;rw[Heap.get?_push_ne _ _ _ hbT]at e';exact fY b o nz (λq=>hb (by simp[q])) (λq=>hb (by simp[q])) (λq=>hb (by simp[q])) e') jH),rfl,⟨s.heap.objs.size,x,y,I.zZ.fresh (tD _),rfl,rfl,λzs hz=>by rw[I.N7 hz q1];exact ex,λzs hz=>by rw[I.N7 hz q2];exact ey⟩,?_,λb hb=>(jH b hb).1⟩
  exact⟨kx,sb.extBut _ _ gz (fY _ _ gz dB cV cW bu),⟨_,_,sb.extBut _ _ fh k8⟩,rR.1.at λo e=>sb.extBut _ _ dN e,rT.1.at λo e=>sb.extBut _ _ eM e⟩
 done:=by
  intro X hP hw hK hc i ae s U H E I hf st hg;subst hP hw hK;obtain⟨hz,bu,⟨ta,tb,bN⟩,h1,h2⟩:=st;obtain⟨xs,ys,q1,q2,bQ⟩:=hg;obtain⟨cG,r1,c1,z1⟩:=I.sqb q1;obtain⟨aJ,r2,c2,z2⟩:=I.sqb q2;have e1:=r1.length;have e2:=r2.length;obtain⟨_,_,⟨de,bI,df,cH,cf,bJ⟩⟩:=id D;refine Zp.HI (I.ok.hd hc) D (Zp.BF b1 bI) (Zp.BF b2 bJ) hz bu bN ⟨h1,c1⟩ ⟨h2,c2⟩ ?_ λh' hk=>⟨rfl,I.Ip (λb o hb e=>hk b o (λq=>hb (by simp[q])) (λq=>hb (by simp[q])) (λq=>hb (by simp[q])) (λq=>hb (by simp[q])) e) hf⟩
  rcases bQ with z|z
  .exact .inl (by simp;lia)
  .exact .inr (by simp;lia)
 self:=λ_ _ _ _ _ st h=>wpAny_pyIter_zip st.1 h
end L2
namespace PySem
namespace Zp
theorem made(c1:EA b1 h l1 xs)(c2:EA b2 h l2 ys):
  ∃z TI TO i1 i2,z=(z4 h (CH b1) (CH b2) l1 l2).objs.size/\h.objs.size<=z/\h.objs.size<=TI/\h.objs.size<=TO/\h.objs.size<=i1/\h.objs.size<=i2/\Apart z TI TO i1 i2 l1 l2 /\
   IsZip (z5 h (CH b1) (CH b2) l1 l2) z TI TO .none/\IsPair (z5 h (CH b1) (CH b2) l1 l2) TI (.ref i1) (.ref i2)/\IsPair (z5 h (CH b1) (CH b2) l1 l2) TO .none .none /\
   Jt b1 (z5 h (CH b1) (CH b2) l1 l2) i1 l1 0/\Jt b2 (z5 h (CH b1) (CH b2) l1 l2) i2 l2 0/\∀c o,h.get? c=some o->(z5 h (CH b1) (CH b2) l1 l2).get? c=some o:=by
 have s1:(z1 h (CH b1) l1).objs.size=h.objs.size+1:=uw ..;have s2:(z2 h (CH b1) (CH b2) l1 l2).objs.size=h.objs.size+2:=by unfold z2;rw[uw,s1]
 have s3:(z3 h (CH b1) (CH b2) l1 l2).objs.size=h.objs.size+3:=by unfold z3;rw[uw,s2]
 have s4:(z4 h (CH b1) (CH b2) l1 l2).objs.size=h.objs.size+4:=by unfold z4;rw[uw,s3]
 have lt:∀{b:Bool}{l:Addr}{xs:Array Value},EA b h l xs->l<h.objs.size:=λ{b l xs} c=>by
  cases b
  .obtain⟨o,e,_⟩:=c;exact tf e
  .obtain⟨o,e,_⟩:=c;exact tf e
 have t1:@LT.lt Nat _ l1 h.objs.size:=lt c1;have t2:@LT.lt Nat _ l2 h.objs.size:=lt c2;refine⟨(z4 h (CH b1) (CH b2) l1 l2).objs.size,(z2 h (CH b1) (CH b2) l1 l2).objs.size,(z3 h (CH b1) (CH b2) l1 l2).objs.size,h.objs.size,(z1 h (CH b1) l1).objs.size,rfl,by lia,by lia,by lia,by lia,by lia,⟨?_,?_,?_⟩,?_,?_,?_,?_,?_,?_⟩
 .rw[s1,s2,s3,s4];refine⟨?_,?_,?_,?_,?_,?_⟩<;>(intro e;have e2:@Eq Nat _ _:=e;lia)
 .rw[s1,s2,s3];refine⟨?_,?_,?_,?_,?_,?_⟩<;>(intro e;have e2:@Eq Nat _ _:=e;lia)
 .rw[s1,s3];refine⟨?_,?_,?_,?_,?_,?_⟩<;>(intro e;have e2:@Eq Nat _ _:=e;lia)
 .exact tj _ rfl
 .exact sS _ (sS _ (tj _ rfl))
 .exact sS _ (tj _ rfl)
 .exact Jt.new (sS _ (sS _ (sS _ (sS _ (tj _ rfl)))))
 .exact Jt.new (sS _ (sS _ (sS _ (tj _ rfl))))
 .exact λc o e=>sS _ (sS _ (sS _ (sS _ (sS _ e))))
end Zp
end PySem
namespace L2
open PySem PySem.Spec PyProof.Rows
def iZip(K:Fg)(ta:TA):TI:=λU H R=>ta U H λvs H1=>∃b1 a1 b2 a2,vs=[.ref a1,.ref a2]/\(∃xs,SqB b1 K H1 a1 xs)/\(∃ys,SqB b2 K H1 a2 ys)/\R (Itz K b1 a1 b2 a2) H1
theorem X7(hg:Gl X "zip")(hm:X.mg "zip"=none)(ha:PA X [a,b] ta)(hs:starEach [a,b] X.env=[(false,eval a X.env),(false,eval b X.env)]:=by rfl)(bx:starEach [b] X.env=[(false,eval b X.env)]:=by rfl):
  PI X (.Tuple fj k0 cg) (.Call (.Name "zip" p) [a,b] [] pos) (iZip X.K ta):=by
 intro ae s U H R I h;refine Call_ (DR I hg hm boot_zip (callWith_type1 (thn (ha pos ae s U H _ I h) λus s1 ao=>?_) (by rw[hs,bx]) (by rw[bx];rfl)));obtain⟨vs,H1,I1,r1,q1⟩:= ao;obtain⟨b1,a1,b2,a2,e,⟨xs,hx⟩,⟨ys,hy⟩,q⟩:=q1;subst e;cases r1 with
 |cons r rr =>
  cases rr with
  |cons r' rr =>
   cases rr;cases r;cases r';obtain⟨cG,ml,c1,_⟩:=I1.sqb hx;obtain⟨aJ,mm,c2,_⟩:=I1.sqb hy;refine Zp.MD (C1:=λh=>Zp.EA b1 h a1 cG.toArray) (C2:=λh=>Zp.EA b2 h a2 aJ.toArray) (Zp.Ml b1 a1 cG.toArray) (Zp.Ml b2 a2 aJ.toArray) (λh o c=>Zp.EA.at c λo e=>sS _ e) c1 c2 ?_;obtain⟨z,TI,TO,i1,i2,ez,g0,g1,g2,g3,g4,D,hz,bu,bN,t1,t2,hk⟩:=Zp.made c1 c2;rw[<- ez];refine wpAny_pyIter_zip hz ⟨z,[z,TI,TO,i1,i2],_,Itz X.K b1 a1 b2 a2,H1,rfl,I1.kept hk,QB D,⟨hz,bu,⟨_,_,bN⟩,t1,t2⟩,λb hb=>?_,q⟩;have jJ:s1.heap.objs.size<=b:=by simp only[tm,tO,or_false]at hb;rcases hb with rfl|rfl|rfl|rfl|rfl<;>assumption
   exact I1.Sn jJ (I1.zZ.fresh jJ)
end L2
namespace PySem
theorem Lz(l b:Addr)(items c0:Array Value)(n n2:Nat)(i7:Option Addr)(jh:Array (Option Value))(gY:¬(!items.isEmpty&&Builtin.List.listTooLong (items.size+c0.size))=true)(sJ:items.size<=sizeLine)(bx:items.size+c0.size<=sizeLine+1):
  Meets (Builtin.«list.extend» ⟨[.ref l,.ref b],[]⟩) (λ_ R s=>s.heap.get? l=some {cls:=.type "list",dict:=none,data:=.seq items n,slots:=#[]}/\s.heap.get? b=some {cls:=.type "tuple",dict:=i7,data:=.seq c0 n2,slots:=jh} /\
   R (.ok (.ret Value.none)) {s with heap:=s.heap.update l (Obj.mapSeq λx=>x++c0),toks:=s.toks}) :=
 .of_wp λprog w A R s h=>by
  obtain⟨hp,g,d,tk,os⟩:=s;obtain⟨hl,hb,h⟩:=h;have f1:=AutoSeq1.idx_int;have f2:=AutoSeq1.sub_tuple_tuple;have f3:=AutoSeq1.sub_list_list;have f4:=AutoSeq1.sub_tuple_list;have f5:=AutoSeq1.sub_list_tuple
  wp_walk using (wpAny_updateSeq hl rfl),wpAny_loadPart' hl,wpAny_loadPart' hb
  exact⟨_,rfl,h⟩
end PySem
namespace L2
open PySem PySem.Spec PyProof.Rows
variable{X:Cx}
def QY(K:Fg):V->List V->Hp->VK->Prop:=λx vs H Q=>∃l b xs zs,x=.ref l/\vs=[.ref b]/\H l=some (.lst xs)/\SqT K H b zs/\xs.length+zs.length<=sizeLine/\Q .v (upd H l (.lst (xs++zs)))
theorem VI:MtM X "list.extend" (QY X.K):=by
 intro ae s U H x vs v us Q I rx rv h;obtain⟨l,b,xs,zs,rfl,rfl,hH,hB,hz,q⟩:=h;cases rx;obtain⟨u,rfl,ru⟩:=rv.one;cases ru;obtain⟨z,ak,n,r,hl,e⟩:=I.VR hH;obtain⟨aJ,r2,⟨⟨cls,dd,data,sl⟩,ho,hc,n2,hd⟩,z2⟩:=I.tuple hB;subst hc hd;have e2:=r2.length;have hsz:ak.toArray.size+aJ.toArray.size<=sizeLine:=by rw[sX,sX];lia
 refine call_meets F.slot_list_extend ⟨_,e,rfl⟩ F.entry_list_extend (F.args_list_extend_2 _ _) (Lz l b ak.toArray aJ.toArray n n2 dd sl (by rw[Mc hsz,Bool.and_false];exact tR) (by rw[sX];lia) (by lia)) ⟨e,ho,?_⟩;refine⟨.v,_,I.Jak hH e (by simp) (r.append r2) ?_,rfl,q⟩;rw[t5]
 lia
def Tu(K:Fg):R2:=λx y H Q=>∃a b ys,x=.ref a/\y=.ref b/\SqT K H a []/\SqT K H b ys/\Q (.ref b) H
theorem Rh:OpR X (binaryOp .Add) (Tu X.K):=by intro ae s U H x y v u Q I rx ry h;obtain⟨a,b,ys,rfl,rfl,ha,hb,q⟩:=h;cases rx;cases ry;obtain⟨ak,r1,⟨⟨cls,dd,data,sl⟩,ho,hc,n,hd⟩,_⟩:=I.tuple ha;obtain⟨aJ,r2,⟨⟨kP,i7,data2,jh⟩,iR,dJ,n2,hd2⟩,_⟩:=I.tuple hb;subst hc hd dJ hd2;cases r1;exact concat_meets ⟨_,ho,rfl⟩ ⟨_,iR,rfl⟩ noFill_tuple_add seq_tuple_add slot_tuple_add entry_tuple_add (args_tuple_add_2 _ _) (tuple_addW0 a b _ _ n n2 dd i7 sl jh (by simp)) ⟨ho,iR,⟨.ref b,H,I,rfl,q⟩⟩
end L2
namespace PySem
namespace Zp
abbrev Jo(h:Heap)(z TI TO a:Addr)(f:Bool):Prop:=h.get? z=some {cls:=.type "zip",data:=.fields #[rawInt a,.bool f,.bool false,.ref TI,.ref TO]}
variable{prog:Program}{w:World}{A:Around}{E:Value->Shared->Prop}{s:Shared}{z TI TO i1 i2 l1 l2 ad:Addr}{xs ys:Array Value}{S1 S2:Nat->Heap->Prop}
theorem alive(ho:s.heap.get? a=some o)(h:Q (some o) s):wpAny (model prog w) A (loadIfAlive a) Q E s:=by
 have h':Q (s.heap.get? a) s:=by rwa[ho]
 exact λ_ _ _=>h'
theorem OD(hz:Jo s.heap z TI TO ad f)(ha:s.heap.get? ad=some oa)(hQ:∀h',Jo h' z TI TO ad true->Heap.SameBut z s.heap h'->Q false {s with heap:=h' }):
  wpAny (model prog w) A (Builtin.SmallTypes.ownedTupleIsFree (.ref z)) Q E s:=by
 refine sR (t6 hz rfl rfl ?_);show wpAny _ _ (loadIfAlive ((ad:Int).toNat) >>= _) _ _ _;refine sR (alive ha ?_);refine sR (t6 hz rfl (x:=.bool f) rfl ?_);cases f with|true =>exact sY (hQ s.heap hz (Heap.SameBut.refl _ _))|false =>exact sR (wpAny_setField_rec hz (by simp) λh3 he hs=>sY (hQ h3 he hs))
theorem OH(D:Apart z TI TO i1 i2 l1 l2)(W1:Draws prog w i1 l1 xs S1)(W2:Draws prog w i2 l2 ys S2){Q:Value->Shared->Prop}
  (hz:Jo s.heap z TI TO ad f) (ha:s.heap.get? ad=some oa) (bu:IsPair s.heap TI (.ref i1) (.ref i2)) (h1:S1 k s.heap) (h2:S2 k s.heap) (hx:xs[k]?=some x) (hy:ys[k]?=some y)
  (hQ:∀h',Jo h' z TI TO ad true->S1 (k+1) h'->S2 (k+1) h'->IsPair h' s.heap.objs.size x y->h'.objs.size=s.heap.objs.size+1 ->
   (∀c o,c≠z->c≠i1->c≠i2->s.heap.get? c=some o->h'.get? c=some o)->Q (.ref s.heap.objs.size) {s with heap:=h' }) :
  wpAny (model prog w) A (Builtin.«zip.__next__» ⟨[.ref z],[]⟩) (λba s'=>∃v,ba=.done (.ret v)/\Q v s') E s:=by
 obtain⟨⟨gz,fh,dN,eM,gj,gk⟩,⟨dB,cV,cW,cD,cE,fH⟩,⟨de,bI,df,cH,cf,bJ⟩⟩:=D;show wpAny _ _ (field (.ref z) 2 >>= _) _ _ _;refine sR (t6 hz rfl rfl ?_);show wpAny _ _ (field (.ref z) 3 >>= _) _ _ _;refine sR (t6 hz rfl rfl ?_);refine sR (wpAny_seqItems bu rfl ?_);show wpAny _ _ (Builtin.SmallTypes.ownedTupleIsFree (.ref z) >>= _) _ _ _;refine sR (OD hz ha λhA nt fw=>?_);refine sR (sR (sR (wpAny_holding ?_)));show wpAny _ _ (Builtin.SmallTypes.nextOf (.ref i1) >>= _) _ _ _;refine sR (W1.item _ _ k x _ _ (W1.keep _ _ _ h1 (λo e=>fw.extBut _ _ dN e) λo e=>fw.extBut _ _ gj e) hx λhb jw bC=>sY (sY ?_));refine sR (sR (wpAny_holding ?_));show wpAny _ _ (Builtin.SmallTypes.nextOf (.ref i2) >>= _) _ _ _;refine sR (W2.item _ _ k y _ _ (W2.keep _ _ _ h2 (λo e=>bC.extBut _ _ (Ne.symm fH) (fw.extBut _ _ eM e)) λo e=>bC.extBut _ _ cf (fw.extBut _ _ gk e)) hy λhd kZ dG=>sY (sY (sY ?_)));refine sR (wpAny_newTuple (hsz:=by show 2<=sizeLine;rw[sizeLine_eq];decide) ?_);have hsz:hd.objs.size=s.heap.objs.size:=by rw[dG.1,bC.1,fw.1]
 refine sY ⟨_,rfl,?_⟩;rw[hsz];refine hQ _ (sS _ (dG.extBut _ _ (Ne.symm eM) (bC.extBut _ _ (Ne.symm dN) nt))) (W1.keep _ _ _ (W1.keep _ _ _ jw (λo e=>dG.extBut _ _ fH e) λo e=>dG.extBut _ _ df e) (λo e=>sS _ e) λo e=>sS _ e) (W2.keep _ _ _ kZ (λo e=>sS _ e) λo e=>sS _ e) ?_ (by rw[uw,hsz]) λc o c1 c2 c3 e=>sS _ (dG.extBut _ _ c3 (bC.extBut _ _ c2 (fw.extBut _ _ c1 e)))
 rw[<- hsz];exact tj _ rfl
theorem SG(hh:A.handled=none)(D:Apart z TI TO i1 i2 l1 l2)(W1:Draws prog w i1 l1 xs S1)(W2:Draws prog w i2 l2 ys S2)
  (hz:Jo s.heap z TI TO ad f) (ha:s.heap.get? ad=some oa) (bu:IsPair s.heap TI (.ref i1) (.ref i2)) (h1:S1 k s.heap) (h2:S2 k s.heap) (bQ:xs[k]?=none\/ys[k]?=none)
  (hE:∀h' e,(∀c o,c≠z->c≠i1->c≠i2->s.heap.get? c=some o->h'.get? c=some o)->(∃o,h'.get? e=some o/\o.cls=.type "StopIteration")->E (.ref e) {s with heap:=h' }) :
  wpAny (model prog w) A (Builtin.«zip.__next__» ⟨[.ref z],[]⟩) Q E s:=by
 obtain⟨⟨gz,fh,dN,eM,gj,gk⟩,⟨dB,cV,cW,cD,cE,fH⟩,⟨de,bI,df,cH,cf,bJ⟩⟩:=D;show wpAny _ _ (field (.ref z) 2 >>= _) _ _ _;refine sR (t6 hz rfl rfl ?_);show wpAny _ _ (field (.ref z) 3 >>= _) _ _ _;refine sR (t6 hz rfl rfl ?_);refine sR (wpAny_seqItems bu rfl ?_);show wpAny _ _ (Builtin.SmallTypes.ownedTupleIsFree (.ref z) >>= _) _ _ _;refine sR (OD hz ha λhA nt fw=>?_);refine sR (sR (sR (wpAny_holding ?_)));show wpAny _ _ (Builtin.SmallTypes.nextOf (.ref i1) >>= _) _ _ _;have jv:=W1.keep _ _ _ h1 (λo e=>fw.extBut _ _ dN e) λo e=>fw.extBut _ _ gj e
 cases hx:xs[k]? with
 |none=>exact sR (W1.stop _ _ k _ _ hh jv hx λhb e bC he=>hE hb e (λc o c1 c2 c3 q=>bC _ _ c2 (fw.extBut _ _ c1 q)) he)
 |some x =>
  refine sR (W1.item _ _ k x _ _ jv hx λhb jw bC=>sY (sY ?_));refine sR (sR (wpAny_holding ?_));show wpAny _ _ (Builtin.SmallTypes.nextOf (.ref i2) >>= _) _ _ _;exact sR (W2.stop _ _ k _ _ hh (W2.keep _ _ _ h2 (λo e=>bC.extBut _ _ (Ne.symm fH) (fw.extBut _ _ eM e)) λo e=>bC.extBut _ _ cf (fw.extBut _ _ gk e)) (by
   rcases bQ with h|h
   .rw[hx]at h;cases h
   .exact h) λhd e dG he=>hE hd e (λc o c1 c2 c3 q=>dG _ _ c3 (bC.extBut _ _ c2 (fw.extBut _ _ c1 q))) he)
theorem K5(D:Apart z TI TO i1 i2 l1 l2)(W1:Draws prog w i1 l1 xs S1)(W2:Draws prog w i2 l2 ys S2)
  (hz:Jo s.heap z TI TO ad f) (ha:s.heap.get? ad=some oa) (bu:IsPair s.heap TI (.ref i1) (.ref i2)) (h1:S1 k s.heap) (h2:S2 k s.heap) (hx:xs[k]?=some x) (hy:ys[k]?=some y)
  (hQ:∀h',Jo h' z TI TO ad true->S1 (k+1) h'->S2 (k+1) h'->IsPair h' s.heap.objs.size x y->h'.objs.size=s.heap.objs.size+1 ->
   (∀c o,c≠z->c≠i1->c≠i2->s.heap.get? c=some o->h'.get? c=some o)->Q (some (.ref s.heap.objs.size)) {s with heap:=h' }):wpAny (model prog w) A (pyNext (.ref z)) Q E s:=by
 have hT:s.TypeIs (.ref z) "zip":=⟨_,hz,rfl⟩
 exact sR (wpAny_attempt (wpAny_callSpecial?_slot hT F.slot_zip_next (wpAny_call_entry F.slot_zip_next hT F.entry_zip_next
  (OH D W1 W2 hz ha bu h1 h2 hx hy λh' a1 a3 a4 a5 a6 a7=>sY (hQ h' a1 a3 a4 a5 a6 a7)) (F.args_zip_next_1 _))))
theorem MW(hh:A.handled=none)(D:Apart z TI TO i1 i2 l1 l2)(W1:Draws prog w i1 l1 xs S1)(W2:Draws prog w i2 l2 ys S2)
  (hz:Jo s.heap z TI TO ad f) (ha:s.heap.get? ad=some oa) (bu:IsPair s.heap TI (.ref i1) (.ref i2)) (h1:S1 k s.heap) (h2:S2 k s.heap) (bQ:xs[k]?=none\/ys[k]?=none)
  (hQ:∀h',(∀c o,c≠z->c≠i1->c≠i2->s.heap.get? c=some o->h'.get? c=some o)->Q none {s with heap:=h' }):wpAny (model prog w) A (pyNext (.ref z)) Q E s:=by
 have hT:s.TypeIs (.ref z) "zip":=⟨_,hz,rfl⟩
 refine sR (wpAny_attempt (wpAny_callSpecial?_slot hT F.slot_zip_next (wpAny_call_entry F.slot_zip_next hT F.entry_zip_next
  (SG (show A.in1.handled=none from hh) D W1 W2 hz ha bu h1 h2 bQ λh' e hk he=>?_) (F.args_zip_next_1 _))))
 obtain⟨o,ho,hc⟩:=he;refine sR (wpAny_isInstance ⟨o,ho,hc⟩ isSubtype_stop ?_);exact sY (hQ _ hk)
def Frs(b1 b2:Bool)(h:Heap)(z TI TO i1 i2 l1 l2 lo:Addr)(i:Nat):Prop :=
 ((i=0/\IsZip h z TI TO .none/\∃a b,IsPair h TO a b)\/∃ad f oa,Jo h z TI TO ad f/\h.get? ad=some oa/\lo<=ad)/\IsPair h TI (.ref i1) (.ref i2)/\Jt b1 h i1 l1 i/\Jt b2 h i2 l2 i
theorem Frs.keep(x:Frs b1 b2 h z TI TO i1 i2 l1 l2 lo i)(hk:∀b o,b≠S->h.get? b=some o->h'.get? b=some o)(hS:∀b∈[z,TI,TO,i1,i2],b≠S)(cj:S<lo):Frs b1 b2 h' z TI TO i1 i2 l1 l2 lo i:=by
 obtain⟨x,p,t1,t2⟩:=x;refine⟨?_,hk _ _ (hS _ (by simp)) p,t1.at λo e=>hk _ o (hS _ (by simp)) e,t2.at λo e=>hk _ o (hS _ (by simp)) e⟩;rcases x with⟨e,hz,a,b,ht⟩|⟨ad,f,oa,hz,ha,hl⟩
 .exact .inl ⟨e,hk _ _ (hS _ (by simp)) hz,a,b,hk _ _ (hS _ (by simp)) ht⟩
 .exact .inr ⟨ad,f,oa,hk _ _ (hS _ (by simp)) hz,hk _ _ (λq=>absurd (tw cj hl) (by rw[q];exact uf _)) ha,hl⟩
variable{lo S:Addr}{b1 b2:Bool}{R:Result->Shared->Prop}
theorem QE(D:Apart z TI TO i1 i2 l1 l2)(st:Frs b1 b2 s.heap z TI TO i1 i2 l1 l2 lo k)(c1:EA b1 s.heap l1 xs)(c2:EA b2 s.heap l2 ys)(hx:xs[k]?=some x)(hy:ys[k]?=some y)(hl:lo<=s.heap.objs.size)(cj:∀b∈[z,TI,TO,i1,i2,l1,l2],b<lo)
  (hQ:∀h',Frs b1 b2 h' z TI TO i1 i2 l1 l2 lo (k+1)->EA b1 h' l1 xs->EA b2 h' l2 ys->IsPair h' s.heap.objs.size x y->h'.objs.size=s.heap.objs.size+1 ->
   (∀c o,c≠z->c≠TO->c≠i1->c≠i2->s.heap.get? c=some o->h'.get? c=some o)->Q (some (.ref s.heap.objs.size)) {s with heap:=h' }):wpAny (model prog w) A (pyNext (.ref z)) Q E s:=by
 obtain⟨x0,p,t1,t2⟩:=st;obtain⟨⟨gz,fh,dN,eM,gj,gk⟩,⟨dB,cV,cW,cD,cE,fH⟩,⟨de,bI,df,cH,cf,bJ⟩⟩:=id D;rcases x0 with⟨e,hz,a,b,ht⟩|⟨ad,f,oa,hz,ha,b0⟩
 .exact HH D (BF b1 bI) (BF b2 bJ) hz p ht ⟨t1,c1⟩ ⟨t2,c2⟩ hx hy λh' iZ _ s1 s2 hp hs hk=>hQ h' ⟨.inr ⟨_,false,_,iZ,hp,hl⟩,hk _ _ gz dB cV cW p,s1.1,s2.1⟩ s1.2 s2.2 hp hs hk
 .have bV:∀b∈[z,TI,TO,i1,i2,l1,l2],ad≠b:=λb hb q=>absurd (tw (cj b hb) b0) (by rw[q];exact uf _)
  exact K5 D (BF b1 bI) (BF b2 bJ) hz ha p ⟨t1,c1⟩ ⟨t2,c2⟩ hx hy λh' iZ s1 s2 hp hs hk=>hQ h' ⟨.inr ⟨ad,true,oa,iZ,hk _ _ (bV _ (by simp)) (bV _ (by simp)) (bV _ (by simp)) ha,b0⟩,hk _ _ gz cV cW p,s1.1,s2.1⟩ s1.2 s2.2 hp hs λc o q1 _ q3 q4 e=>hk c o q1 q3 q4 e
theorem WH(hh:A.handled=none)(D:Apart z TI TO i1 i2 l1 l2)(st:Frs b1 b2 s.heap z TI TO i1 i2 l1 l2 lo k)(c1:EA b1 s.heap l1 xs)(c2:EA b2 s.heap l2 ys)(bQ:xs[k]?=none\/ys[k]?=none)
  (hQ:∀h',(∀c o,c≠z->c≠TO->c≠i1->c≠i2->s.heap.get? c=some o->h'.get? c=some o)->Q none {s with heap:=h' }):wpAny (model prog w) A (pyNext (.ref z)) Q E s:=by
 obtain⟨x0,p,t1,t2⟩:=st;obtain⟨⟨gz,fh,dN,eM,gj,gk⟩,⟨dB,cV,cW,cD,cE,fH⟩,⟨de,bI,df,cH,cf,bJ⟩⟩:=id D;rcases x0 with⟨e,hz,a,b,ht⟩|⟨ad,f,oa,hz,ha,b0⟩
 .exact HI hh D (BF b1 bI) (BF b2 bJ) hz p ht ⟨t1,c1⟩ ⟨t2,c2⟩ bQ hQ
 .exact MW hh D (BF b1 bI) (BF b2 bJ) hz ha p ⟨t1,c1⟩ ⟨t2,c2⟩ bQ λh' hk=>hQ h' λc o q1 _ q3 q4 e=>hk c o q1 q3 q4 e
end Zp
end PySem
namespace PySem
namespace F
end F
namespace Zp
variable{prog:Program}{w:World}{A:Around}{E:Value->Shared->Prop}{s:Shared}{z TI TO i1 i2 l1 l2 S:Addr}{xs ys:Array Value}{b1 b2:Bool}{R:Result->Shared->Prop}
end Zp
end PySem
namespace L2
open PySem PySem.Spec PyProof.Rows
variable{X:Cx}{ae:List (Addr×Obj)}{U:St}{H H':Hp}{s:Shared}
theorem Inv.VS{fp:List Addr}(I:Inv X ae U H s)(k:∀b o,b∉fp->s.heap.get? b=some o->h'.get? b=some o)(hf:∀b∈fp,KS X ae H b)
  (up:∀b u,H b=some u->H' b=some u) (dn:∀b u,H' b=some u->H b=some u\/(s.heap.objs.size<=b/\BJ X.prog X.w H' h' b u)):Inv X ae U H' {s with heap:=h',toks:=t' }:=by
 have gm:∀b u,H b=some u->b∉fp:=λb u e z=>by rw[(hf b z).1]at e;cases e
 refine I.step (λb hb=>?_) (λb o _ _ hc e _=>k b o hc e) (λb o _ _ hc e _=>⟨o.slots,k b o hc e⟩) (λb o _ e n=>?_)
  (λb o hc e=>⟨o,k b o hc e⟩) (λb _ e=>up b _ e) (λb _ _ e=>up b _ e) (λb ps e=>⟨#[],by rw[up b _ e];simp⟩) (λm hm=>?_) (λb u e=>?_) I.bare
 .obtain⟨f0,f1,f2,f3,f4,f5⟩:=hf b hb;exact⟨f3,f1,f4,f5⟩
 .cases q:H' b with
  |none=>rfl
  |some u =>
   rcases dn b u q with z|z
   .rw[n]at z;cases z
   .exact absurd (tw (tf e) z.1) (uf _)
 .obtain⟨o,es,ep,ho,r⟩:=hm;exact⟨o,es,ep,k _ o (λz=>(hf _ z).2.1 rfl) ho,r⟩
 .rcases dn b u e with z|z
  .refine(I.zZ b u z).N5 (λc v hc q=>k c v ?_ q) (λc q=>up c _ q) λc _ q=>up c _ q
   rcases hc with y|y
   .rw[y];exact gm b u z
   .exact gm c _ y
  .exact z.2
end L2
namespace PySem
namespace F
theorem Lf:typeLookup (.type "tuple") "__reversed__"=pure none:=by rw[typeLookup_type,builtinLookup_eq_fast];kernel_rfl
theorem Ma:Manifest.owners.lookup (String.ofList ['d','e','s','r','e','v','e','r'].reverse)=some Manifest.sig_reversed:=by kernel_rfl
theorem Cd:Slot "reversed" "__next__" "reversed.__next__" :=
 .of (owner:="reversed") (n:="__next__") (by rw[typeLookup_type,builtinLookup_eq_fast];kernel_rfl) (by decide +kernel) (by decide +kernel) (by decide +kernel)
  (by first|exact .inl (by decide +kernel)|exact .inr (by decide +kernel)) (by rw[isSubtype_type];kernel_rfl)
theorem EN:entryFor table "reversed.__next__"=some Builtin.«reversed.__next__»:=entryFor_of_tree (by kernel_rfl)
theorem Fy(a:Value):argsOk "reversed.__next__" ⟨[a],[]⟩:=by unfold argsOk;rw[signature?_of (n:=['_','_','t','x','e','n','_','_']) (by kernel_rfl) Ma];kernel_rfl
theorem Fm:Slot "reversed" "__iter__" "reversed.__iter__" :=
 .of (owner:="reversed") (n:="__iter__") (by rw[typeLookup_type,builtinLookup_eq_fast];kernel_rfl) (by decide +kernel) (by decide +kernel) (by decide +kernel)
  (by first|exact .inl (by decide +kernel)|exact .inr (by decide +kernel)) (by rw[isSubtype_type];kernel_rfl)
theorem KQ(a:Value):argsOk "reversed.__iter__" ⟨[a],[]⟩:=by unfold argsOk;rw[signature?_of (n:=['_','_','r','e','t','i','_','_']) (by kernel_rfl) Ma];kernel_rfl
theorem Ja:entryFor table "reversed.__iter__"=some Builtin.«dict_keyiterator.__iter__» :=
 entryFor_alias (id':="dict_keyiterator.__iter__") (by kernel_rfl) (by first|rfl|decide +kernel|(unfold String.splitOn;simp +decide [String.splitOnAux])) (by decide +kernel) (by kernel_rfl)
theorem JC:Slot "reversed" "__init__" "object.__init__" :=
 .of (owner:="object") (n:="__init__") (by rw[typeLookup_type,builtinLookup_eq_fast];kernel_rfl) (by decide +kernel) (by decide +kernel) (by decide +kernel)
  (by first|exact .inl (by decide +kernel)|exact .inr (by decide +kernel)) (by rw[isSubtype_type];kernel_rfl)
theorem P7:TypeCalled "reversed" "reversed.__new__" "object.__init__" :=
 ⟨by decide +kernel,by decide +kernel,⟨_,_,mro_reversed⟩,made_reversed,by decide +kernel,by rw[isSubtype_type];kernel_rfl,JC⟩
end F
end PySem
namespace PySem
open PyProof.Rows (IsTup)
namespace Rv
noncomputable def obj(t:Addr)(i:Int):Obj:={cls:=.type "reversed",data:=.fields #[.ref t,rawInt i]}
def Is(h:Heap)(a t:Addr)(i:Int):Prop:=∃o,h.get? a=some o/\o.cls=.type "reversed"/\o.data=.fields #[.ref t,rawInt i]
theorem Is.typeIs{s:Shared}(x:Is s.heap a t i):s.TypeIs (.ref a) "reversed":=let⟨o,ho,hc,_⟩:=x;⟨o,ho,hc⟩
theorem Is.at(x:Is h a t i)(e:∀o,h.get? a=some o->h'.get? a=some o):Is h' a t i:=let⟨o,ho,r⟩:=x;⟨o,e _ ho,r⟩
theorem Gu(t:Addr)(items:Array Value)(hz:items.size<=sizeLine):
  Meets (Builtin.«reversed.__new__» ⟨[.type "reversed",.ref t],[]⟩) (λ_ R s=>IsTup s.heap t items/\∀tk,R (.ok (.ret (.ref s.heap.objs.size))) {s with heap:=s.heap.push (obj t ((items.size:Int)-1)),toks:=tk}) :=
 .of_wp λprog w A R s h=>by
  obtain⟨ht,h⟩:=h;refine sR (wpAny_of_eq (newClass_reversed _) ?_)
  try dsimp only
  refine sR (wpAny_of_eq (by first|rfl|kernel_rfl) ?_);refine sR (wpAny_of_eq (by first|rfl|kernel_rfl) ?_)
  try dsimp only
  refine sR (wpAny_specialOf ht.typeIs F.Lf ?_)
  try dsimp only
  refine sR ?_;refine sR (wpAny_isInstance (b:=false) ht.typeIs (by rw[isSubtype_type];kernel_rfl) ?_);refine sR (wpAny_specialOf ht.typeIs PyProof.Rows.slot_tuple_getitem.lookup ?_);refine wpAny_ite_split (λ_=>sY ?_) (λie=>absurd (by decide +kernel) ie);refine sR (len_tuple ht (by rw[sizeLine_eq]at hz;lia) ?_);refine sR (sY ?_);unfold Builtin.SmallTypes.newRecord;refine sR (wpAny_newObj_type (sY ⟨_,rfl,h _⟩) (by size_fits))
variable{prog:Program}{w:World}{A:Around}{E:Value->Shared->Prop}{s:Shared}
theorem SW(hz:items.size<=sizeLine)(ht:IsTup s.heap t items)(h:∀tk,Q (.ref s.heap.objs.size) {s with heap:=s.heap.push (obj t ((items.size:Int)-1)),toks:=tk}):
  wpAny (model prog w) A (call (.type "reversed") [.ref t]) Q E s :=
 callType_new F.P7 (by decide) (F.typeCall_reversed_1 _) (F.newCall_reversed_1 _) (λob=>F.args_object_init_2 ob _) F.entry_reversed_new (Gu t items hz) ⟨ht,λtk=>⟨⟨_,tj _ rfl,rfl⟩,h tk⟩⟩
theorem next_item{i:Nat}(bj:Is s.heap it t (i:Int))(ht:IsTup s.heap t items)(hz:items.size<=sizeLine)(hx:items[i]?=some x)(bV:t≠it)
  (hQ:∀h' tk,s.toks<=tk->Is h' it t ((i:Int)-1)->Heap.SameBut it s.heap h'->Q (some x) {s with heap:=h',toks:=tk}):wpAny (model prog w) A (pyNext (.ref it)) Q E s:=by
 obtain⟨o,ho,hc,hd⟩:=id bj;have hi:i<items.size:=by
  rcases Nat.lt_or_ge i items.size with q|q
  .exact q
  .rw[Array.getElem?_eq_none q]at hx;cases hx
 rw[sizeLine_eq]at hz;refine sR (wpAny_attempt (wpAny_callSpecial?_slot bj.typeIs F.Cd
  (wpAny_call_entry F.Cd bj.typeIs F.EN ?_ (F.Fy _))))
 refine sR (wpAny_of_eq rfl ?_)
 try dsimp only
 refine sR (t6 ho hd rfl ?_);refine sR (t6 ho hd rfl ?_);show wpAny _ _ (if(i:Int)<0 then _ else _) _ _ s;refine sR (wpAny_specialOf ht.typeIs PyProof.Rows.slot_tuple_getitem.lookup ?_);refine sR (wpAny_mkInt ?_);refine sR (wpAny_attempt (PyProof.Rows.getItem_tuple ht (by lia) (by lia) (by unfold seqIndex?;simp only[show ¬((i:Int)<0)from by lia];simp[hi]) hx ?_));refine sR (t6 ho hd rfl ?_);refine sR (wpAny_setField ho hd (by simp) ?_);refine sY ⟨x,rfl,sY (hQ _ _ ?_ ?_ (Heap.SameBut.update ..))⟩
 .exact tY (Nat.le_succ _) (tD _)
 .exact⟨_,uh _ ho (Obj.isFreed_of_fields (Obj.data_mapFields hd _)),(Obj.cls_mapFields ..).trans hc,by rw[Obj.data_mapFields hd];simp⟩
theorem next_end(hh:A.handled=none)(bj:Is s.heap it t (-1))
  (hQ:∀h',Heap.ExtBut it s.heap h'->Q none {s with heap:=h' }):wpAny (model prog w) A (pyNext (.ref it)) Q E s:=by
 obtain⟨o,ho,hc,hd⟩:=id bj;refine sR (wpAny_attempt (wpAny_callSpecial?_slot bj.typeIs F.Cd
  (wpAny_call_entry F.Cd bj.typeIs F.EN ?_ (F.Fy _))))
 refine sR (wpAny_of_eq rfl ?_)
 try dsimp only
 refine sR (t6 ho hd rfl ?_);refine sR (t6 ho hd rfl ?_);show wpAny _ _ (if(-1:Int)<0 then _ else _) _ _ s;refine sR (wpAny_rule ?_);refine sR ?_;refine sR (wpAny_setField ho hd (by simp) ?_);refine wpAny_setField (uh (Obj.mapFields (λvs=>vs.setIfInBounds 1 (rawInt (-1)))) ho (Obj.isFreed_of_fields (Obj.data_mapFields hd _))) (Obj.data_mapFields hd _) (by simp) ?_;refine sR ?_;refine sR ?_;refine sR (wpAny_newObj_type ?_ (by size_fits));refine sR (wpAny_of_eq (by first|rfl|(simp only;rfl)) ?_);refine wpAny_newObj_type ?_ (by size_fits);refine sR (wpAny_handled ?_)
 first|rw[show A.in1.handled=none from hh]|rw[hh]
 refine sR (sY (wpAny_throw ?_));refine sR (wpAny_isInstance ⟨_,tj _ rfl,rfl⟩ isSubtype_stop ?_);refine sY (hQ _ ?_);exact λb ob hb e=>sS _ (sS _ ((Heap.SameBut.update ..).extBut b ob hb ((Heap.SameBut.update ..).extBut b ob hb e)))
theorem J7(bj:Is s.heap it t i)(h:Q (.ref it) s):wpAny (model prog w) A (pyIter (.ref it)) Q E s:=by refine wpAny_pyIter_slot bj.typeIs F.Fm (wpAny_call_entry F.Fm bj.typeIs F.Ja ?_ (F.KQ _));exact sY ⟨_,rfl,"reversed",_,bj.typeIs,F.Cd.lookup,h⟩
end Rv
end PySem
namespace PySem
open PyProof.Rows (IsTup)
namespace Rv
variable{prog:Program}{w:World}{A:Around}{E:Value->Shared->Prop}{s:Shared}
end Rv
end PySem
namespace L2
open PySem PySem.Spec PyProof.Rows
end L2
namespace HT
open PySem PyProof.Rows
variable{prog:Program}{w:World}{A:Around}{E:Value->Shared->Prop}{s:Shared}
theorem Fb{lo hi:Option Int}(ht:IsTup s.heap t items)(hs:s.heap.IsSliceOf sl vl vu .none)(pl:IsPart vl lo)(pu:IsPart vu hi)
  (hw:sIx items.size 0 lo=0/\sIx items.size items.size hi=items.size) (h:Q (.ref t) s):wpAny (model prog w) A (getItem (.ref t) (.ref sl)) Q E s:=by
 obtain⟨os,iT,jb,jG⟩:=id hs;unfold getItem
 try with_reducible refine wpAny_holding ?_
 first|refine sR (sY ?_)|skip
 refine sR (wpAny_sequenceKey ht.typeIs (by decide) ?_);refine sR (wpAny_callSpecial?_slot ht.typeIs slot_tuple_getitem
  (wpAny_call_entry slot_tuple_getitem ht.typeIs entry_tuple_getitem ?_ (args_tuple_getitem _ _)))
 show wpAny _ _ (Builtin.Tuple.tupleItemsOf (.ref t) >>= _) _ _ s;refine sR (tupleItemsOf_ ht ?_);refine sR (wpAny_typeOf (⟨os,iT,jb⟩) ?_);refine sR (DC hs pl pu ?_);show wpAny _ _ (if(((sIx items.size 0 lo:Nat):Int)==0&&(1:Int)==1&&(sIx items.size items.size hi-sIx items.size 0 lo)==items.size)=true then _ else _) _ _ s;rw[if_pos (by rw[hw.1,hw.2];simp)];refine sR ?_;refine sR (wpAny_typeOf ht.typeIs (sY ?_));exact sR (wpAny_rule (sY ⟨_,rfl,sY h⟩))
end HT
namespace L2
open PySem PySem.Spec PyProof.Rows
def rSlA(K:Fg):V->Option Int->Option Int->Hp->VK->Prop:=λx lo hi H Q=>∃a xs,x=.ref a/\SqT K H a xs/\(HT.sIx xs.length 0 lo=0/\HT.sIx xs.length xs.length hi=xs.length)/\Q (.ref a) H
theorem XD:SlR X (rSlA X.K):=by
 intro ae s U H x v vl vu lo hi sl Q I rx hs pl pu h;obtain⟨a,xs,rfl,hx,hw,q⟩:=h;cases rx;obtain⟨ak,r,ht,hz⟩:=I.tuple hx;have hlen:ak.toArray.size=xs.length:=by rw[sX];exact r.length.symm
 refine⟨"tuple",_,PyProof.Rows.slot_tuple_getitem.lookup,ht.typeIs,?_⟩;exact HT.Fb ht hs pl pu (by rwa[hlen]) ⟨.ref a,H,I,rfl,q⟩
end L2
namespace L2
open PySem PySem.Spec PySem.W PyProof.Rows
noncomputable def CT:List Int->Nat
 | []=>0
 |n::ns=>Builtin.Int.intBits n+1+CT ns
theorem Ha:∀ns:List Int,WData.weightAll (ns.map WData.int)=CT ns
 | []=>by simp[WData.weightAll,CT]
 |n::ns=>by simp only[sW,WData.weightAll,Ha ns];rfl
end L2
namespace L2
open PySem PySem.Spec
variable{prog:Program}{w:World}{A:Around}{E:Value->Shared->Prop}{s:Shared}
section
variable{K:Type}[DecidableEq K]{knd:KeyKind prog w K}
end
variable{X:Cx}{ae:List (Addr×Obj)}{U:St}{H:Hp}{a:Addr}
variable{o e f:Expr}{td ty tx:TE}{aw ax:Pos}
theorem XR(h:Hw k u=true):RelV (kV k) u:=by
 cases k with
 |inl i =>
  have h:Value.isInt i u=true:=h;cases u<;>first
   |(simp[Value.isInt]at h;subst h;exact⟨_,rfl⟩)
   |(simp at h)
   |(cases h)
 |inr x =>
  have h:Value.isStrOf x u=true:=h;cases u<;>first
   |(simp[Value.isStrOf]at h;subst h;exact⟨_,rfl⟩)
   |(simp at h)
   |(cases h)
noncomputable def Jby(o:Obj):Nat:=match o.data with|.dict _ ep=>ep|_=>0
variable{o:Obj}{ah:List (Key×V)}
theorem Inv.Jbm(I:Inv X ae U H s)(e:H a=some (.frz o (.l ah))):(a==sysModules)=false/\∃vs,KV ah vs/\s.heap.DictAt (Bb X.prog X.w) a vs (Jby o):=by
 obtain⟨h1,h2⟩:=(show BJ X.prog X.w H s.heap a (.frz o (.l ah))from I.zZ a _ e)
 obtain⟨z,hd,vs,aU,dd⟩:=(show ah.length<=sizeLine/\(a==sysModules)=false/\∃vs,KV ah vs/\s.heap.DictOf (Bb X.prog X.w) a vs from h2)
 refine⟨hd,vs,aU,?_⟩;obtain⟨o',es,ep,ho,hc,lh,r⟩:=dd;rw[h1]at ho;cases ho;refine⟨o,es,h1,hc,?_,r⟩;unfold Jby;rw[lh]
theorem Inv.freeze(I:Inv X ae U H s)(e:H a=some (.l ah)):∃o,Inv X ae U (upd H a (.frz o (.l ah))) s:=by
 obtain⟨z,hd,vs,aU,dd⟩:=(show ah.length<=sizeLine/\(a==sysModules)=false/\∃vs,KV ah vs/\s.heap.DictOf (Bb X.prog X.w) a vs from((show BJ X.prog X.w H s.heap a (.l ah)from I.zZ a _ e)))
 obtain⟨o,es,ep,ho,r⟩:=id dd;exact⟨o,I.write (by rw[e];exact True.intro) (.inl rfl) (λ_ _ _ z=>z) ⟨o,ho⟩ ⟨ho,z,hd,vs,aU,dd⟩⟩
variable{tg:Expr}
theorem GY(hc:X.calm=true):CU X (.type "list") (λxs H Q=>∃p ah,xs=[.ref p]/\Rd H p (.l ah)/\∀l,H l=none->Q (.ref l) (upd H l (.lst (ah.map λkv=>kV kv.1)))):=by
 intro ae s U H xs us Q I r h;obtain⟨p,ah,rfl,hp,q⟩:=h;obtain⟨u,rfl,rx⟩:=vals1 r;cases rx;obtain⟨z,hd,vs,aU,dd⟩:=Kq I.zZ hp;obtain⟨ep,da⟩:=dd.dictAt;refine PySem.W.kdl_call (PySem.W.kdl_dict hd) (I.ok.hd hc) da (by rwa[<- (Paired.length aU)]) λh' tk ay c' kp e cY=>?_
 refine⟨.ref s.heap.objs.size,_,I.laid kp (tD _) (show BJ X.prog X.w _ h' _ (.lst (ah.map λkv=>kV kv.1))from⟨by rw[sU];exact z,ay.toList,c',NN aU cY,by simpa using e⟩),rfl,q _ (I.zZ.fresh (tD _))⟩
theorem NB:CU X (.builtin "len") (λxs H Q=>∃a ah,xs=[V.ref a]/\Rd H a (.l ah)/\Q (.int ah.length) H):=by intro ae s U H xs us Q I r h;obtain⟨a,ah,rfl,ha,q⟩:=h;obtain⟨u,rfl,ru⟩:=vals1 r;cases ru;exact JbB I ha λt s' I'=>⟨.int ah.length,H,I',⟨t,rfl⟩,q⟩
end L2
namespace PySem
open PyProof.Rows
namespace So
variable{prog:Program}{w:World}{A:Around}{E:Value->Shared->Prop}{s:Shared}
end So
end PySem
namespace PySem
open PyProof.Rows
namespace So
variable{prog:Program}{w:World}{A:Around}{E:Value->Shared->Prop}{s:Shared}
end So
end PySem
namespace PySem
open PyProof.Rows
namespace So
variable{prog:Program}{w:World}{A:Around}{E:Value->Shared->Prop}{s:Shared}
end So
end PySem
namespace L2
open PySem PySem.Spec
variable{X:Cx}{ae:List (Addr×Obj)}{U:St}{H:Hp}{s:Shared}
end L2
namespace PySem
open PyProof.Rows (IsTup)
namespace Rv
variable{prog:Program}{w:World}{A:Around}{E:Value->Shared->Prop}{s:Shared}
end Rv
end PySem
namespace L2
open PySem PySem.Spec PyProof.Rows
end L2
namespace L2
open PySem PySem.Spec
variable{X:Cx}{tg:Expr}
end L2
namespace L2
open PySem PySem.Spec PyProof.Rows PySem.W
theorem OO:∀(K:Fg),(K.map (·.1)).map h.get?=K.map (λp=>some p.2)->K.In h
 | [],_=>λa o e=>by cases e
 |p::K,hk=>λa o e=>by
  simp only[sW,List.cons.injEq]at hk;rw[ud]at e;by_cases q:a=p.1
  .subst q;rw[show(p.1==p.1)=true by simp]at e;cases e;exact hk.1
  .rw[show(a==p.1)=false by simpa using q]at e;exact OO K hk.2 a o e
end L2
namespace L2
open PySem PySem.Spec PyProof.Rows
def ExT(h:Heap)(vs:Array Value)(a:Addr)(fl:Value):Option Addr->Prop
 |none=>vs[1]?=some .none
 |some T=>vs[1]?=some (.ref T)/\T≠a/\∃oT ts,h.get? T=some oT/\oT.data=.fields ts/\ts[3]?=some fl
def Ti(h:Heap)(a:Addr)(c:Value)(T:Option Addr)(fl:Value):Prop:=∃oe vs,h.get? a=some oe/\oe.cls=c/\oe.dict=none/\oe.data=.fields vs/\ExT h vs a fl T
theorem Obj.PR(o:Obj)(f:Array Value->Array Value):(o.mapFields f).dict=o.dict:=by obtain⟨_,_,dt,_⟩:=o;cases dt<;>rfl
variable{M:Model}{A:Around}{E:Value->Shared->Prop}{s:Shared}
theorem Mv
  (iq:A.frames=some (env::outer)) (hl:s.heap.FunFrames base (env::outer)) (hf:env.frame=some L) (he:s.heap.get? e=some oe) (gQ:oe.dict=none) (hd:oe.data=.fields vs) (hsz:1<vs.size)
  (h:∀h' T,s.heap.objs.size<=T->(∀b o,s.heap.get? b=some o->b∉frs (env::outer)->b≠e->h'.get? b=some o)->(∀b o,s.heap.get? b=some o->b∈frs (env::outer)->∃sl,h'.get? b=some {o with slots:=sl}) ->
   Ti h' e oe.cls (some T) (rawInt L)->Q () {s with heap:=h' }) :
  wpAny M A (do let a <- frameOf env;let pl <- entryPlaceOf L hadNext;let b <- EntryCells.newEntry head a .none (rawInt L) .none pl;setField (.ref e) 1 b) Q E s:=by
 have nM:e∉(env::outer).filterMap (·.frame):=λhm=>by obtain⟨_,o,ho,gX⟩:=hl.mem hm;rw[he]at ho;injection ho with ho;subst ho;exact gX vs hd
 refine sR (wpAny_frameOf_fun iq hl hf λaI eV=>?_);refine sR (wpAny_entryPlaceOf λpl aD=>?_);refine sR (wpAny_newObj_type ?_ (aD.sizeOk5 _ _ _ _ _));have il:=(eV.2.1 e nM).trans he;have ip:=sS {cls:=.type "traceback",dict:=none,data:=.fields ([head,.ref L,.none,rawInt L,.none]++(if pl.isEmpty then List.replicate 6 Value.none else pl)).toArray} il;refine wpAny_setField ip hd hsz ?_;have iK:=Nat.ne_of_gt (tf il);have ig:=Obj.data_mapFields hd (·.setIfInBounds 1 (Value.ref aI.objs.size));have keep:∀b o,b≠e->aI.get? b=some o ->
   ((aI.push {cls:=.type "traceback",dict:=none,data:=.fields ([head,.ref L,.none,rawInt L,.none]++(if pl.isEmpty then List.replicate 6 Value.none else pl)).toArray}).update e (Obj.mapFields (·.setIfInBounds 1 (Value.ref aI.objs.size)))).get? b=some o:=λb o fV hb=>by
  rw[uc _ _ (Ne.symm fV)];exact sS _ hb
 refine h _ aI.objs.size (by rw[eV.1];exact tD _) (λb o hb hn fV=>keep b o fV ((eV.2.1 b hn).trans hb)) (λb o hb hn=>?_) ?_
 .obtain⟨sl,q⟩:=eV.2.2 b o hb;exact⟨sl,keep b _ (λz=>nM (by rwa[<- z])) q⟩
 .exact⟨_,_,(uh (Obj.mapFields (·.setIfInBounds 1 (Value.ref aI.objs.size))) ip (Obj.isFreed_of_fields ig)),Obj.cls_mapFields _ _,(Obj.PR _ _).trans gQ,ig,by simp[hsz],iK,_,_,((uc (aI.push {cls:=.type "traceback",dict:=none,data:=.fields ([head,.ref L,.none,rawInt L,.none]++(if pl.isEmpty then List.replicate 6 Value.none else pl)).toArray})
  (Obj.mapFields (·.setIfInBounds 1 (Value.ref aI.objs.size))) (Ne.symm iK)).trans (tj aI rfl)),rfl,by first|(simp;done)|(rcases aD with rfl|⟨_,_,_,_,_,_,_,rfl⟩<;>simp)⟩
structure Qr(X:Cx):Prop where
 pn:X.pn=[]
 ex:X.ex=[]
 st:X.stack=X.env::X.outer
 fr:X.env.frame=some X.env.locals
theorem BJ.get(x:BJ P w H h a o):∃u,h.get? a=some u:=by cases o with|lst xs=>obtain⟨_,_,_,_,e⟩:=x;exact⟨_,e⟩|tup xs=>obtain⟨_,_,_,ob,e,_⟩:=x;exact⟨_,e⟩|l ah=>obtain⟨_,_,_,_,o,_,_,e,_⟩:=x;exact⟨_,e⟩|dT ah=>obtain⟨_,_,_,_,o,_,_,e,_⟩:=x;exact⟨_,e⟩|set S n=>obtain⟨o,_,_,_,e,_⟩:=x;exact⟨_,e⟩|ins C dx fs=>obtain⟨_,_,_,e,_⟩:=x;exact⟨_,e⟩|own y=>obtain⟨_,e⟩:=x;exact⟨_,e⟩|xd fs=>obtain⟨_,⟨_,_,_,e,_⟩,_⟩:=x;exact⟨_,e⟩|yH lo hi=>obtain⟨_,_,_,e⟩:=x;exact⟨_,e⟩|frz ob u=>obtain⟨e,_⟩:=x;exact⟨_,e⟩|yZ ps=>exact⟨_,(show h.get? a=some _ from x)⟩|met f y=>exact⟨_,(show h.get? a=some _ from x)⟩|ext φ=>obtain⟨_,⟨_,e⟩,_⟩:=x;exact⟨_,e⟩
theorem HOk.none(x:HOk P w H h)(e:h.get? a=none):H a=none:=by cases q:H a with|none=>rfl|some u =>obtain⟨o,z⟩:=(x a u q).get;rw[e]at z;cases z
variable{X:Cx}{U:St}{H:Hp}{h':Heap}{ch:List Addr}
theorem Inv.kp(I:Inv X ae U H s)(iU:X.pn=[])(k:∀b o,s.heap.get? b=some o->b∉frs X.stack->b∉ch->h'.get? b=some o)(sl:∀b o,s.heap.get? b=some o->b∈frs X.stack->∃sl,h'.get? b=some {o with slots:=sl})
  (nc:∀b∈ch,X.zV.heap.get? b=none/\H b=none/\∃o vs,s.heap.get? b=some o/\o.data=.fields vs):Inv X [] U H {s with heap:=h' }:=by
 have any:=λb o e n=>by
  by_cases hb:b∈frs X.stack
  .exact sl b o e hb
  .exact⟨o.slots,k b o e hb n⟩
 have n0:∀b o,X.zV.heap.get? b=some o->b∉ch:=λb o e z=>by have:=(nc b z).1;rw[e]at this;cases this
 have nf:∀b o,s.heap.get? b=some o->(∀vs,o.data≠.fields vs)->b∉ch:=λb o e hd z=>by obtain⟨_,_,o',vs,e',d⟩:=nc b z;rw[e]at e';cases e';exact hd vs d
 have dC:∀x c,X.env.cells.lookup x=some c->∀v,s.heap.IsCell c v->h'.IsCell c v:=λx c e v ⟨o,ho,hd⟩=>by obtain⟨l,q⟩:=any c o ho (nf c o ho λvs z=>by rw[hd]at z;cases z);exact⟨_,q,hd⟩
 refine⟨I.ok,I.os,I.bare,⟨λb o e n hb hx=>?_,λb o e n hb hx=>?_,I.base.free,λb o e hx=>?_,I.base.zH,I.base.zL,I.base.zI⟩,?_,λx c e=>?_,I.free,I.zS,λp hp=>?_,λb u e=>?_,I.len⟩
 .refine k b o (I.base.keep b o e n hb hx) (λz=>?_) (n0 b o e);rcases tm.mp (I.JB b z)with z|z
  .exact tU (tw (tf e) I.ok.above) z
  .exact hb z
 .obtain⟨l,e1⟩:=I.base.slot b o e n hb hx;obtain⟨l',e2⟩:=any b _ e1 (n0 b o e);exact⟨l',e2⟩
 .obtain⟨o',e1⟩:=I.base.there b o e hx;obtain⟨l',e2⟩:=any b _ e1 (n0 b o e);exact⟨_,e2⟩
 .obtain⟨m,⟨o,es,ep,ho,hd,r⟩,hl⟩:=I.loc;obtain⟨l,q⟩:=any _ o ho (nf _ o ho λvs z=>by rw[hd]at z;cases z);refine⟨m,⟨_,es,ep,q,hd,r⟩,λi x v e1 e2 e3=>?_⟩;obtain⟨u,rv,z⟩:=hl i x v e1 e2 e3;refine⟨u,rv,?_⟩;rcases z with z|⟨kk,c,e,z⟩
  .exact .inl z
  .exact .inr ⟨kk,c,e,dC x c e _ z⟩
 .obtain⟨v,z⟩:=I.cell x c e;exact⟨v,dC x c e v z⟩
 .rw[iU]at hp;cases hp
 .have nn:∀c,(c=b\/H c=some (.own b))->H c≠none:=λc hc z=>by
   rcases hc with rfl|hc
   .rw[z]at e;cases e
   .rw[z]at hc;cases hc
  exact(I.zZ b u e).N5 (λc v hc q=>k c v q (λz=>nn c hc (I.K1 c z)) λz=>nn c hc (nc c z).2.1) (λ_ q=>q) λ_ _ q=>q
theorem Inv.new(I:Inv X ae U H s)(D:X.ex=[])(e:s.heap.get? b=none):X.zV.heap.get? b=none/\H b=none:=by refine⟨?_,I.zZ.none e⟩;cases q:X.zV.heap.get? b with|none=>rfl|some o =>obtain⟨o',z⟩:=I.base.there b o q (by rw[D];simp);rw[e]at z;cases z
variable{a:Addr}{c fl:Value}{T:Option Addr}{Q:Unit->Shared->Prop}
def Jat(X:Cx)(H:Hp)(a:Addr)(T:Option Addr):Prop:=∀b,b=a\/T=some b->X.zV.heap.get? b=none/\H b=none
theorem Ti.there(e:Ti s.heap a c T fl):∀b,b=a\/T=some b->∃o vs,s.heap.get? b=some o/\o.data=.fields vs:=by
 obtain⟨oe,vs,h1,h2,h3,h4,h5⟩:=e;intro b hb;rcases hb with rfl|rfl
 .exact⟨oe,vs,h1,h4⟩
 .obtain⟨_,_,oT,ts,q1,q2,_⟩:=h5;exact⟨oT,ts,q1,q2⟩
theorem Ld(D:Qr X)(iq:A.frames=some X.stack)(I:Inv X [] U H s)(e:Ti s.heap a c T fl)(qB:fl=.none\/fl=rawInt X.env.locals)(nw:Jat X H a T)
  (h:∀h' T',Ti h' a c (some T') (rawInt X.env.locals)->Jat X H a (some T')->Inv X [] U H {s with heap:=h' }->Q () {s with heap:=h' }):wpAny M A (noteFrame (.ref a) X.env) Q E s:=by
 have hl:=I.stack;rw[D.st]at iq hl;obtain⟨oe,vs,he,cF,gQ,hd,ht⟩:=id e;subst cF;unfold noteFrame;simp only[D.fr];cases T with
 |none =>
  refine sR (t6 he hd ht ?_);refine Mv iq hl D.fr he gQ hd (uI.mp ht).1 λh' T' q1 q2 q3 q4=>?_
  have nT:=I.new D.ex (Heap.get?_none_of_le q1);refine h h' T' q4 (λb hb=>hb.elim (λz=>nw b (.inl z)) λz=>by cases z;exact nT) (I.kp (ch:=[a]) D.pn (λb o x y z=>q2 b o x (by rwa[<- D.st]) λw=>z (by simp[w])) (λb o x y=>q3 b o x (by rwa[<- D.st])) λb hb=>?_);rw[tK.mp hb];exact⟨(nw a (.inl rfl)).1,(nw a (.inl rfl)).2,oe,vs,he,hd⟩
 |some T =>
  obtain⟨h1,iK,oT,ts,hT,gP,h3⟩:=ht;refine sR (t6 he hd h1 ?_);refine sR (t6 hT gP h3 ?_);rcases qB with rfl|rfl
  .rw[if_neg (show ¬((Value.none==rawInt X.env.locals)=true)from by simp[rawInt])];refine sR (wpAny_setField hT gP (uI.mp h3).1 ?_);have other:∀b,b≠T->(s.heap.update T (Obj.mapFields (·.setIfInBounds 3 Value.none))).get? b=s.heap.get? b:=λb hb=>uc _ _ (Ne.symm hb)
   have rB:T∉frs X.stack:=λhm=>by obtain⟨_,o,ho,gX⟩:=I.stack.mem hm;rw[hT]at ho;injection ho with ho;subst ho;exact gX ts gP
   refine Mv iq (hl.of_keeps λb o hb gX=>⟨o,(other b ((λb o hb gX q=>by rw[q,hT]at hb;injection hb with hb;subst hb;exact gX ts gP) b o hb gX)).trans hb,rfl⟩) D.fr ((other a (Ne.symm iK)).trans he) gQ hd (uI.mp h1).1 λh' T' q1 q2 q3 q4=>?_
   have nT:=I.new D.ex (Heap.get?_none_of_le (by have:(s.heap.update T (Obj.mapFields (·.setIfInBounds 3 Value.none))).objs.size=s.heap.objs.size:=Heap.size_after_update ..;rwa[<- this]));refine h h' T' q4 (λb hb=>hb.elim (λz=>nw b (.inl z)) λz=>by cases z;exact nT) (I.kp (ch:=[a,T]) D.pn (λb o x y z=>?_) (λb o x y=>?_) λb hb=>?_)
   .exact q2 b o ((other b λw=>z (by simp[w])).trans x) (by rwa[<- D.st]) λw=>z (by simp[w])
   .exact q3 b o ((other b λw=>rB (by rwa[<- w])).trans x) (by rwa[<- D.st])
   .have gA:b=a\/some T=some b:=by
     rcases tm.mp hb with z|z
     .exact .inl z
     .exact .inr (by rw[tK.mp z])
    exact⟨(nw b gA).1,(nw b gA).2,e.there b gA⟩
  .rw[if_pos (show(rawInt X.env.locals==rawInt X.env.locals)=true from by simp)];exact sY (h s.heap T e nw I)
theorem EL(iU:X.pn=[])(I:Inv X [] U H s)(e:Ti s.heap a c T fl)(nw:Jat X H a T)
  (h:∀h',Ti h' a c T (f.elim .none λf=>rawInt f)->Inv X [] U H {s with heap:=h' }->Q () {s with heap:=h' }):wpAny M A (setFlight (.ref a) f) Q E s:=by
 obtain⟨oe,vs,he,cF,gQ,hd,ht⟩:=id e;cases T with
 |none =>refine sR (t6 he hd ht ?_);exact sY (h s.heap ⟨oe,vs,he,cF,gQ,hd,ht⟩ I)
 |some T =>
  obtain⟨h1,iK,oT,ts,hT,gP,h3⟩:=ht;have hsz:=(uI.mp h3).1;refine sR (t6 he hd h1 ?_);have other:∀b,b≠T->(s.heap.update T (Obj.mapFields (·.setIfInBounds 3 (f.elim Value.none λf=>rawInt f)))).get? b=s.heap.get? b:=λb hb=>uc _ _ (Ne.symm hb)
  refine wpAny_setField hT gP hsz (h _ ⟨oe,vs,(other a (Ne.symm iK)).trans he,cF,gQ,hd,h1,iK,_,_,uh _ hT (Obj.isFreed_of_fields (Obj.data_mapFields gP _)),Obj.data_mapFields gP _,by simp[hsz]⟩ (I.kp (ch:=[T]) iU (λb o x _ z=>(other b λw=>z (by simp[w])).trans x) (λb o x y=>?_) λb hb=>?_))
  .refine⟨o.slots,(other b λw=>?_).trans x⟩;obtain⟨_,o',cL,gX⟩:=I.stack.mem y;rw[w,hT]at cL;injection cL with cL;subst cL;exact gX ts gP
  .rw[tK.mp hb];exact⟨(nw T (.inr rfl)).1,(nw T (.inr rfl)).2,e.there T (.inr rfl)⟩
abbrev XE:=Value->St->Hp->Prop
def XW(X:Cx)(Z:XE)(e:Value)(s:Shared):Prop:=∃a c T fl U H,e=.ref a/\Inv X [] U H s/\Ti s.heap a c T fl/\(fl=.none\/fl=rawInt X.env.locals)/\Jat X H a T/\Z c U H
noncomputable def CX1(P:Program)(w:World):CXT:=λouter H s E e s'=>∃a c T H',e=.ref a/\s'.os=s.os/\AllBare s'.gens/\Un (frs outer) [] H H' s.heap s'.heap/\HOk P w H' s'.heap/\Ti s'.heap a c T .none /\
 (∀b,b=a\/T=some b->s.heap.get? b=none/\H' b=none)/\E c none H'
variable{Z Z':XE}{e:Value}{s':Shared}{ae:List (Addr×Obj)}
theorem XW.imp(h:XW X Z e s)(k:∀c U H,Z c U H->Z' c U H):XW X Z' e s :=
 let⟨a,c,T,fl,U,H,q1,q2,q3,q4,q5,q6⟩:=h
 ⟨a,c,T,fl,U,H,q1,q2,q3,q4,q5,k _ _ _ q6⟩
theorem XW.Gb(h:XW (X.Gb E) Z e s):XW X Z e s :=
 let⟨a,c,T,fl,U,H,q1,q2,q3,q4,q5,q6⟩:=h
 ⟨a,c,T,fl,U,H,q1,q2.Ei,q3,q4,q5,q6⟩
theorem CX1.xw(D:X.ex=[])(I:Inv X ae U H s)(h:CX1 X.prog X.w X.stack H s (λc _ H'=>Z c U H') e s'):XW X Z e s':=by obtain⟨a,c,T,H',rfl,q1,q2,q3,q4,q5,q6,q7⟩:=h;exact⟨a,c,T,.none,U,H',rfl,(I.Z1 q1 q3 q4 q2 λb z=>absurd z (by simp)).IC λ_ z=>absurd z (by simp),q5,.inl rfl,λb hb=>⟨(I.new D (q6 b hb).1).1,(q6 b hb).2⟩,q7⟩
theorem XW.own(D:Qr X):PassesOwn (model X.prog X.w) X.A X.env (XW X Z):=by
 intro e s' h;obtain⟨a,c,T,fl,U,H,rfl,I,q3,q4,q5,q6⟩:=h;refine Ld D I.ok.frames I q3 q4 q5 λh1 T1 e1 n1 I1=>?_
 obtain⟨oe,vs,he,hc,gQ,hd,ht⟩:=id e1;refine sR (t6 he hd ht.1 ?_);rw[D.fr];exact EL D.pn I1 e1 n1 λh2 e2 I2=>⟨a,c,some T1,rawInt X.env.locals,U,H,rfl,I2,e2,.inr rfl,n1,q6⟩
variable{P:Program}{w:World}{K:Fg}{mg:Str->Option Value}{base:Heap}{N:List Str}{qual:Str}{scope:Scope}{f:Addr}{cd:Value}{outer:List Env}{E:XK}
theorem ZU:Qr (Nz (CX1 P w) P w K mg base N qual scope f cd A outer s H E):=⟨rfl,rfl,rfl,rfl⟩
theorem Jay(h:XW (Nz (CX1 P w) P w K mg base N qual scope f cd A outer s H E) (λc _ H'=>E c none H') e s'):(Nz (CX1 P w) P w K mg base N qual scope f cd A outer s H E).xe e s':=by
 obtain⟨a,c,T,fl,U,H',rfl,I,q3,q4,q5,q6⟩:=h;show wpAny _ _ (leaving (Nz (CX1 P w) P w K mg base N qual scope f cd A outer s H E).env (.ref a)) _ _ s';refine sR (Ld ZU I.ok.frames I q3 q4 q5 λh1 T1 e1 n1 I1=>?_);refine EL rfl I1 e1 n1 λh2 e2 I2=>?_
 exact⟨a,c,some T1,H',rfl,I2.os,I2.bare,I2.base,I2.zZ,e2,n1,q6⟩
def Lk(X:Cx)(Z:XE):Prop:=∀(ae:List (Addr×Obj))(U:St)(H:Hp)(s:Shared)(e:Value)(s':Shared),Inv X ae U H s->CX1 X.prog X.w X.stack H s (λc _ H'=>Z c U H') e s'->X.xe e s'
theorem Lk.of(D:X.ex=[])(k:∀e s,XW X Z e s->X.xe e s):Lk X Z:=λ_ _ _ _ _ _ I h=>k _ _ (CX1.xw D I h)
variable{k:Nat}{C:Addr}{fd:FuncData}{ps:List Str}{sp:Sp}{x m:Str}{p pos aw:Pos}{e o:Expr}{es:List Expr}{ta:TE}{t:TA}
def Xx(sp:Sp)(Z:XE)(t:TA):TE:=λU H Q=>t U H λvs H1=>sp vs H1 Q λc _ H'=>Z c U H'
theorem Oa{Q}(F:EW X.prog X.w X.K X.mg X.base (CX1 X.prog X.w) k f fd ps sp)(hr:DJ k X.A)(hb:Binds X.K fd ps [])(hx:Lk X Z)
  (I:Inv X ae U H s) (r:Vals vs us) (h:sp vs H Q λc _ H'=>Z c U H'):wpAny (model X.prog X.w) X.A (call (.ref f) us) (EP X ae U Q) X.xe s:=by
 have b:=hb s us I.kIn (by rw[ug];exact(by rw[<- r.length];exact F.len _ _ _ _ h));rw[ug]at b;refine wpAny_call (codeAny_mono (F.run X.A X.stack s H ⟨us,[]⟩ us vs Q _ hr I.Jbz b r h) λr s' hq=>?_);cases r with|error e=>exact hx ae U H s e s' I hq|ok fl =>cases fl with|ret u=>exact I.after hq|next=>exact False.elim hq|brk=>exact False.elim hq|cont=>exact False.elim hq
theorem Yh(G:FnAt X.prog X.w X.K X.mg X.base (CX1 X.prog X.w) x k ps sp)(hr:DJ k X.A)(hx:Lk X Z)(ha:PA X (e::es) t)(hg:Gl X x:=by rfl)(bh:(x==("__debug__":Str))=false:=by decide)
  (he:starEach (e::es) X.env=(false,eval e X.env)::starEach es X.env:=by rfl) (aD:(backTo pos (starEach es X.env)).any (·.1)=false:=by rfl):PE X (.Call (.Name x p) (e::es) [] pos) (Xx sp Z t):=by
 obtain⟨f,fd,F,hm,hk,hb⟩:=G.ex;intro ae s U H Q I h;refine wpAny_Call_Name_kw (E7 I hg hm ?_ bh);refine callWith_K I.ok.mod.yR hk (thn (ha pos ae s U H _ I h) λus s1 ⟨vs,H1,I1,r,q⟩=>⟨I1.kIn,?_⟩) he aD;exact Oa F hr hb hx I1 r q
noncomputable def Xh:List Value:=[.type "ValueError",.type "Exception",.type "BaseException",.type "object"]
structure ExC(K:Fg)(mg:Str->Option Value)(x:Str)(C:Addr):Prop where
 at_:mg x=some (.ref C)
 ok:excIn K C Xh "ValueError.__new__"=true
def Xq(C:Addr)(Z:XE)(t:TA):TS:=λ_ U H=>t U H λvs H1=>vs.length<=1000/\Z (.ref C) U H1
theorem ExC.own(c:ExC K mg x C)(X:K.In h):OwnCls x C Xh "ValueError.__new__" mg h:=by
 refine⟨c.at_,?_⟩;have q:=c.ok;unfold excIn at q;split at q
 .rename_i dd cd sl ho;split at q
  .rename_i C' bm k0 k1 k2 k3 n k5 hm hs;simp only[tW,beq_iff_eq,Bool.not_eq_true']at q;obtain⟨⟨⟨⟨⟨rfl,rfl⟩,ll⟩,ht⟩,zZ⟩,lI⟩:=q;obtain⟨nm,bs,mro,ns,qn,hd,sn,sub,ab,col,del⟩:=cd;subst hm ll;have qT:sl=#[k0,k1,k2,k3,some (.builtin "ValueError.__new__"),k5]:=by obtain⟨l⟩:=sl;simp only at hs;rw[hs]
   subst qT;exact⟨bm,ns,nm,qn,bs,hd,sn,sub,ab,col,dd,k0,k1,k2,k3,k5,_,X _ _ ho,.of_isNs (PySem.W.isNs_of_in X zZ),PySem.W.nsMap_none_of_in X zZ lI,PySem.W.tail_of_in X ht⟩
  .cases q
 .cases q
variable{np ax:Pos}
theorem VQ(D:X.ex=[])(I:Inv X ae U H s)(hm:Heap.MadeExcOf s.heap h' a (.ref C) us)(q:Z (.ref C) U H):XW X Z (.ref a) {s with heap:=h' }:=by
 obtain⟨t,ht,_,_⟩:=hm.there;refine⟨a,.ref C,none,.none,U,H,rfl,(I.kept hm.keeps).IC λ_ z=>absurd z (by simp),⟨_,_,ht,rfl,rfl,rfl,rfl⟩,.inl rfl,λb hb=>?_,q⟩;rcases hb with rfl|hb
 .exact I.new D hm.new
 .cases hb
theorem Q3(c:ExC X.K X.mg x C)(D:X.ex=[])(hc:X.calm=true)(hx:∀e s,XW X Z e s->X.xe e s)(ha:PA X (e::es) t)(hg:Gl X x:=by rfl)(bh:(x==("__debug__":Str))=false:=by decide)
  (he:starEach (e::es) X.env=(false,eval e X.env)::starEach es X.env:=by rfl) (aD:(backTo ax (starEach es X.env)).any (·.1)=false:=by rfl) :
  PS X (.Raise (some (.Call (.Name x np) (e::es) [] ax)) none pos) (Xq C Z t):=by
 intro ae s U H D' I h;obtain⟨tl,N,nm,q,bs,hdct,sn,sub,ab,col,dd,k0,k1,k2,k3,k5,mN,hC,hN,lI,T⟩:=(c.own I.ok.mod.yR).obj;refine wpAny_Raise_call_subT (nm:=nm) (q:=q) (N:=N) (bs:=bs) (bm:=tl) (hdct:=hdct) (sn:=sn) (sub:=sub) (ab:=ab) (col:=col) (dd:=dd) (k0:=k0) (k1:=k1) (k2:=k2) (k3:=k3) (k5:=k5)
  PySem.F.excBase_ValueError (mN:=mN) (T.hasType PySem.F.excBase_ValueError.hasBase) (I.ok.hd hc) (by rw[he];show(false||(backTo ax (starEach es X.env)).any (·.1))=false;rw[aD];rfl) lI (E7 I hg c.at_ ⟨rfl,?_⟩ bh)
 have h1:=ha ax ae s U H _ I h;rw[he]at h1 ⊢;refine Calls.evalArgs_plain (thn h1 λus s2 ⟨vs,H1,I1,r,hl,hz⟩=>⟨rfl,?_,I1.bk _ _ hC,hN.keeps I1.bk,T.keeps I1.bk,λh' a hm=>hx _ _ (VQ D I1 hm hz)⟩);rw[<- r.length,sizeLine_eq]
 lia
noncomputable def exO(c:Value)(a:Addr):HO:=.ext λh=>∃o vs,h.get? a=some o/\o.cls=c/\o.dict=none/\o.data=.fields vs
abbrev Cx.hand(X:Cx)(a:Addr):Cx:={X with A:=X.A.mark (some (.ref a)),calm:=false,xe:=λ_ _=>False}
theorem Cx.Ok.hand(ok:X.Ok):(X.hand a).Ok :=
 ⟨ok.mod,ok.kind,ok.glob,ok.blt,ok.above,ok.inj,ok.has,ok.yY,(λz=>nomatch z),ok.frames,ok.yQ,ok.yM,ok.bs,ok.zo,ok.zi,ok.zm,ok.Mr,ok.zb⟩
theorem Inv.hand(I:Inv X ae U H s):Inv (X.hand a) ae U H s:=⟨I.ok.hand,I.os,I.bare,I.base,I.loc,I.cell,I.free,I.zS,I.pin,I.zZ,I.len⟩
theorem Inv.HA(ok:X.Ok)(I:Inv (X.hand a) ae U H s):Inv X ae U H s:=⟨ok,I.os,I.bare,I.base,I.loc,I.cell,I.free,I.zS,I.pin,I.zZ,I.len⟩
theorem Inv.JaB{o}(I:Inv X [] U H s)(iU:X.pn=[])(h0:X.zV.heap.get? a=none)(hn:H a=none)(hf:∃u vs,s.heap.get? a=some u/\u.data=.fields vs)(new:BJ X.prog X.w (upd H a o) s.heap a o):Inv X [] U (upd H a o) s:=by
 obtain⟨u,vs,hu,hd⟩:=hf;refine⟨I.ok,I.os,I.bare,⟨I.base.keep,I.base.slot,λb o e n hx=>?_,I.base.there,λb xs e=>?_,λb o u e=>?_,λb ps e=>?_⟩,I.loc,I.cell,?_,λx c e=>?_,λp hp=>?_,λb u e=>?_,I.len⟩
 .rw[Ap ((λb u e z=>by rw[z,h0]at e;cases e) b o e)];exact I.base.free b o e n hx
 .have q:=I.base.zH b xs e;rwa[Ap (AX q hn)]
 .have q:=I.base.zL b o u e;rwa[Ap (AX q hn)]
 .obtain⟨more,q⟩:=I.base.zI b ps e;exact⟨more,by rwa[Ap (AX q hn)]⟩
 .rw[Ap]
  .exact I.free
  .intro z;obtain⟨m,⟨o',_,_,cL,dM,_⟩,_⟩:=I.loc;rw[z,hu]at cL;cases cL;rw[hd]at dM;cases dM
 .rw[Ap]
  .exact I.zS x c e
  .intro z;obtain⟨v,o',cL,dM⟩:=I.cell x c e;rw[z,hu]at cL;cases cL;rw[hd]at dM;cases dM
 .rw[iU]at hp;cases hp
 .by_cases hb:b=a
  .subst hb;rw[As]at e;cases e;exact new
  .rw[Ap hb]at e;exact(I.zZ b u e).N5 (λ_ _ _ q=>q) (λc q=>by rwa[Ap (AX q hn)]) λc xs q=>by rwa[Ap (AX q hn)]
theorem IU{E}(I:Inv X [] U H s)(iU:X.pn=[])(hN:X.N.Nodup)(hi:X.N[i]?=some n)(hl:X.env.scope.names.lookup n=some .local)
  (h:∀s',Inv X [] (U.set i none) H s'->Q () s'):wpAny M A (do bindName X.env n .none;unbindBehindTheSuite X.env n pos) Q E s:=by
 have cF:(X.env.scope.kind==.class||(X.env.scope.kind==.module&&X.env.locals !=X.env.globals))=false:=by rw[I.ok.kind];rfl
 have hk:X.env.kindOf n=some .local:=hl;refine sR (wpAny_bindName (FH I hN hi (.inl hl) (v:=V.v) rfl (λs1 I1=>?_) (.inr hl)));refine wpAny_onRaise ?_;refine sR (wpAny_point (sR ?_));unfold deleteName;simp only[hk,cF];obtain⟨m,hn,jK⟩:=id I1.loc;have fX:i<U.length:=by rw[I.len];exact(tu.mp hi).1
 have qG:(m n).isSome=true:=by
  obtain⟨u,_,z⟩:=jK i n V.v hi (by rw[uj fX]) (.inl hl);rcases z with⟨_,z⟩|⟨z,_⟩
  .rw[z];rfl
  .rw[hk]at z;rcases z with z|z<;>cases z
 refine sR (wpAny_nsDel_keeps hn λh2 v gD bx=>?_);simp only[qG,if_false];refine sY (wpAny_point ?_);have cne:=I1.cne;have jf:∀b o,X.zV.heap.get? b=some o->b≠X.env.locals:=λb o e=>tU (tw (tf e) I.ok.above)
 have key:Inv X [] (U.set i none) H {s1 with heap:=h2}:=by
  refine⟨I1.ok,I1.os,I1.bare,⟨λb o e n hb hx=>(bx.2 b (jf b o e)).trans (I1.base.keep b o e n hb hx),λb o e n hb hx=>?_,I1.base.free,λb o e hx=>?_,I1.base.zH,I1.base.zL,I1.base.zI⟩,⟨_,gD,λj y v' e1 e2 e3=>?_⟩,λy c e=>?_,I1.free,I1.zS,λp hp=>?_,λb ob e=>?_,by simpa using I1.len⟩
  .obtain⟨sl,e1⟩:=I1.base.slot b o e n hb hx;exact⟨sl,(bx.2 b (jf b o e)).trans e1⟩
  .obtain⟨o',e1⟩:=I1.base.there b o e hx;exact⟨o',(bx.2 b (jf b o e)).trans e1⟩
  .by_cases hj:j=i
   .subst hj;rw[uj fX]at e2;cases e2
   .rw[uk (Ne.symm hj)]at e2;obtain⟨u',r',q⟩:=jK j y v' e1 (by rwa[uk (Ne.symm hj)]) e3;refine⟨u',r',?_⟩;rcases q with⟨k,e⟩|⟨k,c,e,z⟩
    .refine .inl ⟨k,?_⟩;have:y≠n:=λe=>hj (IJ hN e1 (e▸hi))
     simp[this,e]
    .exact .inr ⟨k,c,e,z.sameBut bx (cne y c e)⟩
  .obtain⟨w',z⟩:=I1.cell y c e;exact⟨w',z.sameBut bx (cne y c e)⟩
  .rw[iU]at hp;cases hp
  .refine(I1.zZ b ob e).N5 (λc w' hc q=>(bx.2 c ?_).trans q) (λ_ q=>q) λ_ _ q=>q
   rintro rfl
   rcases hc with rfl|hc
   .rw[I1.free]at e;cases e
   .rw[I1.free]at hc;cases hc
 first
  |exact h _ key
  |exact h _ (key.tok _)
def PS0(X:Cx)(st:Stmt)(t:TS):Prop:=∀(s:Shared)(U:St)(H:Hp)(D:Ends),Inv X [] U H s->t D U H->wpAny (model X.prog X.w) X.A (exec st X.env) (SP X [] D) X.xe s
def Te(X:Cx)(st:List Stmt)(t:TS):Prop:=∀(s:Shared)(U:St)(H:Hp)(D:Ends),Inv X [] U H s->t D U H->wpAny (model X.prog X.w) X.A (execs st X.env) (SP X [] D) X.xe s
variable{st:Stmt}{rest:List Stmt}{t u:TS}
theorem PS.zero(h:PS X st t):PS0 X st t:=λs U H D I q=>h [] s U H D I q
theorem PSs.zero(h:PSs X rest t):Te X rest t:=λs U H D I q=>h [] s U H D I q
theorem Of(h1:PS0 X st t)(h2:Te X rest u):Te X (st::rest) (JbM t u):=by intro s U H D I h;refine wpAny_execs_cons (thn (h1 s U H {D with nx:=u D} I h) λf s1 q=>?_);cases f with|next =>obtain⟨au,H',I',q⟩:=q;exact h2 s1 au H' D I' q|ret v=>exact q|brk=>exact q|cont=>exact q
theorem Te.unw{E}(h:Te (X.Gb E) rest t)(k:∀e s,E e s->X.xe e s):Te X rest t:=λs U H D I hw =>wpAny_mono (h s U H D (I.Gb _) hw) (λ_ _ q=>q.Ei) λe s z=>k e s z
theorem Zk{dV kV di pm aV ct oc:Value}{an od:Option Addr}
  {iC:Array (Option Value)} {N ps:List Str} {sp:Sp} (lk:K.lookup f=some ⟨oc,od,.func (fnOf name qual params body scope dV kV di pm an aV ct),iC⟩) (fm:codeIn K aV qual=true) (S:Jp N ps scope)
  (len:∀vs H Q E,sp vs H Q E->vs.length=ps.length)
  (fW:∀(A:Around)(outer:List Env)(s:Shared)(H:Hp)(vs:List V)(Q:VK)(E:XK),DJ k (A.deeper (envOfC qual scope s.heap.objs.size f aV))->sp vs H Q E ->
   ∃t,Te (Nz CX P w K mg base N qual scope f aV A outer s H E) body t/\t {nx:=λ_ H'=>Q .v H',rt:=Q} (start N vs) H) :
  EW P w K mg base CX (k+1) f (fnOf name qual params body scope dV kV di pm an aV ct) ps sp:=by
 refine⟨len,λA outer s H args us vs Q E hr e0 hb r gE=>?_⟩;have KX:K.In s.heap:=e0.mod.yR.keeps λb o e=>(e0.bs b o e).1
 refine codeAny_call_function hr.depth (KX _ _ lk) rfl S.co S.gen rfl (PySem.W.codeRec_of KX fm) (hb _ _ _ _ ?_);refine wpAny_newFunctionEnv_cells S.kind (λ⟨n,v⟩ hy=>by
  rcases S.par n (List.of_mem_zip hy).1 with q|q
  .exact .inl q
  .exact .inr ⟨q,PySem.W.cellsFrom_some _ _ _ (.inl q)⟩) λenv he s1 x=>?_
 subst he;refine⟨(e0.mod.nolimit.keeps λb o e=>(e0.bs b o e).1).keeps x.toInCall.keep,codeAny_func ?_⟩;obtain⟨t,ht,hq⟩:=fW A outer s H vs Q E (hr.deeper _) gE;have I:Inv (Nz CX P w K mg base N qual scope f aV A outer s H E) [] (start N vs) H s1:=O6 S hr.hd e0 (len _ _ _ _ gE) r x;refine wpAny_mono (ht s1 (start N vs) H _ I hq) (λfl s' hs=>?_) λe s' hs=>hs
 have ba:∀{au:St}{H':Hp}{v:V}{u:Value},Inv (Nz CX P w K mg base N qual scope f aV A outer s H E) [] au H' s'->RelV v u->Q v H'->CE outer P w H s Q u s' :=
  λ{au H' v u} J rv q=>⟨v,H',J.os,J.bare,J.base,J.zZ,rv,q⟩
 cases fl with|ret u =>obtain⟨v,au,H',J,rv,q⟩:=hs;exact ba J rv q|next =>obtain⟨au,H',J,q⟩:=hs;exact ba (v:=V.v) (u:=Value.none) J rfl q|brk =>obtain⟨_,_,_,q⟩:=hs;exact False.elim q|cont =>obtain⟨_,_,_,q⟩:=hs;exact False.elim q
theorem Fun.ok0(F:Fun K x qual st f fd)(S:Jp N ps (Bz st))(len:∀vs H Q E,sp vs H Q E->vs.length=ps.length)
  (fW:∀(aV:Value)(A:Around)(outer:List Env)(s:Shared)(H:Hp)(vs:List V)(Q:VK)(E:XK),DJ k (A.deeper (envOfC qual (Bz st) s.heap.objs.size f aV))->sp vs H Q E ->
   ∃t,Te ((Nz (CX1 P w) P w K mg base N qual (Bz st) f aV A outer s H E).Gb (XW (Nz (CX1 P w) P w K mg base N qual (Bz st) f aV A outer s H E) λc _ H'=>E c none H')) (Et st) t/\t {nx:=λ_ H'=>Q .v H',rt:=Q} (start N vs) H) :
  EW P w K mg base (CX1 P w) (k+1) f fd ps sp:=by
 obtain⟨oc,od,kV,di,pm,an,aV,ct,iC,rfl,lk,fm⟩:=F.ex;refine Zk lk fm S len λA outer s H vs Q E hr gE=>?_
 obtain⟨t,h,q⟩:=fW aV A outer s H vs Q E hr gE;exact⟨t,h.unw λ_ _=>Jay,q⟩
noncomputable def Uq(i:Nat)(D:Ends):Ends:={nx:=λU H=>D.nx (U.set i none) H,rt:=D.rt,bk:=λU H=>D.bk (U.set i none) H,ct:=λU H=>D.ct (U.set i none) H}
def ZTry(K:Fg)(C:Addr)(i:Nat)(th:TS)(D:Ends):XE:=λc U H=>exmOne K c (.ref C)=some true/\∀a,H a=none->th (Uq i D) (U.set i (some (.ref a))) (upd H a (exO c a))
variable{n:Str}{i:Nat}{eF:Pos}{body bD:List Stmt}{cX:Stmt}{tb:Ends->TS}{th:TS}
theorem SP.HA{f}(ok:X.Ok)(h:SP (X.hand a) [] D f s'):SP X [] D f s':=by cases f with|next=>obtain⟨au,H',I,q⟩:=h;exact⟨au,H',I.HA ok,q⟩|brk=>obtain⟨au,H',I,q⟩:=h;exact⟨au,H',I.HA ok,q⟩|cont=>obtain⟨au,H',I,q⟩:=h;exact⟨au,H',I.HA ok,q⟩|ret u=>obtain⟨v,au,H',I,r,q⟩:=h;exact⟨v,au,H',I.HA ok,r,q⟩
theorem UZ(D:Qr X)(hC:X.mg x=some (.ref C))(hN:X.N.Nodup)(hb:∀D,PSs (X.Gb (XW X (ZTry X.K C i th D))) body (tb D))(hs:∀a,PSs (X.hand a) (cX::bD) th)(hi:X.N[i]?=some n:=by rfl)(hl:X.env.scope.names.lookup n=some .local:=by rfl)
  (hg:Gl X x:=by rfl) (bh:(x==("__debug__":Str))=false:=by decide) :
  PS0 X (.Try body [.ExceptHandler (some (.Name x np)) (some n) (cX::bD) eF] [] [] pos) (λD=>tb D D):=by
 intro s U H D' I h;refine wpAny_Try_except (wpAny_mono (hb D' [] s U H D' (I.Gb _) h) (λf s1 q=>?_) λe s1 q=>?_)
 .have q:=q.Ei;cases f with|next=>exact wpAny_execs_nil q|ret v=>exact q|brk=>exact q|cont=>exact q
 .obtain⟨a,c,T,fl,fG,H1,rfl,I1,e1,f1,n1,z1,z2⟩:=q;refine Ld D I1.ok.frames I1 e1 f1 n1 λh2 T2 e2 n2 I2=>?_
  refine EL D.pn I2 e2 n2 λh3 e3 I3=>?_
  refine wpAny_handleBy_cons (codeAny_handlers_test (E7 I3.hand hg hC ?_ bh)) (by intro q;cases q);obtain⟨oe,vs,he,cF,gQ,hd,ht⟩:=id e3;refine PySem.W.Looks.here (PySem.W.exm_one I3.kIn (cF▸(PySem.W.Looks.ld he).andThen .now) z1) ?_;refine codeAny_handlers_suite_as ?_;refine EL D.pn I3 e3 n2 λh4 e4 I4=>?_
  obtain⟨mf,nX,lx,jF,lr,mY,sL⟩:=id e4;have lH:=n2 a (.inl rfl);have I5:Inv X [] fG (upd H1 a (exO c a)) {s1 with heap:=h4}:=I4.JaB D.pn lH.1 lH.2 ⟨mf,nX,lx,mY⟩ ⟨⟨mf,nX,lx,jF,lr,mY⟩,⟨mf,lx⟩,λg1 g2 ⟨o,v,q1,q2⟩ k=>⟨o,v,k o q1,q2⟩⟩;refine FH I5 hN hi (.inl hl) (v:=V.ref a) rfl (λs6 I6=>?_) (.inr hl);refine wpAny_mono (hs a [] s6 _ _ (Uq i D') I6.hand (z2 a lH.2)) (λf s7 q=>?_) λ_ _ z=>False.elim z
  have q:=q.HA I.ok;cases f with
  |next =>obtain⟨au,H',I',q⟩:=q;exact IU I' D.pn hN hi hl λs8 I8=>⟨_,_,I8,q⟩
  |ret u =>obtain⟨v,au,H',I',r,q⟩:=q;exact IU I' D.pn hN hi hl λs8 I8=>⟨v,_,_,I8,r,q⟩
  |brk =>obtain⟨au,H',I',q⟩:=q;exact IU I' D.pn hN hi hl λs8 I8=>⟨_,_,I8,q⟩
  |cont =>obtain⟨au,H',I',q⟩:=q;exact IU I' D.pn hN hi hl λs8 I8=>⟨_,_,I8,q⟩
end L2
namespace PySem.W
open PySem PySem.Spec PySem.Calls PyProof.Rows
variable{prog:Program}{w:World}{A:Around}{E:Value->Shared->Prop}{K:Frag}{x D:Addr}{ox:Obj}
structure ExK(K:Frag)(D:Addr):Prop where
 ga:findIn K (.ref D) "__getattribute__"=some (some (.builtin "BaseException.__getattribute__"))
 gt:findIn K (.ref D) "__getattr__"=some none
 ca:findIn K (.ref D) "__class__"=some (some (.builtin "object.__class__"))
 gs:specialIn K (.builtin "object.__class__") "__get__"=some (some (.builtin "getset_descriptor.__get__"))
 tk:takesIn K (.builtin "object.__class__")=some true
 mo:mroIn K D (.type "object")=some true
 mb:mroIn K D (.type "BaseException")=some true
theorem ExK.find(k:ExK K D)(hc:(clsIn K D).isSome=true):findObj K D none "__class__"=some (.bind (.builtin "getset_descriptor.__get__") (.builtin "object.__class__")):=by obtain⟨cd,hc⟩:=uN.mp hc;unfold findObj;rw[hc,ub,k.ca,ub];simp[k.gs,k.tk]
theorem PD(k:ExK K D)(hc:(clsIn K D).isSome=true)(X:K.In s.heap)(I:InstAt s.heap x ox D none)(h:Q (.done (.ret (.ref D))) s):
  wpAny (model prog w) A (Builtin.«object.__getattribute__» ⟨[.ref x,.str "__class__" tk],[]⟩) Q E s:=by
 repeat (any_goals (first|assumption|with_reducible refine(I.type (M:=model prog w)).at ?_|with_reducible refine(looks_find (M:=model prog w) X I (k.find hc)).at ?_|wp_step))
 exact class_get X I k.mo (sY h)
theorem PJ(k:ExK K D)(X:K.In s.heap)(I:InstAt s.heap x ox D none)(h:Q () s):wpAny M A (checkBuiltinCall "BaseException.__getattribute__" ⟨[.ref x,nameV],[]⟩) Q E s:=by
 have hk:builtinKind "BaseException.__getattribute__"=some .slot:=by decide +kernel
 have iX:splitId "BaseException.__getattribute__"=some ("BaseException","__getattribute__"):=by decide +kernel
 simp only[checkBuiltinCall,hk,iX];refine sR ?_
 repeat (first|with_reducible refine(I.type (M:=M)).at ?_|with_reducible refine(looks_mroIn (M:=M) X k.mb).at ?_|wp_step)
 exact h
theorem SA(k:ExK K D)(hc:(clsIn K D).isSome=true)(X:K.In s.heap)(I:InstAt s.heap x ox D none)(h:R (.ok (.ret (.ref D))) s):
  codeAny (model prog w) A (.call (.builtin "BaseException.__getattribute__") ⟨[.ref x,.str "__class__" tk],[]⟩) R s :=
 codeAny_call_builtin PySem.F.excAttr_ValueError.ga.plain F.entry_bexc_ga (PJ k X I (PD k hc X I h))
theorem ZQ(k:ExK K D)(hc:(clsIn K D).isSome=true)(X:K.In s.heap)(I:InstAt s.heap x ox D none)(h:Q (.ref D) s):
  wpAny (model prog w) A (getAttrBy (.ref x) (.str "__class__" tk) false) Q E s:=by
 have f3:=PySem.F.excAttr_ValueError.ga.bind (.ref x)
 repeat (any_goals (first|assumption|with_reducible refine(I.type (M:=model prog w)).at ?_|with_reducible refine(looks_findIn (M:=model prog w) X k.ga).at ?_|with_reducible refine(looks_findIn (M:=model prog w) X k.gt).at ?_|wp_step))
 refine SA k hc X I ?_
 repeat (any_goals (first|assumption|wp_step))
theorem PH(k:ExK K D)(hc:(clsIn K D).isSome=true)(X:K.In s.heap)(I:InstAt s.heap x ox D none)(h:Q (some (.ref D)) {s with toks:=s.toks+1}):
  wpAny (model prog w) A (getAttr? (.ref x) "__class__") Q E s:=by
 exact sR (wpAny_mkText (sR (wpAny_attempt (ZQ k hc X I (sY h)))))
theorem RE(k:ExK K D)(hc:(clsIn K D).isSome=true):KitX K (.ref x) (.ref D) (λh=>InstAt h x ox D none) where
 ty:=λ_ _ _ I=>I.type
 it:=λ_ _ X _=>by
  unfold clsIn at hc;split at hc
  next c' d' o8 mw ho=>intro A' Q' E' s' k q;exact sR (wpAny_loadPart (k _ _ (X _ _ ho)) (sY q))
  .cases hc
 ne:=λh tp dd ak n sl X qU=>by
  refine Bool.eq_false_iff.mpr λq=>?_
  have e:=Value.ref.inj (beq_iff_eq.mp q);subst e;unfold clsIn at hc;split at hc
  next c' d' o8 mw ho=>cases((X _ _ ho).symm.trans qU)
  .cases hc
 ca:=λX I q=>PH k hc X I q
end PySem.W
namespace L2
open PySem PySem.Spec PyProof.Rows
variable{X:Cx}
theorem Ig:CU X (.builtin "isinstance") (λxs H Q=>∃a D y c b,xs=[.ref a,y]/\(∀u,RelV y u->u=c)/\H a=some (exO (.ref D) a)/\PySem.W.ExK X.K D/\(clsIn X.K D).isSome=true/\kitOne X.K (.ref D) c=some b/\Q (.o b) H):=by
 intro ae s U H xs us Q I r h;obtain⟨a,D,y,c,b,rfl,hy,ha,k,hc,e,q⟩:=h;cases r with
 |cons r1 rr =>
  cases rr with
  |cons r2 rr =>
   cases rr;cases(show _=Value.ref a from r1);cases hy _ r2;obtain⟨⟨o,vs,h1,h2,h3,h4⟩,_⟩:=(show BJ X.prog X.w H s.heap a (exO (.ref D) a)from I.zZ a _ ha)
   exact PySem.W.kia_one (PySem.W.RE k hc) I.kIn (⟨h1,h2,by unfold PySem.W.notCls;rw[h4],by rw[h3];trivial⟩) e (λz=>nomatch z) λtk=>⟨.o b,H,I.tok tk,rfl,q⟩
theorem S6{bs:List Bool}(rv:Vals (bs.map V.o) ak):∀y,y∈ak.toArray->∃b,y=Value.bool b:=by intro y hy;rw[B5 rv]at hy;simp only[List.mem_toArray,t8]at hy;obtain⟨b,_,rfl⟩:=hy;exact⟨b,rfl⟩
noncomputable def isT:Value->Bool
 |.bool b=>b==true
 |_=>false
theorem Uh{bs:List Bool}(rv:Vals (bs.map V.o) ak):∀y,y∈ak.toArray->SeqAt.EqAt A s y (.bool true) (isT y):=λy hy=>by obtain⟨b,rfl⟩:=S6 rv y hy;exact SeqAt.EqAt.bool_bool b true
theorem Rq:MtR X "list.count" (λx vs H Q=>∃(l:Addr)(bs:List Bool),x=.ref l/\vs=[.o true]/\SqL X.K H l (bs.map V.o)/\Q (.int ((bs.countP id:Nat):Int)) H):=by
 intro ae s U H x vs v us Q I rx rv h;obtain⟨l,bs,rfl,rfl,hq,q⟩:=h;cases rx;obtain⟨u,rfl,ru⟩:=rv.one;cases(show u=Value.bool true from ru);obtain⟨ak,rv,⟨⟨cls,dd,data,sl⟩,n,ho,hc,lj,hd⟩,hz⟩:=I.list hq;subst hc lj hd;refine call_meets F.slot_list_count ⟨_,ho,rfl⟩ F.entry_list_count (F.args_list_count_2 _ _) (SeqAt.list_countAt l ak.toArray n none sl (.bool true) isT) ⟨ho,Uh rv,?_⟩;refine⟨.int _,H,I.tok _,⟨_,rfl⟩,?_⟩;have e:ak.toArray.toList.countP isT=bs.countP id:=by rw[(B5 rv)];simp only[List.countP_map];exact List.countP_congr λb _=>by cases b<;>simp[isT]
 rwa[e]
theorem Rp:MtR X "list.index" (λx vs H Q=>∃(l:Addr)(bs:List Bool)(j:Nat),x=.ref l/\vs=[.o true]/\SqL X.K H l (bs.map V.o)/\bs[j]?=some true/\(∀m,m<j->bs[m]?=some false)/\Q (.int ((j:Nat):Int)) H):=by
 intro ae s U H x vs v us Q I rx rv h;obtain⟨l,bs,j,rfl,rfl,hq,hj,lK,q⟩:=h;cases rx;obtain⟨u,rfl,ru⟩:=rv.one;cases(show u=Value.bool true from ru);obtain⟨ak,rv,⟨⟨cls,dd,data,sl⟩,n,ho,hc,lj,hd⟩,hz⟩:=I.list hq;subst hc lj hd;have hb:=B5 rv;subst hb;have qD:=(tu.mp hj).1;rw[sU,sizeLine_eq]at hz;refine call_meets F.slot_list_index ⟨_,ho,rfl⟩ F.entry_list_index (F.args_list_index_2 _ _) (SeqAt.list_indexAt l (bs.map Value.bool).toArray n none sl (.bool true) isT j (by simpa using qD) (by lia) ?_ ?_) ⟨ho,Uh rv,?_⟩
 .have:=(tu.mp hj).2;simp[isT,this]
 .intro m hm qF;have:=(tu.mp (lK m qF)).2;simp[isT,this]
 .exact⟨.int _,H,I.tok _,⟨_,rfl⟩,q⟩
end L2
namespace L2
open PySem PySem.Spec PySem.W PyProof.Rows
theorem ML{l:OpenLaw}{K:Params->Fg}{CX:World->CXT}{sp:Fg->Sp}{x:Str}
  (hn:l.most=some n) (gD:n<=sizeLine) (kq:d.params.defaults=[]) (hr:DJ k callerA)
  (hY:∀(w:World)(h:Heap),YP w h->(K w.params).In h)
  (F:∀(w:World)(mg:Str->Option Value)(fa:Addr)(h:Heap),(K w.params).In h->h.Ns mainGlobals mg->mg d.name=some (.ref fa) ->
   ∃fd:FuncData,(∀(s:Shared)(u:Value),BindsTo s fd ⟨[u],[]⟩ [(x,u)]) /\
    ∀base:Heap,(K w.params).In base->base.Ns mainGlobals mg->EW l.prog w (K w.params) mg base (CX w) k fa fd [x] (sp (K w.params)))
  (gE:∀(K:Fg)(H:Hp)(a:Addr)(ns:List Int),ns.length<=n->CT ns<=2^20->Jas H->SqL K H a (ns.map V.int)->sp K [.ref a] H (λv _=>v=.o true) λ_ _ _=>False)
  (jx:∀(w:World)(H:Hp)(s:Shared)(e:Value)(s':Shared),CX w [] H s (λ_ _ _=>False) e s'->False) :
  WalkO q loose XP YP l.row.toRowW d [] (λf vs=>PySem.call f vs):=by
 intro w zV az mg mb G Y fa o pm cd di dV kV ho hd fm hD jQ hg args vals as fu gU nj jU cj;obtain⟨a,vs,ns,rfl,rfl,lL,hints,hlen⟩:=Att.N8 hn fu jU;have KX:=hY w _ Y;obtain⟨fd,hb,hF⟩:=F w mg fa _ KX G.T.g jQ;refine PySem.W.enter_call (codeAny_mono (RD KX G.T.g G.T.b G.T.builtins G.T.nolimit hg lL hints (tY hlen gD) hr hF hb (λH hO hS=>gE (K w.params) H a ns hlen (by
  have h1:(WData.list (ns.map WData.int)).layable=true:=by unfold WData.layableAll at gU;simpa using gU
  unfold WData.layable at h1;rw[tW]at h1;have h2:=tX h1.2;rwa[<- Ha]) hO hS) λH e s'=>jx w H az e s') λr s' hq=>?_)
 obtain⟨rfl,h2,h3,h4⟩:=hq;exact⟨.inl ⟨.bool true,.bool true,[],rfl,λ_=>rfl,.bool true,Att.Oi l _,λ_=>⟨List.Pairwise.nil,λ_ hm=>(nomatch hm)⟩⟩,h2,h3,h4⟩
theorem KZ{l:OpenLaw}{K:Params->Fg}{as:List Addr}{CX:World->CXT}{sp:Fg->Sp}{x:Str}
  (hn:l.most=some n) (gD:n<=sizeLine) (kq:d.params.defaults=[]) (hr:DJ k callerA)
  (hK:∀P:Params,as=(K P).map (·.1))
  (F:∀(w:World)(mg:Str->Option Value)(fa:Addr)(h:Heap),(K w.params).In h->h.Ns mainGlobals mg->mg d.name=some (.ref fa) ->
   ∃fd:FuncData,(∀(s:Shared)(u:Value),BindsTo s fd ⟨[u],[]⟩ [(x,u)]) /\
    ∀base:Heap,(K w.params).In base->base.Ns mainGlobals mg->EW l.prog w (K w.params) mg base (CX w) k fa fd [x] (sp (K w.params)))
  (gE:∀(K:Fg)(H:Hp)(a:Addr)(ns:List Int),ns.length<=n->CT ns<=2^20->Jas H->SqL K H a (ns.map V.int)->sp K [.ref a] H (λv _=>v=.o true) λ_ _ _=>False)
  (jx:∀(w:World)(H:Hp)(s:Shared)(e:Value)(s':Shared),CX w [] H s (λ_ _ _=>False) e s'->False) :
  WalkX q loose XP (PySem.W.X.obsZ as) (PySem.W.X.valZ K N tk) l.row.toRowW d [] (λf vs=>PySem.call f vs):=by
 intro w zV az mg mb G Y fa o pm cd di dV kV ho hd fm hD jQ hg args vals oY hL fu gU nj jU cj;refine(ML (l:=l) (q:=q) (loose:=loose) (XP:=XP) (YP:=λw h=>(K w.params).In h) (d:=d) (K:=K) (CX:=CX) (sp:=sp) (x:=x) hn gD kq hr (λ_ _ h=>h) F gE jx) w zV az mg mb G ?_ fa o pm cd di dV kV ho hd fm hD jQ hg args vals oY fu gU nj jU cj;have h1:as.map zV.heap.get?=(K w.params).map (λp=>some p.2):=congrArg Prod.fst Y;rw[hK w.params]at h1;exact λa o e=>hL.keeps a o (OO _ h1 a o e)
end L2
namespace L2
open PySem PySem.Spec PyProof.Rows
variable{X:Cx}{k:Nat}{C:Addr}{ps:List Str}{sp:Sp}{Z:XE}{x m:Str}{p pos aw:Pos}{e o:Expr}{es:List Expr}{ta:TE}{t:TA}
def Xt(C:Addr)(m:Str)(sp:Sp)(Z:XE)(ta:TE)(t:TA):TE:=λU H Q=>ta U H λx H1=>∃a dx fs,x=.ref a/\H1 a=some (.ins C dx fs)/\fs.lookup m=none /\
 t U H1 λvs H2=>sp (x::vs) H2 Q λc _ H'=>Z c U H'
theorem TJ(G:W6 X.prog X.w X.K X.mg X.base (CX1 X.prog X.w) C m k ps sp)(hr:DJ k X.A)(hx:Lk X Z)(he:PE X o ta)(ha:PA X (e::es) t)
  (bL:starEach (e::es) X.env=(false,eval e X.env)::starEach es X.env:=by rfl) (aD:(backTo pos (starEach es X.env)).any (·.1)=false:=by rfl)
  (ht:eval (.Call (.Attribute o m aw) (e::es) [] pos) X.env=(do
   let ov <- eval o X.env
   standAt aw.atName
   let(f,first) <- holding [ov] (getMethod ov m pl)
   callWith pos f first (backTo pos (starEach (e::es) X.env)) (backToKw pos (keywordEach [] X.env))):=by rfl) :
  PE X (.Call (.Attribute o m aw) (e::es) [] pos) (Xt C m sp Z ta t):=by
 obtain⟨f,fd,F,hm,hb⟩:=G.ex;intro ae s U H Q I h;refine methodCall_KW (thn (he ae s U H _ I h) λu s1 ao=>?_) ht;obtain⟨x,H1,I1,rx,a,dx,fs,ex,ea,l,q⟩:= ao;subst ex;obtain rfl:u=Value.ref a:=rx;refine HU I1 ea G.cl hm l ?_;refine callWith_K I.ok.mod.yR hm.kp (thn (ha pos ae s1 U H1 _ I1 q) λus s2 ⟨vs,H2,I2,r,q2⟩=>⟨I2.kIn,?_⟩) bL aD;exact Oa (vs:=.ref a::vs) F hr hb hx I2 (.cons rfl r) q2
theorem Yk:Passes (CX1 X.prog X.w) X E0:=λ_ _ _ _ _ _ _ ⟨_,_,_,_,_,_,_,_,_,_,_,q⟩=>q.elim
variable{v:Expr}{a:Str}{j:Nat}{cp fp jp:Pos}
theorem SX(hc:X.calm=true):CU X (.builtin "any") (λxs H Q=>∃(l:Addr)(bs:List Bool),xs=[.ref l]/\SqL X.K H l (bs.map V.o)/\Q (.o (bs.any id)) H):=by
 intro ae s U H xs us Q I r h;obtain⟨l,bs,rfl,hq,q⟩:=h;obtain⟨u,rfl,rx⟩:=vals1 r;cases rx;obtain⟨ak,rv,pl,hz⟩:=I.list hq;have hb:=B5 rv;have hl:=pl.isList;refine call_any_walk (wpAny_pyIter_list hl ?_);refine⟨s.heap.objs.size,[s.heap.objs.size,l],[s.heap.objs.size],ak.toArray.size,_,_,λi=>(bs[i]?).getD false,rfl,Walks.list (A:=X.A.in1) (I.ok.hd hc) _ l (tU (by obtain⟨_,e,_⟩:=hl;exact tf e)) ak.toArray,
  ⟨⟨_,tj _ rfl,rfl,rfl⟩,hl.push _⟩,λi v s' Q' E' hP hQ=>?_,λh' tk hk=>?_⟩
 .have e:=by simpa using hP
  rw[hb,t7]at e;cases eb:bs[i]? with|none=>rw[eb]at e;cases e|some b =>rw[eb]at e;have e':=Option.some.inj e;subst e';simp only[eb]at hQ;exact wpAny_truthy_bool hQ
 .have e:((List.range ak.toArray.size).any λi=>(bs[i]?).getD false)=bs.any id:=by
   have hlen:ak.toArray.size=bs.length:=by rw[hb];simp
   rw[hlen];rw[uC,vd,vd];constructor
   .rintro⟨i,hi,hh⟩
    have gC:=uG.mp hi;exact⟨bs[i],List.getElem_mem gC,by simpa[sV gC]using hh⟩
   .rintro⟨b,hm,hh⟩
    obtain⟨i,hi,rfl⟩:=uV hm;exact⟨i,uG.mpr hi,by simpa[sV hi]using hh⟩
  rw[e];exact⟨.o _,H,I.kept (λb o e=>hk b o (λhm=>by rw[tK.mp hm]at e;exact uf _ (tf e)) (sS _ e)),rfl,q⟩
variable{f:Addr}{fd:FuncData}{ds:List Value}{dX:List V}
theorem DD:fillsNumberSlot (.type "tuple") "mul"=pure false :=
 PySem.fillsNumberSlot_seq F.slot_tuple_mul.lookup (by decide +kernel) F.slot_tuple_rmul.lookup (by decide +kernel)
theorem Fo:seqRepeat? (.type "tuple")=pure (some (.builtin "tuple.__mul__")):=by rfl
theorem Ej(a:Int)(t:Tok)(l:Addr)(items:Array Value)(n:Nat)(dd:Option Addr)(sl:Array (Option Value)):
  Meets (Builtin.«int.__rmul__» ⟨[.int a t,.ref l],[]⟩) (λ_ R s=>s.heap.get? l=some {cls:=.type "tuple",dict:=dd,data:=.seq items n,slots:=sl}/\R (.ok (.ret Value.notImplemented)) s) :=
 .of_wp λprog w A R s h=>by obtain⟨hp,g,d,tk,os⟩:=s;obtain⟨hl,h⟩:=h;wp_walk;exact⟨_,rfl,h⟩
variable{w:Expr}{tb:TE}{a2:Str}{j2:Nat}{kQ qg:Pos}
end L2
namespace L2
open PySem PySem.Spec
def Iti(a:Addr)(o:Obj)(ah:List (Key×V)):It :=
 ⟨λi H=>H a=some (.frz o (.l ah))/\i<ah.length,λi H x H'=>∃T k v,H T=none/\x=.ref T/\H'=upd H T (.tup [kV k,v])/\ah[i]?=some (k,v),λi H=>H a=some (.frz o (.l ah))/\ah.length<=i⟩
theorem KV.at:∀{ah:List (κ×V)}{vs:List (κ×Value)}{i:Nat}{q:κ×Value},KV ah vs->vs[i]?=some q->∃v,ah[i]?=some (q.1,v)/\RelV v q.2
 |_,_,_,_,.nil,e=>by simp at e
 |(k,v)::_,_::_,0,_,.cons h t,e=>by simp at e;subst e;exact⟨v,by simp[<- h.1],h.2⟩
 |_::_,_::_,i+1,_,.cons h t,e=>by obtain⟨v,e1,e2⟩:=KV.at t (by simpa using e);exact⟨v,by simpa using e1,e2⟩
theorem MO(a it:Addr)(o:Obj)(ah:List (Key×V)):Turn P w K (.Tuple fj k0 cg) (Iti a o ah) [it] it (λi h=>∃ok ov,IsItemIter h it a i ah.length (Jby o) ok ov) where
 mem:=by simp
 obj:=λi h st b hb=>by
  have e:=by simpa using hb
  subst e;obtain⟨ok,ov,e⟩:=st;exact⟨_,e,λv z=>nomatch z⟩
 keep:=λi h h' st k=>by obtain⟨ok,ov,e⟩:=st;exact⟨ok,ov,k it (by simp) _ e⟩
 item:=by
  intro X hP hw hK hc i ae s U H E I hf st hg;subst hP hw hK;obtain⟨he,hi⟩:=hg;obtain⟨hd,vs,aU,da⟩:=I.Jbm he;have hl:=aU.length;have gC:i<vs.length:=by lia
  have hx:vs[i]?=some ((vs[i]).1,(vs[i]).2):=sV gC;obtain⟨v,ev,rv⟩:=KV.at aU hx;obtain⟨ok,ov,st⟩:=st;rw[hl]at st;refine wpAny_pyNext_items_item st da hx λkey h' hk eZ k7 aZ fY=>⟨_,rfl,?_⟩
  refine wpAny_letOwnedTupleGo_items eZ λkY kx sb=>?_
  rw[<- hl]at kx;have Il:Inv X ae U (upd H s.heap.objs.size (.tup [kV (vs[i]).1,v])) {s with heap:=s.heap.push {cls:=.type "tuple",data:=.seq #[key,(vs[i]).2]},toks:=s.toks} :=
   I.laid (λb o e=>sS _ e) (tD _) ⟨by show 2<=sizeLine;rw[sizeLine_eq];decide,[key,(vs[i]).2],.cons (XR hk) (.cons rv .nil),⟨_,tj _ rfl,rfl,_,rfl⟩⟩
  have jH:∀b∈[it],KS X ae (upd H s.heap.objs.size (.tup [kV (vs[i]).1,v])) b:=λb hb=>by
   obtain⟨f0,f⟩:=hf b hb;have e:b=it:=by simpa using hb
   subst e;exact⟨by rw[Ap (tU (tf st))];exact f0,f⟩
  exact⟨.ref s.heap.objs.size,_,(Il.Ip (λb o hb e=>by
   have nz:b≠it:=λq=>hb (by simp[q])
   refine sb.extBut _ _ nz ?_;by_cases hbT:b=s.heap.objs.size
   .subst hbT;have e':(s.heap.push {cls:=.type "tuple",data:=.seq #[key,(vs[i]).2]}).get? s.heap.objs.size=some o:=e;rw[tj _ rfl]at e';cases e';exact k7
   .have e':(s.heap.push {cls:=.type "tuple",data:=.seq #[key,(vs[i]).2]}).get? b=some o:=e;rw[Heap.get?_push_ne _ _ _ hbT]at e';exact fY b o nz e') jH),rfl,⟨s.heap.objs.size,_,v,I.zZ.fresh (tD _),rfl,rfl,ev⟩,⟨_,_,kx⟩,λb hb=>(jH b hb).1⟩
 done:=by intro X hP hw hK hc i ae s U H E I hf st hg;subst hP hw hK;obtain⟨he,hi⟩:=hg;obtain⟨hd,vs,aU,da⟩:=I.Jbm he;have hl:=aU.length;obtain⟨ok,ov,st⟩:=st;rw[hl]at st;exact wpAny_pyNext_items_end (I.ok.hd hc) st da (uq (by lia)) λh' eb=>⟨rfl,I.Ip (λb o hb e=>eb b o (λq=>hb (by simp[q])) e) hf⟩
 self:=λA i s Q E st h=>by obtain⟨ok,ov,st⟩:=st;exact PySem.W.kcp_self st h
def YZ(td:TE):TI:=λU H R=>td U H λx H1=>∃a o ah,x=.ref a/\H1 a=some (.frz o (.l ah))/\R (Iti a o ah) H1
theorem Ra(ho:PE X o td)(aO:attributeBase o "items" X.env (eval o X.env)=eval o X.env:=by rfl)(aP:(aw.endLine==ax.line)=true:=by rfl):
  PI X (.Tuple fj k0 cg) (.Call (.Attribute o "items" aw) [] [] ax) (YZ td):=by
 intro ae s U H R I h;refine wpAny_Call_method0_late aO aP (thn (ho ae s U H _ I h) λv s1 ao=>?_);obtain⟨x,H1,I1,r1,a,ob,ah,ex,hd,q⟩:= ao;subst ex;cases r1;obtain⟨hS,vs,aU,da⟩:=I1.Jbm hd;obtain⟨t1,t2,_⟩:=YV I1 (.inl ⟨ah,.inr ⟨ob,hd⟩⟩);refine⟨"dict","dict.items",PySem.F.plainAttrs_dict,PySem.F.slot_dict_items,PySem.F.type_dict_items,t1,t2,Calls.callWith_builtin rfl (PySem.evalArgs_none ?_)⟩;refine call_meetsIn PySem.F.slot_dict_items da.dictOf.typeIs PySem.F.entry_dict_items (PySem.F.args_dict_items_1 _) (meets_dict_items (Bb X.prog X.w) a hS) ⟨⟨vs,da.dictOf⟩,?_⟩;have I2:Inv X ae U H1 {s1 with heap:=s1.heap.push {cls:=.type "dict_items",data:=.fields #[.ref a]} }:=I1.kept λb o e=>sS _ e
 refine wpAny_pyIter_items ⟨_,tj _ rfl,rfl,rfl⟩ (da.push _) ?_;refine⟨_,[_],_,Iti a ob ah,H1,rfl,I2.kept λb o e=>sS _ e,MO a _ ob ah,⟨.none,.none,by rw[aU.length];exact tj _ rfl⟩,λb hb=>?_,q⟩;have e:=tK.mp hb;subst e;exact I2.Sn (tD _) (I2.zZ.fresh (tD _))
end L2
namespace PySem
namespace Zp
theorem Qu:typeLookup (.type "zip") "__getattr__"=pure none:=by rw[typeLookup_type,builtinLookup_eq_fast];kernel_rfl
theorem Qw:typeLookup (.type "zip") "keys"=pure none:=by rw[typeLookup_type,builtinLookup_eq_fast];kernel_rfl
theorem NM:entryFor table "zip.__getattribute__"=some Builtin.«object.__getattribute__» :=
 entryFor_alias (id':="object.__getattribute__") (by kernel_rfl) (by decide +kernel) (by decide +kernel) (by kernel_rfl)
theorem Qv(a:Addr)(vs:Array Value)(u:Tok):
  Meets (Builtin.«object.__getattribute__» ⟨[.ref a,.str "keys" u],[]⟩) (λA R s=>s.heap.get? a=some {cls:=.type "zip",dict:=none,data:=.fields vs,slots:=#[]}/\raisesAttr (.ref a) "keys" A R s) :=
 Meets.of_wp λprog w A R s hs=>by
  obtain⟨hx,hs⟩:=hs;have ng:=Qw
  repeat (any_goals (first|assumption|wp_step))
  try simp only[if_false]
  repeat (any_goals (first|assumption|wp_step))
  exact wpAny_raiseAttrError hs.1 hs.2 (attrMsg_fits (by decide +kernel) (by size_fits))
theorem Qt
  (hx:s.heap.get? a=some {cls:=.type "zip",data:=.fields vs}) (hA:A.handled=none)
  (h:∀h' tk,(∀b o,s.heap.get? b=some o->h'.get? b=some o)->Q none {s with heap:=h',toks:=tk}):wpAny (model prog w) A (getAttr? (.ref a) "keys") Q E s:=by
 obtain⟨hp,g,d,tk,os⟩:=s;have hT:∀mC,(⟨hp,g,d,mC,os⟩:Shared).TypeIs (.ref a) "zip":=λ_=>⟨_,hx,rfl⟩
 have f1:=sub_AttributeError;have f3:=F.slot_zip_getattribute.lookup;have f4:=F.slot_zip_getattribute.bind (.ref a);have f5:=Qu
 repeat (any_goals (first|assumption|exact hT _|((with_reducible show wpAny _ _ (call (Value.builtin "zip.__getattribute__") _ _) _ _ _);refine call_meets F.slot_zip_getattribute (hT _) NM (F.args_zip_getattribute_2 _ _) (Qv a vs _) ⟨hx,hA,λh' mC e nr=>?_⟩)|wp_step))
 obtain⟨t',u',he⟩:=nr.there;unfold getattributeRaised
 repeat (any_goals (first|assumption|wp_step))
 exact h h' mC nr.1
theorem Ko:entryFor table "dict.update.loop"=some Builtin.«dict.update.loop»:=entryFor_of_fast (by kernel_rfl)
theorem JM:plainId "dict.update.loop"=true:=by decide +kernel
variable{prog:Program}{w:World}{A:Around}{E:Value->Shared->Prop}{s:Shared}{z TI TO i1 i2 l1 l2 lo S:Addr}{xs ys:Array Value}{b1 b2:Bool}{R:Result->Shared->Prop}
section
variable{K:Type}[DecidableEq K]{knd:KeyKind prog w K}
theorem QA(hh:A.handled=none)(D:Apart z TI TO i1 i2 l1 l2)(cj:∀b∈[z,TI,TO,i1,i2,l1,l2],b<lo)(fQ:∀b∈[z,TI,TO,i1,i2,l1,l2],b≠S)(iJ:S<lo){ks:List K}(lD:∀(i:Nat)(x:Value),xs[i]?=some x->∃k,ks[i]?=some k/\knd.is k x=true)(hn:xs.size<=sizeLine)(hl:ks.length=xs.size)(res:Value){aI:Heap}
  (hR:∀h' tk,(∀b o,b≠S->b∉[z,TO,i1,i2]->aI.get? b=some o->h'.get? b=some o)->h'.DictOf knd S (merged [] (ks.zip ys.toList))->R (.ok (.ret res)) {s with heap:=h',toks:=tk}) :
  ∀(k i:Nat)(h:Heap)(tk:Nat),min xs.size ys.size-i=k->i<=min xs.size ys.size->Frs b1 b2 h z TI TO i1 i2 l1 l2 lo i->EA b1 h l1 xs->EA b2 h l2 ys->(∀b o,b≠S->b∉[z,TO,i1,i2]->aI.get? b=some o->h.get? b=some o) ->
   h.DictOf knd S (merged [] ((ks.zip ys.toList).take i))->lo<=h.objs.size ->
   codeAny (model prog w) A (.builtin "dict.update.loop" ⟨[.ref S,.ref z,rawInt i,res],[]⟩) R {s with heap:=h,toks:=tk}:=by
 have rC:∀{b a:Addr},b<lo->lo<=a->a≠b:=λ{b a} h1 h2 q=>absurd (tw h1 h2) (by rw[q];exact uf _)
 have zl:(ks.zip ys.toList).length=min xs.size ys.size:=by rw[List.length_zip,hl,uE]
 intro k
 induction k with
 |zero =>
  intro i h tk hk hi bL c1 c2 gd hS kn;refine codeAny_builtin Ko ?_;refine sR (WH (A:=A.in1) hh D bL c1 c2 (by
   rcases Nat.le_total xs.size ys.size with q|q
   .left;rw[uJ];lia
   .right;rw[uJ];lia) λh' he=>?_)
  refine sR (sY (sY (hR h' tk (λb o q1 q2 e=>?_) ?_)))
  .simp only[tm,tO,or_false,not_or]at q2;exact he b o q2.1 q2.2.1 q2.2.2.1 q2.2.2.2 (gd b o q1 (by simp[q2]) e)
  .rw[vf (by lia)]at hS;obtain⟨o,es,ep,ho,r⟩:=hS;exact⟨o,es,ep,he S _ (Ne.symm (fQ _ (by simp))) (Ne.symm (fQ _ (by simp))) (Ne.symm (fQ _ (by simp))) (Ne.symm (fQ _ (by simp))) ho,r⟩
 |succ k ih =>
  intro i h tk hk hi bL c1 c2 gd hS kn;have jO:i<xs.size:=by lia
  have jP:i<ys.size:=by lia
  obtain⟨κ,ek,rl⟩:=lD i _ (um jO);have ez:(ks.zip ys.toList)[i]?=some (κ,ys[i]):=by rw[List.getElem?_zip_eq_some];exact⟨ek,by rw[uT];exact um jP⟩
  refine codeAny_builtin Ko ?_;refine sR (QE (s:={s with heap:=h,toks:=tk}) D bL c1 c2 (um jO) (um jP) kn cj λh' lR o4 o7 ht hz m9=>?_);refine sR (wpAny_holding ?_);refine sR (wpAny_tryCatch ?_);refine sR (wpAny_typeOf (T:="tuple") ⟨_,ht,rfl⟩ ?_);refine sR (wpAny_seqItems ht rfl (sY ?_));refine wpAny_holding (wpAny_dictSet_pairs (s:={s with heap:=h',toks:=tk}) rl (by obtain⟨o,es,ep,ho,r⟩:=hS;exact⟨o,es,ep,m9 S _ (Ne.symm (fQ _ (by simp))) (Ne.symm (fQ _ (by simp))) (Ne.symm (fQ _ (by simp))) (Ne.symm (fQ _ (by simp))) ho,r⟩) (λh2 hd2 sb=>?_) (tY (merged_length_le _ _) (by simp only[List.length_nil,uA];lia)));rw[<- merged_take_succ _ _ _ _ ez]at hd2;have up:∀b o,b≠S->h'.get? b=some o->h2.get? b=some o:=λb o hb e=>sb.extBut b o hb e
  refine sY ⟨plainId_quiet JM _,ih (i+1) h2 (tk+1) (by lia) (by lia) (lR.keep up (λb hb=>fQ b (tH [l1,l2] hb)) iJ) (o4.at λo e=>up _ o (fQ _ (by simp)) e) (o7.at λo e=>up _ o (fQ _ (by simp)) e) (λb o q1 q2 e=>?_) hd2 ?_⟩
  .have q3:=q2;simp only[tm,tO,or_false,not_or]at q3;exact up b o q1 (m9 b o q3.1 q3.2.1 q3.2.2.1 q3.2.2.2 (gd b o q1 q2 e))
  .exact tY kn (uX (tf (up _ _ (rC iJ kn) ht)))
theorem Jh(hh:A.handled=none)(D:Apart z TI TO i1 i2 l1 l2)(hz:IsZip s.heap z TI TO .none)(bu:IsPair s.heap TI (.ref i1) (.ref i2))(bN:∃a b,IsPair s.heap TO a b)(t1:Jt b1 s.heap i1 l1 0)(t2:Jt b2 s.heap i2 l2 0)(c1:EA b1 s.heap l1 xs)(c2:EA b2 s.heap l2 ys)
  (cj:∀b∈[z,TI,TO,i1,i2,l1,l2],b<s.heap.objs.size) {ks:List K} (lD:∀(i:Nat)(x:Value),xs[i]?=some x->∃k,ks[i]?=some k/\knd.is k x=true) (hn:xs.size<=sizeLine) (hl:ks.length=xs.size)
  (hQ:∀h' tk,(∀b o,b∉[z,TO,i1,i2]->s.heap.get? b=some o->h'.get? b=some o)->h'.DictOf knd s.heap.objs.size (merged [] (ks.zip ys.toList))->Q (.ref s.heap.objs.size) {s with heap:=h',toks:=tk}) :
  wpAny (model prog w) A (call (.type "dict") [.ref z]) Q E s:=by
 refine callType_codes (Q₁:=λobj az=>obj=.ref s.heap.objs.size/\az={s with heap:=s.heap.push {cls:=.type "dict",data:=.dict #[]} }) F.kt_called_dict (F.kt_typeCall_dict_1 _) F.entry_dict_init (kt_code_dict_new _ ⟨rfl,rfl⟩) ?_
 rintro obj az ⟨rfl,rfl⟩
 have gW:(s.heap.push {cls:=.type "dict",data:=.dict #[]}).DictOf knd s.heap.objs.size []:=Heap.DictOf.new s.heap;have zX:∀b o,s.heap.get? b=some o->(s.heap.push {cls:=.type "dict",data:=.dict #[]}).get? b=some o:=λb o e=>sS _ e
 refine⟨gW.typeIs,F.args_dict_init_2 _ _,?_⟩;refine sR ?_;refine sR (wpAny_notOrdered_dict gW.typeIs ?_);refine sY ?_;show wpAny _ _ (Builtin.Dict.updateFrom "dict.__init__" s.heap.objs.size (.ref z) [] .none) _ _ _;refine sR (wpAny_typeOf (T:="zip") ⟨_,zX _ _ hz,rfl⟩ ?_);refine sR (Qt (zX _ _ hz) hh λh2 rW k2=>?_);have up:∀b o,s.heap.get? b=some o->h2.get? b=some o:=λb o e=>k2 b o (zX b o e)
 refine sR (wpAny_rule ?_);refine sR (wpAny_pyIter_zip (up _ _ hz) ?_);obtain⟨ta,tb,bN⟩:=bN;have iy:h2.DictOf knd s.heap.objs.size []:=by obtain⟨o,es,ep,ho,r⟩:=gW;exact⟨o,es,ep,k2 _ _ ho,r⟩
 refine sY ⟨plainId_quiet JM _,QA (A:=A.in1) (s:=s) (aI:=h2) (lo:=h2.objs.size) (b1:=b1) (b2:=b2) (xs:=xs) (ys:=ys) (knd:=knd) hh D (λb hb=>tw (cj b hb) (by
  obtain⟨o,es,ep,ho,_⟩:=gW;exact uX (tf (k2 _ _ ho)))) (λb hb=>tU (cj b hb)) (by
  obtain⟨o,es,ep,ho,_⟩:=iy;exact tf ho) lD hn hl .none (λh' tk kp dd=>?_) (min xs.size ys.size) 0 h2 rW rfl (uR _)
  ⟨.inl ⟨rfl,up _ _ hz,ta,tb,up _ _ bN⟩,up _ _ bu,t1.at λo e=>up _ o e,t2.at λo e=>up _ o e⟩ (c1.at λo e=>up _ o e) (c2.at λo e=>up _ o e) (λb o _ _ e=>e) (by simpa[merged]using iy) (tD _)⟩
 exact⟨rfl,hQ h' tk (λb o q e=>kp b o (tU (tf e)) q (up b o e)) dd⟩
end
end Zp
end PySem
namespace L2
open PySem PySem.Spec PyProof.Rows
theorem TX:∀{ks:List Key}{ys:List V}{us:List Value},Vals ys us->KV (ks.zip ys) (ks.zip us)
 | [],_,_,_=>.nil
 |_::_,[],_,.nil=>.nil
 |k::ks,_::_,_::_,.cons r rr=>.cons ⟨rfl,r⟩ (TX rr)
def QI(K:Fg)(ta:TA):TE:=λU H Q=>ta U H λvs H1=>∃(b1:Bool)(a1:Addr)(b2:Bool)(a2:Addr)(ks:List Key)(ys:List V),vs=[.ref a1,.ref a2]/\SqB b1 K H1 a1 (ks.map kV)/\SqB b2 K H1 a2 ys/\ks.Nodup/\ks.length=ys.length/\∀d,H1 d=none->Q (.ref d) (upd H1 d (.l (ks.zip ys)))
theorem M0(hc:X.calm=true)(iP:X.mg "dict"=none)(fq:X.mg "zip"=none)(ha:PA X [a,b] ta)(iO:Gl X "dict":=by rfl)(eE:Gl X "zip":=by rfl)
  (he:starEach [(.Call (.Name "zip" p2) [a,b] [] bf:Expr)] X.env=[(false,eval (.Call (.Name "zip" p2) [a,b] [] bf) X.env)]:=by rfl) (hs:starEach [a,b] X.env=[(false,eval a X.env),(false,eval b X.env)]:=by rfl) (bx:starEach [b] X.env=[(false,eval b X.env)]:=by rfl) :
  PE X (.Call (.Name "dict" p1) [.Call (.Name "zip" p2) [a,b] [] bf] [] fE) (QI X.K ta):=by
 intro ae s U H Q I h;refine wpAny_Call_Name_kw (DR I iO iP boot_dict ?_);refine callWith_type1 ?_ he rfl;refine Calls.spliced_cons ?_;refine wpAny_Call_Name_kw (DR I eE fq boot_zip ?_);refine callWith_type1 (thn (ha bf ae s U H _ I h) λus s1 ao=>?_) (by rw[hs,bx]) (by rw[bx];rfl);obtain⟨vs,H1,I1,r1,q1⟩:= ao;obtain⟨b1,a1,b2,a2,ks,ys,e,hx,hy,nd,ln,q⟩:=q1;subst e;cases r1 with
 |cons r rr =>
  cases rr with
  |cons r' rr =>
   cases rr;cases r;cases r';obtain⟨cG,ml,c1,z1⟩:=I1.sqb hx;obtain⟨aJ,mm,c2,z2⟩:=I1.sqb hy;have e1:=ml.length;have e2:=mm.length;rw[sU]at e1;refine Zp.MD (T1:=Zp.CH b1) (T2:=Zp.CH b2) (C1:=λh=>Zp.EA b1 h a1 cG.toArray) (C2:=λh=>Zp.EA b2 h a2 aJ.toArray) (Zp.Ml b1 a1 cG.toArray) (Zp.Ml b2 a2 aJ.toArray) (λh o c=>Zp.EA.at (b:=b2) c λo e=>sS _ e) c1 c2 ?_;obtain⟨z,TI,TO,i1,i2,ez,g0,g1,g2,g3,g4,D,hz,bu,bN,t1,t2,hk⟩:=Zp.made c1 c2;rw[<- ez];refine Calls.spliced_nil ?_;have mK:Zp.EA b1 (Zp.z5 s1.heap (Zp.CH b1) (Zp.CH b2) a1 a2) a1 cG.toArray:=Zp.EA.at (b:=b1) c1 λo e=>hk _ o e
   have mM:Zp.EA b2 (Zp.z5 s1.heap (Zp.CH b1) (Zp.CH b2) a1 a2) a2 aJ.toArray:=Zp.EA.at (b:=b2) c2 λo e=>hk _ o e
   have mP:∀{b:Bool}{h:Heap}{l:Addr}{xs:Array Value},Zp.EA b h l xs->l<h.objs.size:=λ{b h l xs} c=>by
    cases b
    .obtain⟨o,e,_⟩:=c;exact tf e
    .obtain⟨o,e,_⟩:=c;exact tf e
   refine Zp.Jh (s:={s1 with heap:=Zp.z5 s1.heap (Zp.CH b1) (Zp.CH b2) a1 a2}) (b1:=b1) (b2:=b2) (xs:=cG.toArray) (ys:=aJ.toArray) (knd:=Bb X.prog X.w) (ks:=ks) (I.ok.hd hc) D hz bu ⟨_,_,bN⟩ t1 t2 mK mM (λb hb=>?_) (λi x ex=>?_) (by simp only[sX];lia) (by simp only[sX];lia) λh' tk kp dd=>?_
   .simp only[tm,tO,or_false]at hb;rcases hb with rfl|rfl|rfl|rfl|rfl|rfl|rfl
    .exact tf hz
    .exact tf bu
    .exact tf bN
    .obtain⟨o,e,_⟩:=t1.obj;exact tf e
    .obtain⟨o,e,_⟩:=t2.obj;exact tf e
    .exact mP mK
    .exact mP mM
   .have kX:cG[i]?=some x:=by simpa using ex
    have li:=(tu.mp kX).1;obtain⟨u',hu,ru⟩:=ml.get (i:=i) (sV (by rw[sU];lia));rw[kX]at hu;cases hu;rw[List.getElem_map]at ru;exact⟨_,sV (by lia),Lr ru⟩
   .have gs:s1.heap.objs.size<=(Zp.z5 s1.heap (Zp.CH b1) (Zp.CH b2) a1 a2).objs.size:=tY g0 (uX (tf hz));have zk:((ks.zip aJ).map (·.1))=ks:=by rw[List.map_fst_zip (by lia)]
    rw[merged_nil_of_nodup _ (by simp only;rw[zk];exact nd)]at dd;have fr:=I1.zZ.fresh (a:=(Zp.z5 s1.heap (Zp.CH b1) (Zp.CH b2) a1 a2).objs.size) gs;refine⟨.ref (Zp.z5 s1.heap (Zp.CH b1) (Zp.CH b2) a1 a2).objs.size,upd H1 (Zp.z5 s1.heap (Zp.CH b1) (Zp.CH b2) a1 a2).objs.size (.l (ks.zip ys)),?_,rfl,q _ fr⟩;refine(I1.kept hk).VS (fp:=[z,TO,i1,i2]) kp (λb hb=>?_) (λb u e=>?_) λb u e=>?_
    .have jJ:s1.heap.objs.size<=b:=by simp only[tm,tO,or_false]at hb;rcases hb with rfl|rfl|rfl|rfl<;>assumption
     exact I1.Sn jJ (I1.zZ.fresh jJ)
    .rwa[Ap (λz=>by rw[z,fr]at e;cases e)]
    .by_cases hb:b=(Zp.z5 s1.heap (Zp.CH b1) (Zp.CH b2) a1 a2).objs.size
     .subst hb;rw[As]at e;cases e;refine .inr ⟨tD _,(show BJ X.prog X.w _ h' _ (.l (ks.zip ys))from⟨by rw[List.length_zip];lia,(beq_eq_false_iff_ne.mpr (Ne.symm (tU (tw I1.big gs)))),ks.zip aJ,TX mm,dd⟩)⟩
     .rw[Ap hb]at e;exact .inl e
noncomputable def mxF(b n:Int):Int:=if n>b then n else b
noncomputable def mxD(d:Int):List Int->Int
 | []=>d
 |n::ns=>ns.foldl mxF n
variable{prog:Program}{w:World}{A:Around}{E:Value->Shared->Prop}{s:Shared}{R:Result->Shared->Prop}{I l S:Addr}{kw:List (Str×Value)}{ak:Array Value}
def W7(ak:Array Value)(ns:List Int):Prop:=∀(i:Nat)(v:Value),ak[i]?=some v->∃n t,ns[i]?=some n/\v=.int n t
theorem ON(hh:A.handled=none)(kr:l≠I)(fR:S≠I)(iJ:S≠l)(hn:W7 ak ns)(hz:ns.length=ak.size):
  ∀(r:List Int)(i:Nat)(s:Shared)(b:Int)(t:Tok)(c:Nat),ns.drop i=r->s.heap.IsListIter I l i->s.heap.IsList l ak ->
  s.heap.get? S=some {cls:=.type "list",dict:=none,data:=.seq #[.int b t,.int b t] c,slots:=#[]} ->
  (∀t' h' tk,(∀b o,b≠I->b≠S->s.heap.get? b=some o->h'.get? b=some o)->R (.ok (.ret (.int (r.foldl mxF b) t'))) {s with heap:=h',toks:=tk}) ->
  codeAny (model prog w) A (.builtin "max.loop" ⟨[.ref I,.none,.ref S],kw⟩) R s:=by
 have jR:(toString "max"++toString ".loop":String)="max.loop":=by decide
 intro r
 induction r with
 |nil =>
  intro i s b t c hr bj hl hS hR;refine codeAny_builtin F.entry_max_loop ?_;refine sR (wpAny_seqItems hS rfl ?_);have hi:ak[i]?=none:=by
   rw[uJ];have:=List.drop_eq_nil_iff.mp hr
   lia
  refine sR (wpAny_tryCatch (wpAny_pyNext_list_end hh bj hl hi λh' ik=>?_));have dZ:=ik S _ fR hS;refine sR ?_;refine wpAny_updateSeq dZ rfl (sR (wpAny_letGo (sY ?_)));exact hR t _ s.toks λb o iL ja e=>(uc _ _ (Ne.symm ja)).trans (ik b o iL e)
 |cons n r ih =>
  intro i s b t c hr bj hl hS hR;have hi:i<ak.size:=by
   have:i<ns.length:=by apply Decidable.byContradiction;intro h;rw[List.drop_eq_nil_iff.mpr (by lia)]at hr;cases hr
   lia
  obtain⟨n',u,en,ev⟩:=hn i _ (um hi);have e0:ns[i]?=some n:=by have:=congrArg (λl=>l[0]?) hr;simpa using this
  rw[e0]at en;cases en;have ni:ns.drop (i+1)=r:=by have:=congrArg List.tail hr;simpa using this
  refine codeAny_builtin F.entry_max_loop ?_;refine sR (wpAny_seqItems hS rfl ?_);refine sR (wpAny_tryCatch (wpAny_pyNext_list_item bj hl (x:=ak[i]) (by simp[hi]) λh' gT aZ=>?_));have dZ:=aZ.extBut S _ fR hS;have jK:=hl.extBut aZ.extBut kr;rw[ev];show wpAny _ A.in1 (tryCatch (holding [Value.int n u,Value.int n u] (richCompare .Gt (.int n u) (.int b t) >>= _)) _ >>= _) _ _ _;refine sR (wpAny_tryCatch (wpAny_holding (sR (richCompare_gives (typeIs_int _ _ u) (typeIs_int _ _ t) F.slot_int_gt F.entry_int_gt (F.args_int_gt_2 _ _) (gives_int_gt _ _ u t) (λx=>nomatch x) ?_))));refine sR (wpAny_holding (wpAny_truthy_bool ?_));refine sR (wpAny_letGo (sY ?_));have ef:(n::r).foldl mxF b=r.foldl mxF (mxF b n):=rfl;rw[ef]at hR;cases hb:decide (n>b)with
  |true =>
   have gA:mxF b n=n:=if_pos (tX hb);rw[gA]at hR;refine sR ?_;refine wpAny_updateSeq dZ rfl (sR (wpAny_letGo ?_));have up:∀b o,b≠S->h'.get? b=some o->(h'.update S (Obj.mapSeq (λ_=>#[.int n u,.int n u]))).get? b=some o:=λb o hb e=>(uc _ _ (Ne.symm hb)).trans e
   refine sY ⟨plainId_quiet F.plain_max_loop _,ih (i+1) _ n u _ ni (gT.at λo e=>up _ o (Ne.symm fR) e) (jK.at λo e=>up _ o (Ne.symm iJ) e) (uh _ dZ rfl) λt' ju gp fZ=>?_⟩;exact hR t' ju gp λb o iL ja e=>fZ b o iL ja (up b o ja (aZ.extBut b o iL e))
  |false =>have gA:mxF b n=b:=if_neg (of_decide_eq_false hb);rw[gA]at hR;refine sR (wpAny_letGo ?_);refine sY ⟨plainId_quiet F.plain_max_loop _,ih (i+1) _ b t c ni gT jK dZ λt' ju gp fZ=>?_⟩;exact hR t' ju gp λb o iL ja e=>fZ b o iL ja (aZ.extBut b o iL e)
theorem Qk(a v:Value):argsOk "max" ⟨[a],[(Str.ofString "default",v)]⟩:=by unfold argsOk;kernel_rfl
theorem P9(hh:A.handled=none)(hl:s.heap.IsList l ak)(hn:W7 ak ns)(hz:ns.length=ak.size)
  (hQ:∀t' h' tk,(∀b o,s.heap.get? b=some o->h'.get? b=some o)->Q (.int (mxD d ns) t') {s with heap:=h',toks:=tk}) :
  wpAny (model prog w) A (call (.builtin "max") [.ref l] [(Str.ofString "default",.int d td)]) Q E s:=by
 have jR:(toString "max"++toString ".loop":String)="max.loop":=by decide
 refine kmb_tree F.kind_max F.plain_max F.entry_max (Qk _ _) ?_;refine sR (wpAny_of_eq (show Builtin.Builtins.bindParams "max" ["key","default"] 0 ⟨[],[(Str.ofString "default",.int d td)]⟩=pure [none,some (.int d td)]from by rfl) ?_);refine sR (sY ?_);refine sR (wpAny_pyIter_list hl ?_);refine sR (wpAny_newObj_type ?_);have jN:l<s.heap.objs.size:=by obtain⟨o,e,_⟩:=hl;exact tf e
 have fR:¬ @Eq Nat (s.heap.objs.size+1) s.heap.objs.size:=by lia
 have ex:(s.heap.push {cls:=.type "list_iterator",data:=.fields #[.ref l,.int 0 0]}).objs.size=s.heap.objs.size+1:=uw ..;have iJ:(s.heap.push {cls:=.type "list_iterator",data:=.fields #[.ref l,.int 0 0]}).objs.size≠l:=λe=>by
  have h2:@LT.lt Nat _ l s.heap.objs.size:=jN
  lia
 have fR:(s.heap.push {cls:=.type "list_iterator",data:=.fields #[.ref l,.int 0 0]}).objs.size≠s.heap.objs.size:=λe=>by rw[ex]at e;exact fR e
 have kr:l≠s.heap.objs.size:=tU jN;have kp:∀b o,s.heap.get? b=some o->b≠s.heap.objs.size/\b≠(s.heap.push {cls:=.type "list_iterator",data:=.fields #[.ref l,.int 0 0]}).objs.size/\((s.heap.push {cls:=.type "list_iterator",data:=.fields #[.ref l,.int 0 0]}).push {cls:=.type "list",data:=.seq #[]}).get? b=some o:=λb o e=>by
  have h1:@LT.lt Nat _ b s.heap.objs.size:=tf e;refine⟨tU h1,λz=>?_,sS _ (sS _ e)⟩;have e:@Eq Nat _ _:=z
  lia
 generalize hS0:(s.heap.push {cls:=.type "list_iterator",data:=.fields #[.ref l,.int 0 0]}).objs.size=S at *;have hS:((s.heap.push {cls:=.type "list_iterator",data:=.fields #[.ref l,.int 0 0]}).push {cls:=.type "list",data:=.seq #[]}).get? S=some {cls:=.type "list",data:=.seq #[]}:=by rw[<- hS0];exact tj _ rfl
 have bj:((s.heap.push {cls:=.type "list_iterator",data:=.fields #[.ref l,.int 0 0]}).push {cls:=.type "list",data:=.seq #[]}).IsListIter s.heap.objs.size l 0:=⟨_,sS _ (tj _ rfl),rfl,rfl⟩
 have b0:((s.heap.push {cls:=.type "list_iterator",data:=.fields #[.ref l,.int 0 0]}).push {cls:=.type "list",data:=.seq #[]}).IsList l ak:=(hl.push _).push _;refine sY ⟨plainId_quiet F.plain_max_loop _,codeAny_builtin F.entry_max_loop ?_⟩;refine sR (wpAny_seqItems hS rfl ?_);cases ns with
 |nil =>
  have hi:ak[0]?=none:=by
   rw[uJ];simp at hz
   lia
  refine sR (wpAny_tryCatch (wpAny_pyNext_list_end hh bj b0 hi λh' ik=>?_));refine sR (wpAny_rule (sY ?_));exact hQ td h' s.toks λb o e=>ik b o (kp b o e).1 (kp b o e).2.2
 |cons n r =>
  have hi:0<ak.size:=by simp at hz;lia
  obtain⟨n',u,en,ev⟩:=hn 0 _ (um hi);cases en;refine sR (wpAny_tryCatch (wpAny_pyNext_list_item bj b0 (x:=ak[0]) (by simp[hi]) λh' gT aZ=>?_));have dZ:=aZ.extBut S _ fR hS;rw[ev];show wpAny _ A.in1 (updateSeq S (λ_=>#[Value.int n u,Value.int n u]) >>= _) _ _ _;refine sR ?_;refine wpAny_updateSeq dZ rfl ?_;have up:∀b o,b≠S->h'.get? b=some o->(h'.update S (Obj.mapSeq (λ_=>#[.int n u,.int n u]))).get? b=some o:=λb o hb e=>(uc _ _ (Ne.symm hb)).trans e
  refine sY ⟨plainId_quiet F.plain_max_loop _,ON hh kr fR iJ hn hz r 1 _ n u _ rfl (gT.at λo e=>up _ o (Ne.symm fR) e) ((b0.extBut aZ.extBut kr).at λo e=>up _ o (Ne.symm iJ) e) (uh _ dZ rfl) λt' ju gp fZ=>?_⟩;exact hQ t' ju gp λb o e=>fZ b o (kp b o e).1 (kp b o e).2.1 (up b o (kp b o e).2.1 (aZ.extBut b o (kp b o e).1 (kp b o e).2.2))
def JaF(K:Fg)(d:Int)(ta:TA):TE:=λU H Q=>ta U H λvs H1=>∃(l:Addr)(ns:List Int),vs=[.ref l]/\SqL K H1 l (ns.map V.int)/\Q (.int (mxD d ns)) H1
theorem RK(r:Vals (ns.map V.int) us):W7 us.toArray ns:=λi v e=>by
 have e':=by simpa using e
 have hl:=r.length;rw[sU]at hl;have hi:=(tu.mp e').1;obtain⟨u,hu,ru⟩:=r.get (i:=i) (sV (by rw[sU];lia));rw[e']at hu;cases hu;rw[List.getElem_map]at ru;obtain⟨t,rfl⟩:=ru;exact⟨_,t,sV (by lia),rfl⟩
theorem Va(hc:X.calm=true)(hm:X.mg "max"=none)(ha:PA X [a] ta)(hg:Gl X "max":=by rfl)
  (he:starEach [a] X.env=[(false,eval a X.env)]:=by rfl) :
  PE X (.Call (.Name "max" p) [a] [⟨some "default",.Constant (.int d) j cp,kp⟩] pos) (JaF X.K d ta):=by
 intro ae s U H Q I h;refine wpAny_Call_Name_kw (DR I hg hm boot_max ?_);refine callWith_kw ?_ (by rw[he];rfl) (by rw[he];rfl) rfl rfl;refine thn (ha pos ae s U H _ I h) λus s1 ao=>?_
 obtain⟨vs,H1,I1,r1,l,ns,e,hl,q⟩:= ao;subst e;obtain⟨u,rfl,rx⟩:=vals1 r1;cases rx;refine thn (U5 (L5) X6 pos ae s1 U H1 (λzs H2=>zs=[.int d]/\H2=H1) I1 ⟨rfl,rfl⟩) λws s2 ao=>?_
 obtain⟨zs,H2,I2,rz,ez,eH⟩:= ao;subst ez eH;obtain⟨u2,rfl,t2,rfl⟩:=vals1 rz;obtain⟨ak,rv,pl,hz⟩:=I2.list hl;have lG:=rv.length;rw[sU]at lG;refine P9 (I.ok.hd hc) pl.isList (RK rv) (by rwa[sX]) λt' h' tk k=>⟨.int (mxD d ns),H2,I2.kept k,⟨t',rfl⟩,q⟩
theorem MP(l:Addr)(x:Value)(n:Nat)(u:Tok)(dd:Option Addr)(sl:Array (Option Value)):
  Meets (Builtin.«tuple.__mul__» ⟨[.ref l,.int 2 u],[]⟩) (λ_ R s=>s.heap.get? l=some {cls:=.type "tuple",dict:=dd,data:=.seq #[x] n,slots:=sl}/\R (.ok (.ret (Value.ref s.heap.objs.size))) {s with heap:=s.heap.push {cls:=Value.type "tuple",data:=Data.seq #[x,x]},toks:=s.toks}) :=
 .of_wp λprog w A R s h=>by obtain⟨hp,g,d,tk,os⟩:=s;obtain⟨hl,h⟩:=h;have f1:=AutoSeq1.idx_int;wp_walk using wpAny_loadPart' hl;exact⟨_,rfl,h⟩
theorem MQ(l:Addr)(x:Value)(n:Nat)(u:Tok)(dd:Option Addr)(sl:Array (Option Value)):
  Meets (Builtin.«tuple.__mul__» ⟨[.ref l,.int 1 u],[]⟩) (λ_ R s=>s.heap.get? l=some {cls:=.type "tuple",dict:=dd,data:=.seq #[x] n,slots:=sl}/\R (.ok (.ret (Value.ref l))) s) :=
 .of_wp λprog w A R s h=>by obtain⟨hp,g,d,tk,os⟩:=s;obtain⟨hl,h⟩:=h;have f1:=AutoSeq1.idx_int;wp_walk using wpAny_loadPart' hl;exact⟨_,rfl,h⟩
theorem Ou:OpR X (binaryOp .Mult) (λx y H Q=>∃a v,x=.ref a/\SqT X.K H a [v]/\((y=.int 1/\Q (.ref a) H)\/(y=.int 2/\∀p,H p=none->Q (.ref p) (upd H p (.tup [v,v]))))):=by
 intro ae s U H x y v u Q I rx ry h;obtain⟨a,z,rfl,ha,q⟩:=h;cases rx;obtain⟨ak,r1,p1,_⟩:=I.tuple ha;obtain⟨w,rfl,nR⟩:=vals1 r1;obtain⟨⟨cls,dd,data,sl⟩,ho,hc,n,hd⟩:=id p1;subst hc hd;rcases q with⟨rfl,q⟩|⟨rfl,q⟩
 .obtain⟨t',rfl⟩:=ry;refine wpAny_binaryOp_repeat_ref (by decide) ⟨_,ho,rfl⟩ (λs'=>typeIs_int s' 1 t') DD PySem.F.fills_int_mul slot_int_rmul Fo PySem.F.slot_int_index.lookup
   (call_meets slot_int_rmul (typeIs_int s 1 t') PySem.F.entry_int_rmul (PySem.F.args_int_rmul_2 _ _) (Ej 1 t' a _ n dd sl)
    ⟨ho,rfl,⟨_,ho,rfl⟩,call_meets PySem.F.slot_tuple_mul ⟨_,ho,rfl⟩ PySem.F.entry_tuple_mul (PySem.F.args_tuple_mul_2 _ _) (MQ a w n t' dd sl) ⟨ho,?_⟩⟩)
  exact⟨.ref a,H,I,rfl,q⟩
 .obtain⟨t',rfl⟩:=ry;refine wpAny_binaryOp_repeat_ref (by decide) ⟨_,ho,rfl⟩ (λs'=>typeIs_int s' 2 t') DD PySem.F.fills_int_mul slot_int_rmul Fo PySem.F.slot_int_index.lookup
   (call_meets slot_int_rmul (typeIs_int s 2 t') PySem.F.entry_int_rmul (PySem.F.args_int_rmul_2 _ _) (Ej 2 t' a _ n dd sl)
    ⟨ho,rfl,⟨_,ho,rfl⟩,call_meets PySem.F.slot_tuple_mul ⟨_,ho,rfl⟩ PySem.F.entry_tuple_mul (PySem.F.args_tuple_mul_2 _ _) (MP a w n t' dd sl) ⟨ho,?_⟩⟩)
  refine⟨.ref s.heap.objs.size,_,I.laid (λb ob q=>sS _ q) (tD _) ?_,rfl,q _ (I.zZ.fresh (tD _))⟩;exact⟨by rw[sizeLine_eq];show 2<=_;decide,[w,w],.cons nR (.cons nR .nil),IsTup.new _ _⟩
def Itw(K:Fg)(a:Addr)(n:Nat):It :=
 ⟨λi H=>i<n/\∃xs x,SqT K H a xs/\xs[n-1-i]?=some x,λi H x H'=>H'=H/\∀xs,SqT K H a xs->xs[n-1-i]?=some x,λi _=>n<=i⟩
theorem NQ{K:Fg}(a it:Addr)(n:Nat)(bV:a≠it):Turn P w K tg (Itw K a n) [it] it (λi h=>i<=n/\Rv.Is h it a ((n:Int)-1-i)) where
 mem:=by simp
 obj:=λi h st b hb=>by
  have e:=by simpa using hb
  subst e;obtain⟨_,o,e,c,d⟩:=st;exact⟨o,e,λv z=>by rw[d]at z;cases z⟩
 keep:=λi h h' st k=>⟨st.1,st.2.at λo e=>k it (by simp) o e⟩
 item:=by
  intro X hP hw hK hc i ae s U H E I hf st hg;subst hP hw hK;obtain⟨hi,xs,x,hq,hx⟩:=hg;obtain⟨ak,rv,p,hz⟩:=I.tuple hq;obtain⟨u,hu,ru⟩:=rv.get hx;have lG:=rv.length;obtain⟨f0,f1,f2,f3,f4,f5⟩:=hf it (by simp);have e:(n:Int)-1-i=((n-1-i:Nat):Int):=by lia
  have i6:=st.2;rw[e]at i6;refine Rv.next_item i6 p (by rw[sX];lia) (by simpa using hu) bV λh' tk sM eZ sb=>?_
  obtain⟨o,e,c,d⟩:=id eZ;exact⟨u,rfl,R7 e c d (by decide) ⟨x,H,(I.turned (λb o hb e=>(sb.2 b hb).trans e) f0 f1 f3 f4 f5),ru,⟨rfl,λys hy=>by rwa[I.Gd hy hq]⟩,⟨by lia,by
   have e2:(n:Int)-1-((i+1:Nat):Int)=((n-1-i:Nat):Int)-1:=by lia
   rwa[e2]⟩,λb hb=>(hf b hb).1⟩⟩
 done:=by
  intro X hP hw hK hc i ae s U H E I hf st hg;have hg:n<=i:=hg;obtain⟨f0,f1,f2,f3,f4,f5⟩:=hf it (by simp);have e:(n:Int)-1-i=-1:=by have:=st.1;lia
  have i6:=st.2;rw[e]at i6;exact Rv.next_end (I.ok.hd hc) i6 λh' eb=>⟨rfl,I.turned (λb o hb e=>eb b o hb e) f0 f1 f3 f4 f5⟩
 self:=λ_ _ _ _ _ st h=>Rv.J7 st.2 h
def Jbb(K:Fg)(ta:TE):TI:=λU H R=>ta U H λx H1=>∃a xs,x=.ref a/\SqT K H1 a xs/\R (Itw K a xs.length) H1
theorem U6{ta:TE}(fq:X.mg "reversed"=none)(ha:PE X a ta)(eE:Gl X "reversed":=by rfl)(gR:starEach [a] X.env=[(false,eval a X.env)]:=by rfl):
  PI X tg (.Call (.Name "reversed" p2) [a] [] bf) (Jbb X.K ta):=by
 intro ae s U H R I h;refine wpAny_Call_Name_kw (DR I eE fq boot_reversed ?_);refine callWith_type1 ?_ gR rfl;rw[gR];refine Calls.spliced_cons (thn (ha ae s U H _ I h) λu s1 ao=>?_);obtain⟨x,H1,I1,r1,l,ys,ex,hq,q⟩:= ao;subst ex;cases r1;obtain⟨ak,rv,pl,hz⟩:=I1.tuple hq;have hlen:=rv.length;refine Calls.spliced_nil (Rv.SW (by rw[sX];lia) pl λtk=>?_);have bj:Rv.Is (s1.heap.push (Rv.obj l ((ak.toArray.size:Int)-1))) s1.heap.objs.size l ((ak.toArray.size:Int)-1):=⟨_,tj _ rfl,rfl,rfl⟩
 refine Rv.J7 bj ?_;refine⟨s1.heap.objs.size,[s1.heap.objs.size],_,_,H1,rfl,(I1.kept λb o e=>sS _ e),NQ l _ ys.length (tU pl.lt),⟨uR _,?_⟩,λb hb=>?_,q⟩
 .have e:(ys.length:Int)-1-((0:Nat):Int)=(ak.toArray.size:Int)-1:=by rw[sX,hlen];lia
  rwa[e]
 .rw[show b=s1.heap.objs.size by simpa using hb];exact(I1.Sn (tD _) (I1.zZ.fresh (tD _)))
end L2
namespace FL
open PySem PySem.Spec L2
inductive T where
 |v|o (b:Bool)|int (i:Int)|str (x:Str)
 |tup (ts:List T)|lst (ts:List T)
 |zU (ts:List T)
 |l (ks:List Key) (ts:List T)|dT (ks:List (List Key)) (ts:List T)
 |ins (C:Addr) (fs:List Str) (ts:List T)
 |dF (ks:List Key) (ts:List T)
 |zT (c:Str)
inductive FO where
 |lst (ts:List T)|l (ks:List Key) (ts:List T)|dT (ks:List (List Key)) (ts:List T)
 |ins (C:Addr) (fs:List Str) (os:List FO)|val (t:T)
 |yW (os:List FO)|yU (os:List FO)
 |dO (ks:List Key) (os:List FO)|la (p:Addr) (ts:List T)
inductive Sl where
 |val (t:T)|own (o:FO)|bor (o:FO)
abbrev FS:=List (Option Sl)
inductive Rv where
 |t (t:T)|nw (o:FO)|n (i:Nat)
inductive Out(α:Type) where
 |ok (a:α) (fs:FS)|exc (c:Str) (fs:FS)|bad
inductive SO where
 |nx (fs:FS)|ret (r:Rv) (fs:FS)|brk (fs:FS)|cnt (fs:FS)|exc (c:Str) (fs:FS)|bad
structure Wd where
 f:Addr->Prop
 p:Addr->Prop
instance:CoeFun Wd λ_=>Addr->Prop:=⟨Wd.f⟩
structure Le(F:Wd)(H:Hp)(F':Wd)(H':Hp):Prop where
 f:∀a,F a->F' a/\H' a=H a
 p:∀a,F.p a->F'.p a/\H' a=H a
theorem Le.refl:Le F H F H:=⟨λ_ h=>⟨h,rfl⟩,λ_ h=>⟨h,rfl⟩⟩
theorem Le.trans(x:Le F H F1 H1)(y:Le F1 H1 F2 H2):Le F H F2 H2 :=
 ⟨λa h=>let⟨p,q⟩:=x.f a h;let⟨p2,q2⟩:=y.f a p;⟨p2,q2.trans q⟩,λa h=>let⟨p,q⟩:=x.p a h;let⟨p2,q2⟩:=y.p a p;⟨p2,q2.trans q⟩⟩
section
variable(K:Fg)
def KL(a:Addr)(vs:List V):Prop:=∃(o:Obj)(ak:Array Value)(n:Nat),K.lookup a=some o/\o.cls=.type "list"/\o.dict=none/\o.data=.seq ak n/\ak.size<=sizeLine/\Vals vs ak.toList
def StL(F:Wd)(H:Hp)(a:Addr)(vs:List V):Prop:=(F a/\Rd H a (.lst vs))\/KL K a vs
def StT(F:Wd)(H:Hp)(a:Addr)(vs:List V):Prop:=K=K/\F a/\H a=some (.tup vs)
end
variable{F':Wd}{H':Hp}{a:Addr}{vs:List V}
section
variable{K:Fg}{F:Wd}{H:Hp}
theorem StL.sq(h:StL K F H a vs):SqL K H a vs:=by
 rcases h with⟨_,h⟩|h
 .exact .inl h
 .exact .inr h
theorem StT.sq(h:StT K F H a vs):SqT K H a vs:=SqT.of h.2.2
theorem Rd.same(h:Rd H a u)(e:H' a=H a):Rd H' a u:=by unfold Rd at *;rwa[e]
theorem StL.le(h:StL K F H a vs)(l:Le F H F' H'):StL K F' H' a vs:=by
 rcases h with⟨f,h⟩|h
 .exact .inl ⟨(l.f a f).1,FL.Rd.same h (l.f a f).2⟩
 .exact .inr h
theorem StT.le(h:StT K F H a vs)(l:Le F H F' H'):StT K F' H' a vs:=⟨rfl,(l.f a h.2.1).1,(l.f a h.2.1).2.trans h.2.2⟩
end
noncomputable def Dl(K:Fg)(c:Str):Option Addr:=match nsIn K mainGlobals c with|some (some (.ref C))=>some C|_=>none
section
variable(K:Fg)(F:Wd)(H:Hp)
mutual
def Bf:T->V->Prop
 |.v,v=>v=.v
 |.o b,v=>v=.o b
 |.int i,v=>v=.int i
 |.str x,v=>v=.str x
 |.tup ts,v=>∃a vs,v=.ref a/\StT K F H a vs/\Al ts vs
 |.lst ts,v=>∃a vs,v=.ref a/\F a/\H a=some (.lst vs)/\Al ts vs
 |.zU ts,v=>∃a vs,v=.ref a/\StL K F H a vs/\Al ts vs
 |.l ks ts,v=>∃a ah,v=.ref a/\F a/\Rd H a (.l ah)/\ah.map (·.1)=ks/\Al ts (ah.map (·.2))
 |.dT ks ts,v=>∃a ah,v=.ref a/\F a/\H a=some (.dT ah)/\ah.map (·.1)=ks/\Al ts (ah.map (·.2))
 |.ins C fs ts,v=>∃a dx ah,v=.ref a/\F a/\H a=some (.ins C dx ah)/\ah.map (·.1)=fs/\Al ts (ah.map (·.2))
 |.dF ks ts,v=>∃a ah,v=.ref a/\F a/\(∃o,H a=some (.frz o (.l ah)))/\ah.map (·.1)=ks/\Al ts (ah.map (·.2))
 |.zT c,v=>∃a C,v=.ref a/\F a/\H a=some (exO (.ref C) a)/\Dl K c=some C
def Al:List T->List V->Prop
 | [],vs=>vs=[]
 |t::ts,vs=>∃v r,vs=v::r/\Bf t v/\Al ts r
end
mutual
def A8:FO->V->List Addr->Prop
 |.val t,v,L=>L=[]/\Bf K F H t v
 |.lst ts,v,L=>∃a vs,v=.ref a/\H a=some (.lst vs)/\Al K F H ts vs/\L=[a]
 |.l ks ts,v,L=>∃a ah,v=.ref a/\H a=some (.l ah)/\ah.map (·.1)=ks/\Al K F H ts (ah.map (·.2))/\L=[a]
 |.dT ks ts,v,L=>∃a ah,v=.ref a/\H a=some (.dT ah)/\ah.map (·.1)=ks/\Al K F H ts (ah.map (·.2))/\L=[a]
 |.ins C fs os,v,L=>∃a dx ah L',v=.ref a/\H a=some (.ins C dx ah)/\ah.map (·.1)=fs/\AK os (ah.map (·.2)) L'/\L=a::L'
 |.yW os,v,L=>∃a vs L',v=.ref a/\H a=some (.lst vs)/\AK os vs L'/\L=a::L'
 |.yU os,v,L=>∃a vs L',v=.ref a/\H a=some (.tup vs)/\AK os vs L'/\L=a::L'
 |.dO ks os,v,L=>∃a ah L',v=.ref a/\H a=some (.l ah)/\ah.map (·.1)=ks/\AK os (ah.map (·.2)) L'/\L=a::L'
 |.la p ts,v,L=>∃vs,v=.ref p/\H p=some (.lst vs)/\Al K F H ts vs/\L=[p]
def AK:List FO->List V->List Addr->Prop
 | [],vs,L=>vs=[]/\L=[]
 |o::os,vs,L=>∃v r L1 L2,vs=v::r/\A8 o v L1/\AK os r L2/\L=L1++L2
end
mutual
noncomputable def toT:FO->T
 |.val t=>t
 |.lst ts=>.lst ts
 |.l ks ts=>.l ks ts
 |.dT ks ts=>.dT ks ts
 |.ins C fs os=>.ins C fs (NI os)
 |.yW os=>.lst (NI os)
 |.yU os=>.tup (NI os)
 |.dO ks os=>.l ks (NI os)
 |.la _ ts=>.lst ts
noncomputable def NI:List FO->List T
 | []=>[]
 |o::os=>toT o::NI os
end
def AA:FS->St->List Addr->Prop
 | [],U,L=>U=[]/\L=[]
 |none::r,U,L=>∃v au,U=v::au/\AA r au L
 |some (.val t)::r,U,L=>∃v au,U=some v::au/\Bf K F H t v/\AA r au L
 |some (.own o)::r,U,L=>∃v au L1 L2,U=some v::au/\A8 K F H o v L1/\AA r au L2/\L=L1++L2
 |some (.bor o)::r,U,L=>∃v au L1 L2,U=some v::au/\A8 K F H o v L1/\AA r au L2/\L=L1++L2
end
variable{K:Fg}{F:Wd}{H:Hp}
mutual
theorem Bf.le(l:Le F H F' H'):∀{t:T}{v:V},Bf K F H t v->Bf K F' H' t v
 |.v,_,h=>h
 |.o _,_,h=>h
 |.int _,_,h=>h
 |.str _,_,h=>h
 |.tup ts,_,h=>by obtain⟨a,vs,e,s,r⟩:=h;exact⟨a,vs,e,s.le l,Al.le l r⟩
 |.lst ts,_,h=>by obtain⟨a,vs,e,f,s,r⟩:=h;exact⟨a,vs,e,(l.f a f).1,(l.f a f).2.trans s,Al.le l r⟩
 |.zU ts,_,h=>by obtain⟨a,vs,e,s,r⟩:=h;exact⟨a,vs,e,s.le l,Al.le l r⟩
 |.l ks ts,_,h=>by obtain⟨a,ah,e,f,s,k,r⟩:=h;exact⟨a,ah,e,(l.f a f).1,FL.Rd.same s (l.f a f).2,k,Al.le l r⟩
 |.dT ks ts,_,h=>by obtain⟨a,ah,e,f,s,k,r⟩:=h;exact⟨a,ah,e,(l.f a f).1,(l.f a f).2.trans s,k,Al.le l r⟩
 |.ins C fs ts,_,h=>by obtain⟨a,dx,ah,e,f,s,k,r⟩:=h;exact⟨a,dx,ah,e,(l.f a f).1,(l.f a f).2.trans s,k,Al.le l r⟩
 |.dF ks ts,_,h=>by obtain⟨a,ah,e,f,⟨o,s⟩,k,r⟩:=h;exact⟨a,ah,e,(l.f a f).1,⟨o,(l.f a f).2.trans s⟩,k,Al.le l r⟩
 |.zT c,_,h=>by obtain⟨a,C,e,f,s,k⟩:=h;exact⟨a,C,e,(l.f a f).1,(l.f a f).2.trans s,k⟩
theorem Al.le(l:Le F H F' H'):∀{ts:List T}{vs:List V},Al K F H ts vs->Al K F' H' ts vs
 | [],_,h=>h
 |t::ts,_,h=>by obtain⟨v,r,e,h1,h2⟩:=h;exact⟨v,r,e,Bf.le l h1,Al.le l h2⟩
end
theorem Al.len:∀{ts:List T}{vs:List V},Al K F H ts vs->vs.length=ts.length
 | [],_,h=>by simp only[Al]at h;subst h;rfl
 |t::ts,_,h=>by obtain⟨v,r,rfl,_,h2⟩:=h;simp[Al.len h2]
theorem Al.at:∀{ts:List T}{vs:List V}{i:Nat}{t:T},Al K F H ts vs->ts[i]?=some t->∃v,vs[i]?=some v/\Bf K F H t v
 | [],_,_,_,_,e=>by simp at e
 |t::ts,_,0,_,h,e=>by obtain⟨v,r,rfl,h1,_⟩:=h;simp at e;subst e;exact⟨v,rfl,h1⟩
 |t::ts,_,i+1,_,h,e=>by obtain⟨v,r,rfl,_,h2⟩:=h;obtain⟨u,e1,e2⟩:=Al.at h2 (by simpa using e);exact⟨u,by simpa using e1,e2⟩
theorem Al.app:∀{ts us:List T}{vs ws:List V},Al K F H ts vs->Al K F H us ws->Al K F H (ts++us) (vs++ws)
 | [],_,_,_,h,h'=>by simp only[Al]at h;subst h;exact h'
 |t::ts,us,_,ws,h,h'=>by obtain⟨v,r,rfl,h1,h2⟩:=h;show Al K F H (t::(ts++us)) (v::(r++ws));exact⟨v,r++ws,rfl,h1,Al.app h2 h'⟩
theorem Al.one(h:Bf K F H t v):Al K F H [t] [v]:=by exact⟨v,[],rfl,h,rfl⟩
theorem Al.take:∀{ts:List T}{vs:List V}(n:Nat),Al K F H ts vs->Al K F H (ts.take n) (vs.take n)
 | [],_,n,h=>by simp only[Al]at h;subst h;simp[Al]
 |t::ts,_,0,h=>by simp[Al]
 |t::ts,_,n+1,h=>by obtain⟨v,r,rfl,h1,h2⟩:=h;exact⟨v,_,rfl,h1,Al.take n h2⟩
theorem Al.drop:∀{ts:List T}{vs:List V}(n:Nat),Al K F H ts vs->Al K F H (ts.drop n) (vs.drop n)
 | [],_,n,h=>by simp only[Al]at h;subst h;simp[Al]
 |t::ts,_,0,h=>by simpa using h
 |t::ts,_,n+1,h=>by obtain⟨v,r,rfl,h1,h2⟩:=h;exact Al.drop n h2
theorem Al.set(q:Bf K F H t v):∀{ts:List T}{vs:List V}(n:Nat),Al K F H ts vs->Al K F H (ts.set n t) (vs.set n v)
 | [],_,n,h=>by simp only[Al]at h;subst h;simp[Al]
 |u::ts,_,0,h=>by obtain⟨w,r,rfl,h1,h2⟩:=h;exact⟨v,r,rfl,q,h2⟩
 |u::ts,_,n+1,h=>by obtain⟨w,r,rfl,h1,h2⟩:=h;exact⟨w,_,rfl,h1,Al.set q n h2⟩
theorem Al.rev:∀{ts:List T}{vs:List V},Al K F H ts vs->Al K F H ts.reverse vs.reverse
 | [],_,h=>by simp only[Al]at h;subst h;simp[Al]
 |t::ts,_,h=>by obtain⟨v,r,rfl,h1,h2⟩:=h;rw[uS,uS];exact Al.app (Al.rev h2) (Al.one h1)
mutual
theorem A8.le(l:Le F H F' H'):∀{o:FO}{v:V}{L:List Addr},(∀a∈L,H' a=H a)->A8 K F H o v L->A8 K F' H' o v L
 |.val t,_,L,k,h=>by exact⟨h.1,h.2.le l⟩
 |.lst ts,_,L,k,h=>by obtain⟨a,vs,e,s,r,rfl⟩:=h;exact⟨a,vs,e,(k a (by simp)).trans s,r.le l,rfl⟩
 |.l ks ts,_,L,k,h=>by obtain⟨a,vs,e,s,q,r,rfl⟩:=h;exact⟨a,vs,e,(k a (by simp)).trans s,q,r.le l,rfl⟩
 |.dT ks ts,_,L,k,h=>by obtain⟨a,vs,e,s,q,r,rfl⟩:=h;exact⟨a,vs,e,(k a (by simp)).trans s,q,r.le l,rfl⟩
 |.ins C fs os,_,L,k,h=>by obtain⟨a,dx,ah,L',e,s,q,r,rfl⟩:=h;exact⟨a,dx,ah,L',e,(k a (by simp)).trans s,q,AK.le l (λb hb=>k b (sZ _ hb)) r,rfl⟩
 |.yW os,_,L,k,h=>by obtain⟨a,vs,L',e,s,r,rfl⟩:=h;exact⟨a,vs,L',e,(k a (by simp)).trans s,AK.le l (λb hb=>k b (sZ _ hb)) r,rfl⟩
 |.yU os,_,L,k,h=>by obtain⟨a,vs,L',e,s,r,rfl⟩:=h;exact⟨a,vs,L',e,(k a (by simp)).trans s,AK.le l (λb hb=>k b (sZ _ hb)) r,rfl⟩
 |.dO ks os,_,L,k,h=>by obtain⟨a,ah,L',e,s,q,r,rfl⟩:=h;exact⟨a,ah,L',e,(k a (by simp)).trans s,q,AK.le l (λb hb=>k b (sZ _ hb)) r,rfl⟩
 |.la p ts,_,L,k,h=>by obtain⟨vs,e,s,r,rfl⟩:=h;exact⟨vs,e,(k p (by simp)).trans s,r.le l,rfl⟩
theorem AK.le(l:Le F H F' H'):∀{os:List FO}{vs:List V}{L:List Addr},(∀a∈L,H' a=H a)->AK K F H os vs L->AK K F' H' os vs L
 | [],_,L,k,h=>h
 |o::os,_,L,k,h=>by obtain⟨v,r,L1,L2,e,h1,h2,rfl⟩:=h;exact⟨v,r,L1,L2,e,A8.le l (λa ha=>k a (tH _ ha)) h1,AK.le l (λa ha=>k a (tB _ ha)) h2,rfl⟩
end
mutual
theorem A8.def:∀{o:FO}{v:V}{L:List Addr},A8 K F H o v L->∀a∈L,H a≠none
 |.val t,_,L,h,a,m=>by rw[h.1]at m;cases m
 |.lst ts,_,L,h,a,m=>by obtain⟨b,vs,e,s,r,rfl⟩:=h;rw[tK.mp m,s];simp
 |.l ks ts,_,L,h,a,m=>by obtain⟨b,vs,e,s,q,r,rfl⟩:=h;rw[tK.mp m,s];simp
 |.dT ks ts,_,L,h,a,m=>by obtain⟨b,vs,e,s,q,r,rfl⟩:=h;rw[tK.mp m,s];simp
 |.ins C fs os,_,L,h,a,m=>by
  obtain⟨b,dx,ah,L',e,s,q,r,rfl⟩:=h;rcases tm.mp m with m|m
  .rw[m,s];simp
  .exact AK.def r a m
 |.yW os,_,L,h,a,m=>by
  obtain⟨b,vs,L',e,s,r,rfl⟩:=h;rcases tm.mp m with m|m
  .rw[m,s];simp
  .exact AK.def r a m
 |.yU os,_,L,h,a,m=>by
  obtain⟨b,vs,L',e,s,r,rfl⟩:=h;rcases tm.mp m with m|m
  .rw[m,s];simp
  .exact AK.def r a m
 |.dO ks os,_,L,h,a,m=>by
  obtain⟨b,vs,L',e,s,q,r,rfl⟩:=h;rcases tm.mp m with m|m
  .rw[m,s];simp
  .exact AK.def r a m
 |.la p ts,_,L,h,a,m=>by obtain⟨vs,e,s,r,rfl⟩:=h;rw[tK.mp m,s];simp
theorem AK.def:∀{os:List FO}{vs:List V}{L:List Addr},AK K F H os vs L->∀a∈L,H a≠none
 | [],_,L,h,a,m=>by rw[h.2]at m;cases m
 |o::os,_,L,h,a,m=>by
  obtain⟨v,r,L1,L2,e,h1,h2,rfl⟩:=h;rcases tE.mp m with m|m
  .exact A8.def h1 a m
  .exact AK.def h2 a m
end
mutual
theorem A8.frz(l:Le F H F' H):∀{o:FO}{v:V}{L:List Addr},(∀a∈L,F' a)->A8 K F H o v L->Bf K F' H (toT o) v
 |.val t,_,L,k,h=>by exact Bf.le l h.2
 |.lst ts,_,L,k,h=>by obtain⟨a,vs,e,s,r,rfl⟩:=h;exact⟨a,vs,e,k a (by simp),s,Al.le l r⟩
 |.l ks ts,_,L,k,h=>by obtain⟨a,vs,e,s,q,r,rfl⟩:=h;exact⟨a,vs,e,k a (by simp),.inl s,q,Al.le l r⟩
 |.dT ks ts,_,L,k,h=>by obtain⟨a,vs,e,s,q,r,rfl⟩:=h;exact⟨a,vs,e,k a (by simp),s,q,Al.le l r⟩
 |.ins C fs os,_,L,k,h=>by obtain⟨a,dx,ah,L',e,s,q,r,rfl⟩:=h;exact⟨a,dx,ah,e,k a (by simp),s,q,AK.frz l (λb hb=>k b (sZ _ hb)) r⟩
 |.yW os,_,L,k,h=>by obtain⟨a,vs,L',e,s,r,rfl⟩:=h;exact⟨a,vs,e,k a (by simp),s,AK.frz l (λb hb=>k b (sZ _ hb)) r⟩
 |.yU os,_,L,k,h=>by obtain⟨a,vs,L',e,s,r,rfl⟩:=h;exact⟨a,vs,e,⟨rfl,k a (by simp),s⟩,AK.frz l (λb hb=>k b (sZ _ hb)) r⟩
 |.dO ks os,_,L,k,h=>by obtain⟨a,ah,L',e,s,q,r,rfl⟩:=h;exact⟨a,ah,e,k a (by simp),.inl s,q,AK.frz l (λb hb=>k b (sZ _ hb)) r⟩
 |.la p ts,_,L,k,h=>by obtain⟨vs,e,s,r,rfl⟩:=h;exact⟨p,vs,e,k p (by simp),s,Al.le l r⟩
theorem AK.frz(l:Le F H F' H):∀{os:List FO}{vs:List V}{L:List Addr},(∀a∈L,F' a)->AK K F H os vs L->Al K F' H (NI os) vs
 | [],_,L,k,h=>by exact h.1
 |o::os,_,L,k,h=>by obtain⟨v,r,L1,L2,e,h1,h2,rfl⟩:=h;exact⟨v,r,e,A8.frz l (λa ha=>k a (tH _ ha)) h1,AK.frz l (λa ha=>k a (tB _ ha)) h2⟩
end
theorem AA.len:∀{fs:FS}{U:St}{L:List Addr},AA K F H fs U L->U.length=fs.length
 | [],_,_,h=>by simp only[AA]at h;rw[h.1];rfl
 |none::r,_,_,h=>by obtain⟨v,au,rfl,h⟩:=h;simp[AA.len h]
 |some (.val t)::r,_,_,h=>by obtain⟨v,au,rfl,_,h⟩:=h;simp[AA.len h]
 |some (.own t)::r,_,_,h=>by obtain⟨v,au,L1,L2,rfl,_,h,_⟩:=h;simp[AA.len h]
 |some (.bor t)::r,_,_,h=>by obtain⟨v,au,L1,L2,rfl,_,h,_⟩:=h;simp[AA.len h]
theorem AA.le(l:Le F H F' H'):∀{fs:FS}{U:St}{L:List Addr},(∀a∈L,H' a=H a)->AA K F H fs U L->AA K F' H' fs U L
 | [],_,_,k,h=>h
 |none::r,_,_,k,h=>by obtain⟨v,au,e,h⟩:=h;exact⟨v,au,e,AA.le l k h⟩
 |some (.val t)::r,_,_,k,h=>by obtain⟨v,au,e,q,h⟩:=h;exact⟨v,au,e,q.le l,AA.le l k h⟩
 |some (.own t)::r,_,_,k,h=>by obtain⟨v,au,L1,L2,e,q,h,rfl⟩:=h;exact⟨v,au,L1,L2,e,q.le l λa ha=>k a (tH _ ha),AA.le l (λa ha=>k a (tB _ ha)) h,rfl⟩
 |some (.bor t)::r,_,_,k,h=>by obtain⟨v,au,L1,L2,e,q,h,rfl⟩:=h;exact⟨v,au,L1,L2,e,q.le l λa ha=>k a (tH _ ha),AA.le l (λa ha=>k a (tB _ ha)) h,rfl⟩
theorem AA.def:∀{fs:FS}{U:St}{L:List Addr},AA K F H fs U L->∀a∈L,H a≠none
 | [],_,_,h,a,m=>by simp only[AA]at h;rw[h.2]at m;cases m
 |none::r,_,_,h,a,m=>by obtain⟨v,au,e,h⟩:=h;exact AA.def h a m
 |some (.val t)::r,_,_,h,a,m=>by obtain⟨v,au,e,q,h⟩:=h;exact AA.def h a m
 |some (.own t)::r,_,_,h,a,m=>by
  obtain⟨v,au,L1,L2,e,q,h,rfl⟩:=h;rcases tE.mp m with m|m
  .exact q.def a m
  .exact AA.def h a m
 |some (.bor t)::r,_,_,h,a,m=>by
  obtain⟨v,au,L1,L2,e,q,h,rfl⟩:=h;rcases tE.mp m with m|m
  .exact q.def a m
  .exact AA.def h a m
def Qp(K:Fg)(F:Wd)(H:Hp):Option Sl->Option V->List Addr->Prop
 |none,_,L=>L=[]
 |some (.val t),v,L=>∃u,v=some u/\Bf K F H t u/\L=[]
 |some (.own o),v,L=>∃u,v=some u/\A8 K F H o u L
 |some (.bor o),v,L=>∃u,v=some u/\A8 K F H o u L
theorem AA.cons(h1:Qp K F H s v L1)(h2:AA K F H r U L2):AA K F H (s::r) (v::U) (L1++L2):=by cases s with|none =>subst h1;exact⟨v,U,rfl,h2⟩|some s =>cases s with|val t =>obtain⟨u,rfl,q,rfl⟩:=h1;exact⟨u,U,rfl,q,h2⟩|own o =>obtain⟨u,rfl,q⟩:=h1;exact⟨u,U,L1,L2,rfl,q,h2,rfl⟩|bor o =>obtain⟨u,rfl,q⟩:=h1;exact⟨u,U,L1,L2,rfl,q,h2,rfl⟩
theorem AA.HB(h:AA K F H (s::r) U L):∃v au L1 L2,U=v::au/\Qp K F H s v L1/\AA K F H r au L2/\L=L1++L2:=by cases s with|none =>obtain⟨v,au,rfl,h⟩:=h;exact⟨v,au,[],L,rfl,rfl,h,rfl⟩|some s =>cases s with|val t =>obtain⟨v,au,rfl,q,h⟩:=h;exact⟨some v,au,[],L,rfl,⟨v,rfl,q,rfl⟩,h,rfl⟩|own o =>obtain⟨v,au,L1,L2,rfl,q,h,rfl⟩:=h;exact⟨some v,au,L1,L2,rfl,⟨v,rfl,q⟩,h,rfl⟩|bor o =>obtain⟨v,au,L1,L2,rfl,q,h,rfl⟩:=h;exact⟨some v,au,L1,L2,rfl,⟨v,rfl,q⟩,h,rfl⟩
theorem AA.pick:∀{fs:FS}{U:St}{L:List Addr}{i:Nat}{s:Option Sl},AA K F H fs U L->fs[i]?=some s->∃v L1 L2 L3,U[i]?=some v/\L=L1++(L2++L3)/\Qp K F H s v L2 /\
  ∀(F':Wd)(H':Hp)(s':Option Sl)(v':Option V)(ji:List Addr),Le F H F' H'->(∀a∈L1++L3,H' a=H a)->Qp K F' H' s' v' ji->AA K F' H' (fs.set i s') (U.set i v') (L1++(ji++L3))
 | [],_,_,_,_,_,e=>by simp at e
 |s::r,_,_,0,_,h,e=>by obtain⟨v,au,L1,L2,rfl,h1,h2,rfl⟩:=h.HB;simp at e;subst e;refine⟨v,[],L1,L2,rfl,rfl,h1,λF' H' s' v' ji l k q=>?_⟩;have h3:=AA.cons q (h2.le l λa ha=>k a (by simpa using ha));exact h3
 |s::r,_,_,i+1,_,h,e=>by
  obtain⟨v,au,L1,L2,rfl,h1,h2,rfl⟩:=h.HB;obtain⟨w,M1,M2,M3,e1,rfl,h3,h4⟩:=AA.pick h2 (by simpa using e);refine⟨w,L1++M1,M2,M3,by simpa using e1,by simp,h3,λF' H' s' v' ji l k q=>?_⟩;have h6:Qp K F' H' s v L1:=by cases s with|none=>exact h1|some s =>cases s with|val t =>obtain⟨u,e,q,z⟩:=h1;exact⟨u,e,q.le l,z⟩|own o =>obtain⟨u,e,q⟩:=h1;exact⟨u,e,q.le l λa ha=>k a (by simp[ha])⟩|bor o =>obtain⟨u,e,q⟩:=h1;exact⟨u,e,q.le l λa ha=>k a (by simp[ha])⟩
  have h7:=AA.cons h6 (h4 F' H' s' v' ji l (λa ha=>k a (by simp at ha ⊢;rcases ha with ha|ha;exact .inr (.inl ha);exact .inr (.inr ha))) q);simpa using h7
mutual
theorem Bf.wp:∀{t:T}{v:V},Bf K F H t v->Bf K ⟨F.f,p⟩ H t v
 |.v,_,h=>h
 |.o _,_,h=>h
 |.int _,_,h=>h
 |.str _,_,h=>h
 |.tup ts,_,h=>by obtain⟨a,vs,e,s,r⟩:=h;exact⟨a,vs,e,s,Al.wp r⟩
 |.lst ts,_,h=>by obtain⟨a,vs,e,f,s,r⟩:=h;exact⟨a,vs,e,f,s,Al.wp r⟩
 |.zU ts,_,h=>by obtain⟨a,vs,e,s,r⟩:=h;exact⟨a,vs,e,s,Al.wp r⟩
 |.l ks ts,_,h=>by obtain⟨a,ah,e,f,s,k,r⟩:=h;exact⟨a,ah,e,f,s,k,Al.wp r⟩
 |.dT ks ts,_,h=>by obtain⟨a,ah,e,f,s,k,r⟩:=h;exact⟨a,ah,e,f,s,k,Al.wp r⟩
 |.ins C fs ts,_,h=>by obtain⟨a,dx,ah,e,f,s,k,r⟩:=h;exact⟨a,dx,ah,e,f,s,k,Al.wp r⟩
 |.dF ks ts,_,h=>by obtain⟨a,ah,e,f,s,k,r⟩:=h;exact⟨a,ah,e,f,s,k,Al.wp r⟩
 |.zT c,_,h=>by obtain⟨a,C,e,f,s,k⟩:=h;exact⟨a,C,e,f,s,k⟩
theorem Al.wp:∀{ts:List T}{vs:List V},Al K F H ts vs->Al K ⟨F.f,p⟩ H ts vs
 | [],_,h=>h
 |t::ts,_,h=>by obtain⟨v,r,e,h1,h2⟩:=h;exact⟨v,r,e,Bf.wp h1,Al.wp h2⟩
end
mutual
theorem A8.wp:∀{o:FO}{v:V}{L:List Addr},A8 K F H o v L->A8 K ⟨F.f,p⟩ H o v L
 |.val t,_,L,h=>by exact⟨h.1,h.2.wp⟩
 |.lst ts,_,L,h=>by obtain⟨a,vs,e,s,r,q⟩:=h;exact⟨a,vs,e,s,r.wp,q⟩
 |.l ks ts,_,L,h=>by obtain⟨a,vs,e,s,q,r,z⟩:=h;exact⟨a,vs,e,s,q,r.wp,z⟩
 |.dT ks ts,_,L,h=>by obtain⟨a,vs,e,s,q,r,z⟩:=h;exact⟨a,vs,e,s,q,r.wp,z⟩
 |.ins C fs os,_,L,h=>by obtain⟨a,dx,ah,L',e,s,q,r,z⟩:=h;exact⟨a,dx,ah,L',e,s,q,AK.wp r,z⟩
 |.yW os,_,L,h=>by obtain⟨a,vs,L',e,s,r,z⟩:=h;exact⟨a,vs,L',e,s,AK.wp r,z⟩
 |.yU os,_,L,h=>by obtain⟨a,vs,L',e,s,r,z⟩:=h;exact⟨a,vs,L',e,s,AK.wp r,z⟩
 |.dO ks os,_,L,h=>by obtain⟨a,vs,L',e,s,q,r,z⟩:=h;exact⟨a,vs,L',e,s,q,AK.wp r,z⟩
 |.la p ts,_,L,h=>by obtain⟨vs,e,s,r,z⟩:=h;exact⟨vs,e,s,r.wp,z⟩
theorem AK.wp:∀{os:List FO}{vs:List V}{L:List Addr},AK K F H os vs L->AK K ⟨F.f,p⟩ H os vs L
 | [],_,L,h=>h
 |o::os,_,L,h=>by obtain⟨v,r,L1,L2,e,h1,h2,z⟩:=h;exact⟨v,r,L1,L2,e,A8.wp h1,AK.wp h2,z⟩
end
theorem AA.wp:∀{fs:FS}{U:St}{L:List Addr},AA K F H fs U L->AA K ⟨F.f,p⟩ H fs U L
 | [],_,_,h=>h
 |none::r,_,_,h=>by obtain⟨v,au,e,h⟩:=h;exact⟨v,au,e,AA.wp h⟩
 |some (.val t)::r,_,_,h=>by obtain⟨v,au,e,q,h⟩:=h;exact⟨v,au,e,q.wp,AA.wp h⟩
 |some (.own t)::r,_,_,h=>by obtain⟨v,au,L1,L2,e,q,h,z⟩:=h;exact⟨v,au,L1,L2,e,q.wp,AA.wp h,z⟩
 |some (.bor t)::r,_,_,h=>by obtain⟨v,au,L1,L2,e,q,h,z⟩:=h;exact⟨v,au,L1,L2,e,q.wp,AA.wp h,z⟩
theorem Qp.le(l:Le F H F' H')(k:∀a∈L,H' a=H a)(h:Qp K F H s v L):Qp K F' H' s v L:=by cases s with|none=>exact h|some s =>cases s with|val t =>obtain⟨u,e,q,z⟩:=h;exact⟨u,e,q.le l,z⟩|own o =>obtain⟨u,e,q⟩:=h;exact⟨u,e,q.le l k⟩|bor o =>obtain⟨u,e,q⟩:=h;exact⟨u,e,q.le l k⟩
def FF(B:Nat->Option V)(fs:FS)(U:St):Prop:=∀(i:Nat)(o:FO),fs[i]?=some (some (.bor o))->∃v,U[i]?=some (some v)/\B i=some v
structure Ok(K:Fg)(F:Wd)(B:Nat->Option V)(H:Hp)(fs:FS)(U:St)(L:List Addr):Prop where
 sl:AA K F H fs U L
 nd:L.Nodup
 nf:∀a∈L,¬F a
 fd:∀a,F a->H a≠none
 bo:FF B fs U
 pd:∀a,F.p a->H a≠none
 pf:∀a,F a->¬F.p a
 pl:∀a∈L,¬F.p a
def Okk(K:Fg)(F:Wd)(B:Nat->Option V)(H:Hp)(fs:FS)(U:St):Prop:=∃L,Ok K F B H fs U L
structure Xp where
 p:Wd->(Nat->Option V)->Hp->Str->FS->Prop
 mono:∀{F:Wd}{B:Nat->Option V}{H:Hp}{c:Str}{fs:FS}{F':Wd}{H':Hp},p F B H c fs->Le F H F' H'->p F' B H' c fs
noncomputable def Xp.no:Xp:=⟨λ_ _ _ _ _=>False,λh _=>h⟩
def sat(Z:Xp)(B:Nat->Option V){α β:Type}(R:Wd->Hp->FS->α->β->Prop)(F:Wd)(H:Hp)(o:Out α)(Q:β->Hp->Prop):Prop :=
 match o with|.ok a fs=>∀F' H' b,Le F H F' H'->R F' H' fs a b->Q b H'|.exc c fs=>Z.p F B H c fs|.bad=>False
theorem sat.le(h:sat Z B R F H o Q)(l:Le F H F' H'):sat Z B R F' H' o Q:=by
 cases o with
 |ok a fs=>exact λF2 H2 b l2 r=>h F2 H2 b (l.trans l2) r
 |exc c fs=>exact Z.mono h l
 |bad=>exact h
noncomputable def Out.bind{α β:Type}(o:Out α)(k:α->FS->Out β):Out β:=match o with|.ok a fs=>k a fs|.exc c fs=>.exc c fs|.bad=>.bad
theorem AG{R2:Wd->Hp->FS->γ->δ->Prop}
  (h:sat Z B R2 F H (o.bind k) Q) (hk:∀a fs F' H' b,Le F H F' H'->R1 F' H' fs a b->sat Z B R2 F' H' (k a fs) Q->Q' b H'):sat Z B R1 F H o Q':=by
 cases o with
 |ok a fs=>exact λF2 H2 b l r=>hk a fs F2 H2 b l r (sat.le h l)
 |exc c fs=>exact h
 |bad=>exact h
def Qq(K:Fg)(F:Wd)(H:Hp)(U:St):Rv->V->List Addr->Prop
 |.t t,v,L=>L=[]/\Bf K F H t v
 |.nw o,v,L=>A8 K F H o v L
 |.n i,v,L=>L=[]/\U[i]?=some (some v)
def RR(K:Fg)(B:Nat->Option V)(U:St):Wd->Hp->FS->Rv->V->Prop:=λF H fs r u=>∃L L',Ok K F B H fs U L/\Qq K F H U r u L'/\(L++L').Nodup/\∀a∈L',¬F a/\¬F.p a
def Eh(K:Fg)(F:Wd)(H:Hp)(U:St):Rv->V->Prop
 |.t t,v=>Bf K F H t v
 |.nw _,_=>False
 |.n i,v=>U[i]?=some (some v)
noncomputable def Out.bnd{α:Type}(o:Out Rv)(k:Rv->FS->Out α):Out α:=o.bind λr fs=>match r with|.nw _=>.bad|.t t=>k (.t t) fs|.n i=>k (.n i) fs
variable{Z:Xp}{B:Nat->Option V}{U:St}{fs:FS}{r:Rv}{u:V}
theorem Eh.le(h:Eh K F H U r u)(l:Le F H F' H'):Eh K F' H' U r u:=by cases r with|t t=>exact Bf.le l h|nw o=>exact h|n i=>exact h
theorem RR.of(h:Okk K F B H fs U)(q:Eh K F H U r u):RR K B U F H fs r u:=by obtain⟨L,h⟩:=h;refine⟨L,[],h,?_,by simpa using h.nd,(λ_ m=>nomatch m)⟩;cases r with|t t=>exact⟨rfl,q⟩|nw o=>exact q.elim|n i=>exact⟨rfl,q⟩
theorem RR.ok(h:RR K B U F H fs r u):Okk K F B H fs U:=let⟨L,_,h,_⟩:=h;⟨L,h⟩
theorem AJ{R2:Wd->Hp->FS->γ->δ->Prop}{o:Out Rv}
  (h:sat Z B R2 F H (o.bnd k) Q) (hk:∀r fs F' H' u,Le F H F' H'->Okk K F' B H' fs U->Eh K F' H' U r u->sat Z B R2 F' H' (k r fs) Q->Q' u H'):sat Z B (RR K B U) F H o Q':=by
 refine AG h λr fs F' H' u l q s=>?_
 cases r with|t t =>obtain⟨L,L',q1,q2,_⟩:=q;exact hk (.t t) fs F' H' u l ⟨L,q1⟩ q2.2 s|nw o=>exact s.elim|n i =>obtain⟨L,L',q1,q2,_⟩:=q;exact hk (.n i) fs F' H' u l ⟨L,q1⟩ q2.2 s
def tF(K:Fg)(Z:Xp)(f:FS->Out Rv):TE:=λU H Q=>∃F B fs,Okk K F B H fs U/\sat Z B (RR K B U) F H (f fs) Q
def RB(K:Fg)(B:Nat->Option V)(U:St):Wd->Hp->FS->Bool->Bool->Prop:=λF H fs b b'=>Okk K F B H fs U/\b'=b
def tT(K:Fg)(Z:Xp)(f:FS->Out Bool):TT:=λU H Q=>∃F B fs,Okk K F B H fs U/\sat Z B (RB K B U) F H (f fs) Q
def Jm(K:Fg)(F:Wd)(H:Hp)(U:St):List Rv->List V->Prop
 | [],vs=>vs=[]
 |r::rs,vs=>∃v w,vs=v::w/\Eh K F H U r v/\Jm K F H U rs w
def RA(K:Fg)(B:Nat->Option V)(U:St):Wd->Hp->FS->List Rv->List V->Prop:=λF H fs rs vs=>Okk K F B H fs U/\Jm K F H U rs vs
def tA(K:Fg)(Z:Xp)(f:FS->Out (List Rv)):TA:=λU H Q=>∃F B fs,Okk K F B H fs U/\sat Z B (RA K B U) F H (f fs) Q
def FE(X:Cx)(Z:Xp)(e:Expr)(f:FS->Out Rv):Prop:=PE X e (tF X.K Z f)
def FT(X:Cx)(Z:Xp)(e:Expr)(f:FS->Out Bool):Prop:=PT X e (tT X.K Z f)
def FA(X:Cx)(Z:Xp)(es:List Expr)(f:FS->Out (List Rv)):Prop:=PA X es (tA X.K Z f)
theorem AY(h:PE X e t)(i:∀U H Q,t' U H Q->t U H Q):PE X e t':=λae s U H Q I q=>h ae s U H Q I (i _ _ _ q)
theorem JJ(h:PT X e t)(i:∀U H Q,t' U H Q->t U H Q):PT X e t':=λae s U H Q I q=>h ae s U H Q I (i _ _ _ q)
theorem L8(h:PA X e t)(i:∀U H Q,t' U H Q->t U H Q):PA X e t':=λpos ae s U H Q I q=>h pos ae s U H Q I (i _ _ _ q)
theorem Ct(h:PS X e t)(i:∀D U H,t' D U H->t D U H):PS X e t':=λae s U H D I q=>h ae s U H D I (i _ _ _ q)
theorem Oe(h:PSs X e t)(i:∀D U H,t' D U H->t D U H):PSs X e t':=λae s U H D I q=>h ae s U H D I (i _ _ _ q)
variable{p:Addr}{o:HO}
noncomputable def Qo(F:Wd)(p:Addr):Wd:=⟨λa=>F a\/a=p,F.p⟩
theorem A3(h:Okk K F B H fs U)(hp:H p=none):Le F H (Qo F p) (upd H p o) :=
 let⟨_,h⟩:=h
 ⟨λa f=>⟨.inl f,Ap λe=>h.fd a f (e▸hp)⟩,λa f=>⟨f,Ap λe=>h.pd a f (e▸hp)⟩⟩
theorem AZ(h:Okk K F B H fs U)(hp:H p=none):Le F H F (upd H p o) :=
 let⟨_,h⟩:=h
 ⟨λa f=>⟨f,Ap λe=>h.fd a f (e▸hp)⟩,λa f=>⟨f,Ap λe=>h.pd a f (e▸hp)⟩⟩
theorem DN(h:H a≠none):upd H p o a≠none:=by
 by_cases e:a=p
 .subst e;rw[As];simp
 .rwa[Ap e]
theorem Ok.VU(h:Ok K F B H fs U L)(hp:H p=none):∀a∈L,(upd H p o) a=H a:=λa m=>Ap λe=>h.sl.def a m (e▸hp)
theorem Okk.fd(h:Okk K F B H fs U):∀a,F a->H a≠none:=let⟨_,h⟩:=h;h.fd
theorem Okk.alloc(h:Okk K F B H fs U)(hp:H p=none):Okk K (Qo F p) B (upd H p o) fs U:=by
 obtain⟨L,h⟩:=h;refine⟨L,h.sl.le (A3 ⟨L,h⟩ hp) (h.VU hp),h.nd,λa m q=>?_,λa q=>?_,h.bo,λa q=>DN (h.pd a q),λa q z=>?_,h.pl⟩
 rotate_left 2
 .rcases q with q|q
  .exact h.pf a q z
  .exact h.pd a z (q▸hp)
 .rcases q with q|q
  .exact h.nf a m q
  .exact h.sl.def a m (q▸hp)
 .rcases q with q|q
  .exact DN (h.fd a q)
  .rw[q,As];simp
theorem RR.alloc(h:Okk K F B H fs U)(hp:H p=none)(q:A8 K F (upd H p o) ob (.ref p) [p]):RR K B U F (upd H p o) fs (.nw ob) (.ref p):=by
 obtain⟨L,h⟩:=h;refine⟨L,[p],⟨h.sl.le (AZ ⟨L,h⟩ hp) (h.VU hp),h.nd,h.nf,λa q=>DN (h.fd a q),h.bo,λa q=>DN (h.pd a q),h.pf,h.pl⟩,q,?_,λa m=>?_⟩
 .rw[sT];exact⟨h.nd,by simp,λa ma b mb e=>h.sl.def a ma (by rwa[e,tK.mp mb])⟩
 .rw[tK.mp m];exact⟨λf=>h.fd p f hp,λf=>h.pd p f hp⟩
noncomputable def Sl.put:Sl->FO->Sl
 |.own _,o=>.own o
 |.bor _,o=>.bor o
 |.val t,_=>.val t
noncomputable def AH(fs:FS)(i:Nat):Option FO:=match fs[i]? with|some (some (.own o))=>some o|some (some (.bor o))=>some o|_=>none
noncomputable def putAt(fs:FS)(i:Nat)(o:FO):FS:=match fs[i]? with|some (some s)=>fs.set i (some (s.put o))|_=>fs
variable{i:Nat}{ob:FO}
theorem FF.put(h:FF B fs U)(hs:∀o,s=some (.bor o)->∃u,v=some u/\B i=some u)(hl:U.length=fs.length):FF B (fs.set i s) (U.set i v):=by
 intro j o e;by_cases hj:i=j
 .subst hj;have hi:=by have:=(tu.mp e).1;simpa using this
  rw[uj hi]at e;obtain⟨u,e1,e2⟩:=hs o (by simpa using e);exact⟨u,by rw[uj (by lia),e1],e2⟩
 .rw[uk hj]at e;obtain⟨v,e1,e2⟩:=h j o e;exact⟨v,by rw[uk hj];exact e1,e2⟩
theorem BL{l:List α}(h:l[i]?=some x):l.set i x=l:=by
 apply List.ext_getElem?;intro j;by_cases hj:i=j
 .subst hj;rw[uj (tu.mp h).1,h]
 .rw[uk hj]
theorem CG{L1 L2 L3 M:List Addr}(h:(L1++(L2++L3)).Nodup)(hm:M.Nodup)(d:∀a∈M,a∉L1++L3):(L1++(M++L3)).Nodup:=by
 rw[sT]at h ⊢;obtain⟨h1,h2,h3⟩:=h;rw[sT]at h2;obtain⟨h4,h5,h6⟩:=h2;refine⟨h1,?_,λa ha b hb e=>?_⟩
 .rw[sT];exact⟨hm,h5,λa ha b hb e=>d a ha (by rw[e];exact tB _ hb)⟩
 .rcases tE.mp hb with hb|hb
  .exact d b hb (by rw[<- e];exact tH _ ha)
  .exact h3 a ha b (tB _ hb) e
theorem Okk.own(h:Okk K F B H fs U)(e:AH fs i=some ob):∃v L2,U[i]?=some (some v)/\A8 K F H ob v L2/\(∀a∈L2,¬F a/\¬F.p a)/\L2.Nodup /\
  ∀bR H',(∀a,a∉L2->H a≠none->H' a=H a)->A8 K F H' bR v L2->Okk K F B H' (putAt fs i bR) U/\Le F H F H':=by
 obtain⟨L,h⟩:=h;have key:∀s:Sl,fs[i]?=some (some s)->(s=.own ob\/s=.bor ob)->∃v L2,U[i]?=some (some v)/\A8 K F H ob v L2/\(∀a∈L2,¬F a/\¬F.p a)/\L2.Nodup /\
  ∀bR H',(∀a,a∉L2->H a≠none->H' a=H a)->A8 K F H' bR v L2->Okk K F B H' (fs.set i (some (s.put bR))) U/\Le F H F H':=by
  intro s es ho;obtain⟨v,L1,L2,L3,e1,rfl,h1,h2⟩:=h.sl.pick es;obtain⟨u,rfl,q⟩:∃u,v=some u/\A8 K F H ob u L2:=by
   rcases ho with rfl|rfl
   .exact h1
   .exact h1
  have nd:=h.nd;have i8:∀a∈L1++L3,a∉L2:=λa ha hb=>by
   rw[sT]at nd;rcases tE.mp ha with ha|ha
   .exact nd.2.2 a ha a (tH _ hb) rfl
   .have:=(sT.mp nd.2.1).2.2;exact this a hb a ha rfl
  refine⟨u,L2,e1,q,λa m=>⟨h.nf a (by simp[m]),h.pl a (by simp[m])⟩,?_,λbR H' k q'=>?_⟩
  .rw[sT]at nd;exact(sT.mp nd.2.1).1
  .have l:Le F H F H':=⟨λa f=>⟨f,k a (λm=>h.nf a (by simp[m]) f) (h.fd a f)⟩,λa f=>⟨f,k a (λm=>h.pl a (by simp[m]) f) (h.pd a f)⟩⟩
   refine⟨⟨L1++(L2++L3),?_,nd,h.nf,λa f=>by rw[(l.f a f).2];exact h.fd a f,?_,λa f=>by rw[(l.p a f).2];exact h.pd a f,h.pf,h.pl⟩,l⟩
   .have hL:∀a∈L1++L3,H' a=H a:=λa m=>k a (i8 a m) (h.sl.def a (by
      rcases tE.mp m with m|m
      .simp[m]
      .simp[m]))
    have h3:=h2 F H' (some (s.put bR)) (some u) L2 l hL (by
     rcases ho with rfl|rfl
     .exact⟨u,rfl,q'⟩
     .exact⟨u,rfl,q'⟩)
    rwa[BL e1]at h3
   .have:=FF.put (s:=some (s.put bR)) h.bo (λo eo=>by
     rcases ho with rfl|rfl
     .cases eo
     .obtain⟨w,e3,e4⟩:=h.bo i ob es;rw[e1]at e3;have e5:u=w:=by simpa using e3
      exact⟨u,rfl,by rwa[e5]⟩) h.sl.len
    rwa[BL e1]at this
 unfold AH at e;split at e
 next o es=>cases e;obtain⟨v,L2,a1,a2,a3,a4,a5⟩:=key _ es (.inl rfl);refine⟨v,L2,a1,a2,a3,a4,λbR H' k q=>?_⟩;have:=a5 bR H' k q;unfold putAt;rwa[es]
 next o es=>cases e;obtain⟨v,L2,a1,a2,a3,a4,a5⟩:=key _ es (.inr rfl);refine⟨v,L2,a1,a2,a3,a4,λbR H' k q=>?_⟩;have:=a5 bR H' k q;unfold putAt;rwa[es]
 .cases e
noncomputable def Ab(i:Nat):FS->Out Rv:=λfs=>match fs[i]? with|some (some (.val t))=>.ok (.t t) fs|some (some (.own _))=>.ok (.n i) fs|some (some (.bor _))=>.ok (.n i) fs|_=>.bad
noncomputable def gc(t:T):FS->Out Rv:=λfs=>.ok (.t t) fs
variable{X:Cx}{e:Expr}
theorem Px(i:Nat)(hN:X.N[i]?=some x:=by rfl)(hv:Vis X.env.scope x:=by first|exact Or.inl rfl|exact Or.inr (Or.inl rfl)|exact Or.inr (Or.inr rfl))(hd:(x==("__debug__":Str))=false:=by decide)
  (fm:(x==("__classdict__":Str))=false:=by decide):FE X Z (.Name x pos) (Ab i):=by
 refine AY (pv i hN hv hd fm) λU H Q h=>?_
 obtain⟨F,B,fs,ok,s⟩:=h;obtain⟨L,o⟩:=id ok;unfold Ab at s;split at s
 next t es=>obtain⟨v,L1,L2,L3,e1,_,h1,_⟩:=o.sl.pick es;obtain⟨u,rfl,q,_⟩:=h1;exact⟨u,e1,s F H u Le.refl (RR.of ok q)⟩
 next t es=>obtain⟨v,L1,L2,L3,e1,_,h1,_⟩:=o.sl.pick es;obtain⟨u,rfl,q⟩:=h1;exact⟨u,e1,s F H u Le.refl (RR.of ok e1)⟩
 next t es=>obtain⟨v,L1,L2,L3,e1,_,h1,_⟩:=o.sl.pick es;obtain⟨u,rfl,q⟩:=h1;exact⟨u,e1,s F H u Le.refl (RR.of ok e1)⟩
 .exact s.elim
theorem Xg(t:T)(h:PE X e (tC v))(r:∀K F H,Bf K F H t v):FE X Z e (gc t) :=
 AY h λU H Q ⟨F,B,fs,ok,s⟩=>s F H v Le.refl (RR.of ok (r _ _ _))
theorem Uc:FE X Z (.Constant (.int i) j pos) (gc (.int i)):=Xg _ L5 λ_ _ _=>rfl
theorem Jbv:FE X Z (.Constant (.bool b) j pos) (gc (.o b)):=Xg _ JaX λ_ _ _=>rfl
theorem Kj:FE X Z (.Constant .none j pos) (gc .v):=Xg _ Ye λ_ _ _=>rfl
theorem Zs:FE X Z (.Constant (.str x) j pos) (gc (.str x)):=Xg _ Oo λ_ _ _=>rfl
theorem Jbu(h:∃t,X.mg x=some (.int i t))(hg:Gl X x:=by rfl)(hd:(x==("__debug__":Str))=false:=by decide):FE X Z (.Name x pos) (gc (.int i)):=Xg _ (JaW h hg hd) λ_ _ _=>rfl
theorem Jbt(h:∃t,X.mg x=some (.str z t))(hg:Gl X x:=by rfl)(hd:(x==("__debug__":Str))=false:=by decide):FE X Z (.Name x pos) (gc (.str z)):=Xg _ (JaV h hg hd) λ_ _ _=>rfl
noncomputable def fz(f:FS->Out Rv):FS->Out Rv:=λfs=>(f fs).bind λr fs=>match r with|.t t=>.ok (.t t) fs|.nw o=>.ok (.t (toT o)) fs|.n i=>match fs[i]? with|some (some (.own o))=>.ok (.t (toT o)) (fs.set i (some (.val (toT o))))|_=>.bad
variable{f:FS->Out Rv}
noncomputable def MJ(F:Wd)(L:List Addr):Wd:=⟨λa=>F a\/a∈L,F.p⟩
theorem orF:Le F H (MJ F L) H:=⟨λ_ f=>⟨.inl f,rfl⟩,λ_ f=>⟨f,rfl⟩⟩
theorem IZ(h:FE X Z e f):FE X Z e (fz f):=by
 refine AY h λU H Q ao => ?_
 obtain⟨F,B,fs,ok,s⟩:= ao;refine⟨F,B,fs,ok,?_⟩;refine AG s λr fs F' H' u l q s=>?_
 cases r with
 |t t=>exact s F' H' u Le.refl q
 |nw o =>
  obtain⟨L,L',o1,q,nd,nf⟩:=q;refine s (MJ F' L') H' u orF (RR.of ⟨L,?_⟩ (A8.frz orF (λa m=>.inr m) q));refine⟨o1.sl.le orF λ_ _=>rfl,o1.nd,λa m z=>?_,λa z=>?_,o1.bo,o1.pd,λa z=>?_,o1.pl⟩
  .rcases z with z|z
   .exact o1.nf a m z
   .exact(sT.mp nd).2.2 a m a z rfl
  .rcases z with z|z
   .exact o1.fd a z
   .exact A8.def q a z
  .rcases z with z|z
   .exact o1.pf a z
   .exact(nf a z).2
 |n i =>
  dsimp only at s;split at s
  .rename_i o es;obtain⟨L,L',o1,⟨_,q⟩,nd,nf⟩:=q;obtain⟨v,L1,L2,L3,e1,rfl,h1,h2⟩:=o1.sl.pick es;obtain⟨w,rfl,q2⟩:=h1;rw[e1]at q;have eu:w=u:=by simpa using q
   subst eu;have l2:Le F' H' (MJ F' L2) H':=orF;have r2:=A8.frz orF (λa m=>.inr m) q2;refine s (MJ F' L2) H' w l2 (RR.of ⟨L1++([]++L3),?_⟩ r2);have h3:=h2 (MJ F' L2) H' (some (.val (toT o))) (some w) [] l2 (λ_ _=>rfl) ⟨w,rfl,r2,rfl⟩;rw[BL e1]at h3;have dg:=o1.nd;refine⟨h3,CG dg tJ (λ_ m=>nomatch m),λa m z=>?_,λa z=>?_,?_,o1.pd,λa z=>?_,λa m=>o1.pl a ?_⟩
   .have m':=by simpa using m
    rcases z with z|z
    .exact o1.nf a (by rcases m' with m|m<;>simp[m]) z
    .rw[sT]at dg;rcases m' with m|m
     .exact dg.2.2 a m a (tH _ z) rfl
     .exact(sT.mp dg.2.1).2.2 a z a m rfl
   .rcases z with z|z
    .exact o1.fd a z
    .exact A8.def q2 a z
   .have:=FF.put (i:=i) (s:=some (.val (toT o))) (v:=some w) o1.bo (λo eo=>by cases eo) o1.sl.len;rwa[BL e1]at this
   .rcases z with z|z
    .exact o1.pf a z
    .exact o1.pl a (by simp[z])
   .have m':=by simpa using m
    rcases m' with m|m<;>simp[m]
  .exact s.elim
noncomputable def big:Nat:=1000000
theorem D1:big<=sizeLine:=by rw[sizeLine_eq];decide
theorem Fw:big<sizeLine:=by rw[sizeLine_eq];decide
noncomputable def Cs(fs:FS):Rv->Option (List T)
 |.t (.lst ts)=>some ts
 |.t (.zU ts)=>some ts
 |.n i=>match AH fs i with|some (.lst ts)=>some ts|_=>none
 |_=>none
noncomputable def K3:Rv->Option (List T)
 |.t (.tup ts)=>some ts
 |_=>none
variable{x:Rv}{ts:List T}
theorem Bg(h:Okk K F B H fs U)(r:Eh K F H U x u)(e:Cs fs x=some ts):∃a vs,u=.ref a/\SqL K H a vs/\Al K F H ts vs:=by
 unfold Cs at e;split at e
 .cases e;obtain⟨a,vs,e,f,s,q⟩:=r;exact⟨a,vs,e,SqL.of s,q⟩
 .cases e;obtain⟨a,vs,e,s,q⟩:=r;exact⟨a,vs,e,s.sq,q⟩
 .rename_i i;split at e
  .rename_i ki eo;cases e;obtain⟨v,L2,e1,q,_⟩:=h.own eo;have e2:U[i]?=some (some u):=r;rw[e1]at e2;have e3:v=u:=by simpa using e2
   subst e3;obtain⟨a,vs,e,s,q,_⟩:=q;exact⟨a,vs,e,SqL.of s,q⟩
  .cases e
 .cases e
theorem BG(r:Eh K F H U x u)(e:K3 x=some ts):∃a vs,u=.ref a/\SqT K H a vs/\Al K F H ts vs:=by
 unfold K3 at e;split at e
 .cases e;obtain⟨a,vs,e,s,q⟩:=r;exact⟨a,vs,e,s.sq,q⟩
 .cases e
theorem Qj{i}(r:Al K F H ts vs)(e:atI ts i=some t):∃v,atI vs i=some v/\Bf K F H t v:=by unfold atI at e ⊢;rw[r.len];cases q:ixN ts.length i with|none=>rw[q]at e;cases e|some j =>rw[q]at e;exact r.at e
theorem Al.ints:∀{ns:List Int}{vs:List V},Al K F H (ns.map T.int) vs->vs=ns.map V.int
 | [],_,h=>by simpa[Al]using h
 |n::ns,_,h=>by obtain⟨v,r,rfl,rfl,h⟩:=h;rw[sW,Al.ints h]
theorem Al.bls:∀{ns:List Bool}{vs:List V},Al K F H (ns.map T.o) vs->vs=ns.map V.o
 | [],_,h=>by simpa[Al]using h
 |n::ns,_,h=>by obtain⟨v,r,rfl,rfl,h⟩:=h;rw[sW,Al.bls h]
theorem Al.strs:∀{ns:List Str}{vs:List V},Al K F H (ns.map T.str) vs->vs=ns.map V.str
 | [],_,h=>by simpa[Al]using h
 |n::ns,_,h=>by obtain⟨v,r,rfl,rfl,h⟩:=h;rw[sW,Al.strs h]
noncomputable def BW:List T->Option (List Int)
 | []=>some []
 |.int i::r=>(BW r).map (i::·)
 |_=>none
noncomputable def Dn:List T->Option (List Bool)
 | []=>some []
 |.o i::r=>(Dn r).map (i::·)
 |_=>none
noncomputable def Cv:List T->Option (List Str)
 | []=>some []
 |.str i::r=>(Cv r).map (i::·)
 |_=>none
theorem He:∀{ts:List T}{ns:List Int},BW ts=some ns->ts=ns.map T.int
 | [],_,e=>by cases e;rfl
 |.int i::r,_,e=>by simp only[BW,tq]at e;obtain⟨ns,e,rfl⟩:=e;rw[sW,<- He e]
 |.v::r,_,e=>by simp[BW]at e
 |.o _::r,_,e=>by simp[BW]at e
 |.str _::r,_,e=>by simp[BW]at e
 |.tup _::r,_,e=>by simp[BW]at e
 |.lst _::r,_,e=>by simp[BW]at e
 |.zU _::r,_,e=>by simp[BW]at e
 |.l _ _::r,_,e=>by simp[BW]at e
 |.dT _ _::r,_,e=>by simp[BW]at e
 |.ins _ _ _::r,_,e=>by simp[BW]at e
 |.dF _ _::r,_,e=>by simp[BW]at e
theorem EU:∀{ts:List T}{ns:List Bool},Dn ts=some ns->ts=ns.map T.o
 | [],_,e=>by cases e;rfl
 |.o i::r,_,e=>by simp only[Dn,tq]at e;obtain⟨ns,e,rfl⟩:=e;rw[sW,<- EU e]
 |.v::r,_,e=>by simp[Dn]at e
 |.int _::r,_,e=>by simp[Dn]at e
 |.str _::r,_,e=>by simp[Dn]at e
 |.tup _::r,_,e=>by simp[Dn]at e
 |.lst _::r,_,e=>by simp[Dn]at e
 |.zU _::r,_,e=>by simp[Dn]at e
 |.l _ _::r,_,e=>by simp[Dn]at e
 |.dT _ _::r,_,e=>by simp[Dn]at e
 |.ins _ _ _::r,_,e=>by simp[Dn]at e
 |.dF _ _::r,_,e=>by simp[Dn]at e
theorem KP:∀{ts:List T}{ns:List Str},Cv ts=some ns->ts=ns.map T.str
 | [],_,e=>by cases e;rfl
 |.str i::r,_,e=>by simp only[Cv,tq]at e;obtain⟨ns,e,rfl⟩:=e;rw[sW,<- KP e]
 |.v::r,_,e=>by simp[Cv]at e
 |.int _::r,_,e=>by simp[Cv]at e
 |.o _::r,_,e=>by simp[Cv]at e
 |.tup _::r,_,e=>by simp[Cv]at e
 |.lst _::r,_,e=>by simp[Cv]at e
 |.zU _::r,_,e=>by simp[Cv]at e
 |.l _ _::r,_,e=>by simp[Cv]at e
 |.dT _ _::r,_,e=>by simp[Cv]at e
 |.ins _ _ _::r,_,e=>by simp[Cv]at e
 |.dF _ _::r,_,e=>by simp[Cv]at e
noncomputable def Ag(g:Rv->Rv->FS->Out Rv)(fa fb:FS->Out Rv):FS->Out Rv:=λfs=>(fa fs).bnd λx fs=>(fb fs).bnd λy fs=>g x y fs
def OpF(K:Fg)(Z:Xp)(r:R2)(g:Rv->Rv->FS->Out Rv):Prop:=∀(F:Wd)(B:Nat->Option V)(H:Hp)(U:St)(fs:FS)(x y:Rv)(u w:V)(Q:VK),Okk K F B H fs U->Eh K F H U x u->Eh K F H U y w ->
 sat Z B (RR K B U) F H (g x y fs) Q->r u w H Q
noncomputable def asB(f:FS->Out Rv):FS->Out Bool:=λfs=>(f fs).bind λr fs=>match r with|.t (.o b)=>.ok b fs|_=>.bad
variable{a b c:Expr}{fa fb fc:FS->Out Rv}{r r':R2}{g g':Rv->Rv->FS->Out Rv}{pos:Pos}
theorem FZ(hg:OpF K Z r g)(h:tF K Z (Ag g fa fb) U H Q):tOp r (tF K Z fa) (tF K Z fb) U H Q:=by obtain⟨F,B,fs,ok,s⟩:=h;exact⟨F,B,fs,ok,AJ s λx aj F1 H1 u l av rx s1=>⟨F1,B,aj,av,AJ s1 λy aB F2 H2 w l2 aR ry s2=>hg F2 B H2 U aB x y u w Q aR (rx.le l2) ry s2⟩⟩
theorem Ur(h:tT K Z (asB f) U H Q):tF K Z f U H λx H'=>∃k,x=.o k/\Q k H':=by
 obtain⟨F,B,fs,ok,s⟩:=h;refine⟨F,B,fs,ok,AG s λr aj F1 H1 u l q s1=>?_⟩;split at s1
 next b=>obtain⟨L,L',o1,⟨_,q⟩,_⟩:=q;exact⟨b,q,s1 F1 H1 b Le.refl ⟨⟨L,o1⟩,rfl⟩⟩
 .exact s1.elim
theorem Lx(hg:OpF X.K Z r g)(ho:OpR X (binaryOp op) r)(ha:FE X Z a fa)(hb:FE X Z b fb):FE X Z (.BinOp a op b pos) (Ag g fa fb) :=
 AY (JaT ho ha hb) λ_ _ _ h=>FZ hg h
theorem Kk(hg:OpF X.K Z r g)(ho:OpR X (compareOp op) r)(ha:FE X Z a fa)(hb:FE X Z b fb)(hm:behindInMarks op b=false):FE X Z (.Compare a [op] [b] pos) (Ag g fa fb) :=
 AY (Vg ho ha hb hm) λ_ _ _ h=>FZ hg h
theorem Ek(hg:OpF X.K Z r g)(ho:OpR X (compareOp op) r)(ha:FE X Z a fa)(hb:FE X Z b fb)(hm:behindInMarks op b=false):FT X Z (.Compare a [op] [b] pos) (asB (Ag g fa fb)) :=
 JJ (UU ho ha hb hm) λ_ _ _ h=>FZ hg (Ur h)
theorem Jbr(hg:OpF X.K Z r g)(hr:IxR X r)(ha:FE X Z a fa)(hb:FE X Z b fb)(hs:Jn b):FE X Z (.Subscript a b pos) (Ag g fa fb) :=
 AY (Yg hr ha hb hs) λ_ _ _ h=>FZ hg h
noncomputable def chain(g g':Rv->Rv->FS->Out Rv)(fa fb fc:FS->Out Rv):FS->Out Rv:=λfs=>(fa fs).bnd λx fs=>(fb fs).bnd λy fs=>(g x y fs).bnd λz fs=>match z with
 |.t (.o true)=>(fc fs).bnd λw fs=>g' y w fs
 |.t (.o false)=>.ok (.t (.o false)) fs
 |_=>.bad
theorem WM(hg:OpF K Z r g)(iN:OpF K Z r' g')(h:tF K Z (chain g g' fa fb fc) U H Q):NX r r' (tF K Z fa) (tF K Z fb) (tF K Z fc) U H Q:=by
 obtain⟨F,B,fs,ok,s⟩:=h;refine⟨F,B,fs,ok,AJ s λx aj F1 H1 u l av rx s1=>⟨F1,B,aj,av,AJ s1 λy aB F2 H2 w l2 aR ry s2=>hg F2 B H2 U aB x y u w _ aR (rx.le l2) ry ?_⟩⟩;refine AJ s2 λz dY F3 H3 v l3 fD rz s3=>?_
 split at s3
 .refine⟨true,rz,?_⟩;exact⟨F3,B,dY,fD,AJ s3 λw' dE F4 H4 v' l4 gn dI s4=>iN F4 B H4 U dE y w' w v' Q gn ((ry.le l3).le l4) dI s4⟩
 .refine⟨false,rz,?_⟩;exact s3 F3 H3 (.o false) Le.refl (RR.of fD rfl)
 .exact s3.elim
theorem Ro{a}{b}(ha:Builtin.Int.intBits a<=2^26)(hb:Builtin.Int.intBits b<=2^26):IntMulOk a b:=by intro h;rw[tW]at h;have h2:=tX (show decide _=true from h.2);have e:bitsLine=134217728:=rfl;omega
noncomputable def gI(g:Int->Int->FS->Out Rv):Rv->Rv->FS->Out Rv
 |.t (.int i),.t (.int j),fs=>g i j fs
 |_,_,_=>.bad
noncomputable def okT(t:T)(fs:FS):Out Rv:=.ok (.t t) fs
noncomputable def Jbe:=gI λi j=>okT (.int (i+j))
noncomputable def Di:=gI λi j=>okT (.int (i-j))
noncomputable def Xf:=gI λi j fs=>if(decide (-(2^64)<i/\i<2^64)||decide (-(2^64)<j/\j<2^64)||(decide (Builtin.Int.intBits i<=2^26)&&decide (Builtin.Int.intBits j<=2^26)))=true then okT (.int (i*j)) fs else .bad
noncomputable def DE:=gI λi j fs=>if 0<j then okT (.int (i%j)) fs else .bad
noncomputable def GH:=gI λi j fs=>if 0<j/\j<1073741824 then okT (.int (i/j)) fs else .bad
noncomputable def gLt:=gI λi j=>okT (.o (decide (i<j)))
noncomputable def gLe:=gI λi j=>okT (.o (decide (i<=j)))
noncomputable def gGt:=gI λi j=>okT (.o (decide (j<i)))
theorem Vk{g}{t:Int->Int->T}(hv:∀K F H i j,Bf K F H (t i j) (v i j))(hg:∀i j fs,g i j fs=.bad\/(C i j/\g i j fs=okT (t i j) fs)):OpF K Z (rI C v) (gI g):=by
 intro F B H U fs x y u w Q ok rx ry s;unfold gI at s;split at s
 .rename_i i j;rcases hg i j fs with e|⟨c,e⟩
  .rw[e]at s;exact s.elim
  .rw[e]at s;exact⟨i,j,rx,ry,c,s F H _ Le.refl (RR.of ok (hv _ _ _ _ _))⟩
 .exact s.elim
theorem JS{t:Int->Int->T}(hv:∀K F H i j,Bf K F H (t i j) (v i j)):OpF K Z (rI0 v) (gI λi j=>okT (t i j)):=by
 intro F B H U fs x y u w Q ok rx ry s;unfold gI at s;split at s
 next i j=>exact⟨i,j,rx,ry,s F H _ Le.refl (RR.of ok (hv _ _ _ _ _))⟩
 .exact s.elim
theorem YF:OpF K Z (rI0 λi j=>.int (i+j)) Jbe:=JS λ_ _ _ _ _=>rfl
theorem Yz:OpF K Z (rI0 λi j=>.int (i-j)) Di:=JS λ_ _ _ _ _=>rfl
theorem of_lt:OpF K Z (rI0 λi j=>.o (decide (i<j))) gLt:=JS λ_ _ _ _ _=>rfl
theorem of_le:OpF K Z (rI0 λi j=>.o (decide (i<=j))) gLe:=JS λ_ _ _ _ _=>rfl
theorem Ja4:OpF K Z (rI0 λi j=>.o (decide (j<i))) gGt:=JS λ_ _ _ _ _=>rfl
theorem YC:OpF K Z (rI (λ_ j=>0<j) λi j=>.int (i%j)) DE:=Vk (t:=λi j=>.int (i%j)) (λ_ _ _ _ _=>rfl) λi j fs=>by
 by_cases h:0<j
 .exact .inr ⟨h,if_pos h⟩
 .exact .inl (if_neg h)
theorem YE:OpF K Z (rI Jb6 λi j=>.int (i/j)) GH:=Vk (t:=λi j=>.int (i/j)) (λ_ _ _ _ _=>rfl) λi j fs=>by
 by_cases h:0<j/\j<1073741824
 .exact .inr ⟨h,if_pos h⟩
 .exact .inl (if_neg h)
theorem YB:OpF K Z (rI IntMulOk λi j=>.int (i*j)) Xf:=Vk (t:=λi j=>.int (i*j)) (λ_ _ _ _ _=>rfl) λi j fs=>by
 by_cases h:(decide (-(2^64)<i/\i<2^64)||decide (-(2^64)<j/\j<2^64)||(decide (Builtin.Int.intBits i<=2^26)&&decide (Builtin.Int.intBits j<=2^26)))=true
 .refine .inr ⟨?_,if_pos h⟩;rw[uQ,uQ,tW]at h;rcases h with(h|h)|⟨h1,h2⟩
  .exact Jax.ok (.inl (tX h))
  .exact Jax.ok (.inr (tX h))
  .exact Ro (tX h1) (tX h2)
 .exact .inl (if_neg h)
noncomputable def plV:T->Option V
 |.v=>some .v
 |.o b=>some (.o b)
 |.int i=>some (.int i)
 |.str x=>some (.str x)
 |_=>none
theorem BY(e:plV t=some v)(r:Bf K F H t u):u=v:=by cases t with|v=>cases e;exact r|o b=>cases e;exact r|int i=>cases e;exact r|str x=>cases e;exact r|tup ts=>cases e|lst ts=>cases e|zU ts=>cases e|l ks ts=>cases e|dT ks ts=>cases e|ins C fs ts=>cases e|dF ks ts=>cases e|zT c=>cases e
noncomputable def gEq(neg:Bool):Rv->Rv->FS->Out Rv
 |.t x,.t y,fs=>match plV x,plV y with|some u,some w=>if N9 u w=true then okT (.o (if neg then !decide (u=w)else decide (u=w))) fs else .bad|_,_=>.bad
 |_,_,_=>.bad
noncomputable def U4:List T->Option (List V)
 | []=>some []
 |t::r=>(plV t).bind λv=>(U4 r).map (v::·)
theorem IA:∀{ts:List T}{us vs:List V},U4 ts=some vs->Al K F H ts us->us=vs/\vs.all Fe=true
 | [],_,_,e,r=>by cases e;exact⟨r,rfl⟩
 |t::ts,_,_,e,r=>by obtain⟨v,w,rfl,r1,r2⟩:=r;simp only[U4,tV,tq]at e;obtain⟨v',e1,ws,e2,rfl⟩:=e;obtain⟨rfl,h⟩:=IA e2 r2;have:=BY e1 r1;subst this;refine⟨rfl,?_⟩;rw[List.all_cons,h,Bool.and_true];cases t<;>first|(cases e1;rfl)|cases e1
theorem CY(e:plV t=some v):Fe v=true:=by cases t<;>first|(cases e;rfl)|cases e
noncomputable def gIn(neg:Bool):Rv->Rv->FS->Out Rv
 |.t x,y,fs=>match plV x with
  |some v=>match(match Cs fs y with|some ts=>U4 ts|none=>(K3 y).bind U4)with|some vs=>okT (.o (if neg then !inV v vs else inV v vs)) fs|none=>.bad
  |none=>.bad
 |_,_,_=>.bad
noncomputable def Ke(neg:Bool):Rv->Rv->FS->Out Rv
 |.t (.str i),.t (.str j),fs=>okT (.o (if neg then !(!(Builtin.Str.occurrences j i 0 j.length 1).isEmpty)else !(Builtin.Str.occurrences j i 0 j.length 1).isEmpty)) fs
 |_,_,_=>.bad
theorem of_eq:OpF K Z rEq (gEq false):=by
 intro F B H U fs x y u w Q ok rx ry s;unfold gEq at s;split at s
 .split at s
  .rename_i e1 e2;split at s
   next hs=>have h1:=BY e1 rx;have h2:=BY e2 ry;subst h1 h2;exact⟨hs,s F H _ Le.refl (RR.of ok rfl)⟩
   .exact s.elim
  .exact s.elim
 .exact s.elim
theorem Ja2:OpF K Z rNe (gEq true):=by
 intro F B H U fs x y u w Q ok rx ry s;unfold gEq at s;split at s
 .split at s
  .rename_i e1 e2;split at s
   next hs=>have h1:=BY e1 rx;have h2:=BY e2 ry;subst h1 h2;exact⟨hs,s F H _ Le.refl (RR.of ok rfl)⟩
   .exact s.elim
  .exact s.elim
 .exact s.elim
theorem Vt(neg:Bool):OpF K Z (rIn K neg) (gIn neg):=by
 intro F B H U fs x y u w Q ok rx ry s;unfold gIn at s;split at s
 .split at s
  .rename_i v e1;split at s
   .rename_i vs e2;have h1:=BY e1 rx;subst h1;split at e2
    next ts e3=>obtain⟨a,us,rfl,hs,q⟩:=Bg ok ry e3;obtain⟨rfl,hf⟩:=IA e2 q;exact⟨a,us,rfl,.inl hs,CY e1,hf,s F H _ Le.refl (RR.of ok rfl)⟩
    .rw[tV]at e2;obtain⟨ts,e3,e2⟩:=e2;obtain⟨a,us,rfl,hs,q⟩:=BG ry e3;obtain⟨rfl,hf⟩:=IA e2 q;exact⟨a,us,rfl,.inr hs,CY e1,hf,s F H _ Le.refl (RR.of ok rfl)⟩
   .exact s.elim
  .exact s.elim
 .exact s.elim
theorem Mb:OpF K Z (λx y H Q=>∃i j,x=.str i/\y=.str j/\Q (.o (!(Builtin.Str.occurrences j i 0 j.length 1).isEmpty)) H) (Ke false):=by
 intro F B H U fs x y u w Q ok rx ry s;unfold Ke at s;split at s
 next i j=>exact⟨i,j,rx,ry,s F H _ Le.refl (RR.of ok rfl)⟩
 .exact s.elim
theorem Lc:OpF K Z (λx y H Q=>∃i j,x=.str i/\y=.str j/\Q (.o (!(!(Builtin.Str.occurrences j i 0 j.length 1).isEmpty))) H) (Ke true):=by
 intro F B H U fs x y u w Q ok rx ry s;unfold Ke at s;split at s
 next i j=>exact⟨i,j,rx,ry,s F H _ Le.refl (RR.of ok rfl)⟩
 .exact s.elim
noncomputable def gIx:Rv->Rv->FS->Out Rv
 |x,.t (.int i),fs=>match Cs fs x with
  |some ts=>match atI ts i with|some t=>okT t fs|none=>.bad
  |none=>match x with
   |.t (.tup ts)=>match atI ts i with|some t=>okT t fs|none=>.bad
   |.t (.str z)=>if z.length<=big then match atI z.cps.toList i with|some c=>okT (.str ⟨#[c]⟩) fs|none=>.bad
    else .bad
   |_=>.bad
 |_,_,_=>.bad
theorem Ja3:OpF K Z (rIx K) gIx:=by
 intro F B H U fs x y u w Q ok rx ry s;unfold gIx at s;split at s
 .rename_i i;split at s
  .rename_i ts e;split at s
   next t et=>obtain⟨a,vs,rfl,hs,q⟩:=Bg ok rx e;obtain⟨v,ev,rv⟩:=Qj q et;exact .inl ⟨a,vs,i,v,rfl,ry,hs,ev,s F H v Le.refl (RR.of ok rv)⟩
   .exact s.elim
  .split at s
   .rename_i ts _;split at s
    next t et=>obtain⟨a,vs,rfl,hs,q⟩:=BG rx rfl;obtain⟨v,ev,rv⟩:=Qj q et;exact .inr (.inl ⟨a,vs,i,v,rfl,ry,hs,ev,s F H v Le.refl (RR.of ok rv)⟩)
    .exact s.elim
   .rename_i z _;split at s
    .rename_i hz;split at s
     next c ec=>exact .inr (.inr ⟨z,i,c,rx,ry,tY hz D1,ec,s F H _ Le.refl (RR.of ok rfl)⟩)
     .exact s.elim
    .exact s.elim
   .exact s.elim
 .exact s.elim
noncomputable def Sh:Rv->Rv->FS->Out Rv
 |.t (.str i),.t (.str j),fs=>if i.length+j.length<=big then okT (.str (i++j)) fs else .bad
 |_,_,_=>.bad
noncomputable def Wg:Rv->Rv->FS->Out Rv
 |.t (.str z),.t (.int n),fs=>if z.length=1/\1<=n/\n<=1000 then okT (.str (Txt.mul z n)) fs else .bad
 |_,_,_=>.bad
theorem VE(hz:z.length=1)(h0:1<=n)(h1:n<=1000):MulOk z n:=by
 refine⟨?_,λ_ _=>?_,λ_ _=>?_⟩
 .rw[Bool.or_eq_false_iff];exact⟨tS (by omega),tS (by omega)⟩
 .have h:=by omega
  have h2:1<=((2:Int)^63-1)/n:=(Int.le_ediv_iff_mul_le (by omega)).mpr (by omega);omega
 .unfold Builtin.Str.tooLong;refine tS ?_;rw[hz];have h3:(1000:Nat)<=sizeLine:=by rw[sizeLine_eq];decide
  omega
theorem Vz:OpF K Z (λx y H Q=>∃i j,x=.str i/\y=.str j/\i.length+j.length<=sizeLine/\Q (.str (i++j)) H) Sh:=by
 intro F B H U fs x y u w Q ok rx ry s;unfold Sh at s;split at s
 .rename_i i j;split at s
  next h=>exact⟨i,j,rx,ry,tY h D1,s F H _ Le.refl (RR.of ok rfl)⟩
  .exact s.elim
 .exact s.elim
theorem Vs:OpF K Z (λx y H Q=>∃z n,x=.str z/\y=.int n/\MulOk z n/\Q (.str (Txt.mul z n)) H) Wg:=by
 intro F B H U fs x y u w Q ok rx ry s;unfold Wg at s;split at s
 .rename_i i j;split at s
  next h=>exact⟨i,j,rx,ry,VE h.1 h.2.1 h.2.2,s F H _ Le.refl (RR.of ok rfl)⟩
  .exact s.elim
 .exact s.elim
noncomputable def JaA(fs:FS):Rv->Option Bool
 |.t .v=>some false
 |.t (.o b)=>some b
 |.t (.int i)=>some (i !=0)
 |.t (.str x)=>if x.length<=big then some ((x.length:Int)!=0)else none
 |.t (.lst ts)=>some !ts.isEmpty
 |.t (.tup ts)=>some !ts.isEmpty
 |.n i=>match AH fs i with|some (.lst ts)=>some !ts.isEmpty|some (.l ks _)=>some !ks.isEmpty|_=>none
 |_=>none
noncomputable def Hh(f:FS->Out Rv):FS->Out Bool:=λfs=>(f fs).bnd λr fs=>match JaA fs r with|some b=>.ok b fs|none=>.bad
noncomputable def Fq(f:FS->Out Bool):FS->Out Bool:=λfs=>(f fs).bind λb fs=>.ok (!b) fs
noncomputable def Qn(f g:FS->Out Bool):FS->Out Bool:=λfs=>(f fs).bind λb fs=>if b=true then g fs else .ok false fs
noncomputable def orT(f g:FS->Out Bool):FS->Out Bool:=λfs=>(f fs).bind λb fs=>if b=true then .ok true fs else g fs
noncomputable def Us(f g:FS->Out Rv):FS->Out Rv:=λfs=>(f fs).bnd λr fs=>match r with|.t (.o true)=>g fs|.t (.o false)=>okT (.o false) fs|_=>.bad
noncomputable def orV(f g:FS->Out Rv):FS->Out Rv:=λfs=>(f fs).bnd λr fs=>match r with|.t (.o false)=>g fs|.t (.o true)=>okT (.o true) fs|_=>.bad
theorem Du{xs:List α}{ys:List β}(h:ys.length=xs.length):(!ys.isEmpty)=!xs.isEmpty:=by cases xs<;>cases ys<;>simp_all
theorem Uz{b}(h:Okk K F B H fs U)(r:Eh K F H U x u)(e:JaA fs x=some b):JbI K u H b:=by
 unfold JaA at e;split at e
 .cases e;cases r;rfl
 .cases e;cases r;rfl
 .cases e;cases r;rfl
 .split at e
  next hz=>cases e;cases r;exact⟨tY hz D1,rfl⟩
  .cases e
 .cases e;obtain⟨a,vs,rfl,hs,q⟩:=Bg h r rfl;exact .inl ⟨vs,hs,(Du q.len).symm⟩
 .cases e;obtain⟨a,vs,rfl,hs,q⟩:=BG r rfl;exact .inr (.inl ⟨vs,hs,(Du q.len).symm⟩)
 .rename_i i;split at e
  next ts eo=>cases e;obtain⟨a,vs,rfl,hs,q⟩:=Bg (ts:=ts) h r (by simp[Cs,eo]);exact .inl ⟨vs,hs,(Du q.len).symm⟩
  .rename_i ks ts eo;cases e;obtain⟨v,L2,e1,q,_⟩:=h.own eo;have e2:U[i]?=some (some u):=r;rw[e1]at e2;have e3:v=u:=by simpa using e2
   subst e3;obtain⟨a,ah,rfl,hd,rfl,_⟩:=q;exact .inr (.inr ⟨ah,hd,(Du (by simp))⟩)
  .cases e
 .cases e
variable{ga gb:FS->Out Bool}{rest:List Expr}
theorem Si(ha:FE X Z a fa)(he:∀aW,isTrue a X.env aW=(do let v <- aW;standAt a.pos;holding [v] (truthy v))):FT X Z a (Hh fa):=by
 refine JJ (LX ha he) λU H Q ao => ?_
 obtain⟨F,B,fs,ok,s⟩:= ao;refine⟨F,B,fs,ok,AJ s λr aj F1 H1 u l av rx s1=>?_⟩;split at s1
 next b e=>exact⟨b,Uz av rx e,s1 F1 H1 b Le.refl ⟨av,rfl⟩⟩
 .exact s1.elim
theorem Zh(ha:FT X Z a ga):FT X Z (.UnaryOp .Not a pos) (Fq ga):=by
 refine JJ (X0 ha) λU H Q ao => ?_
 obtain⟨F,B,fs,ok,s⟩:= ao;refine⟨F,B,fs,ok,AG s λb aj F1 H1 b' l q s1=>?_⟩;obtain⟨av,rfl⟩:=q;exact s1 F1 H1 _ Le.refl ⟨av,rfl⟩
def FW(X:Cx)(Z:Xp)(e:Expr)(f:FS->Out Bool):Prop:=PW X e (tT X.K Z f)
theorem FW.ft(h:FW X Z a ga):FT X Z a ga:=PW.pt h
theorem Tv(h:PW X e t)(i:∀U H Q,t' U H Q->t U H Q):PW X e t':=λaW ae s U H Q I q=>h aW ae s U H Q I (i _ _ _ q)
theorem Wj(ha:FT X Z a ga):FW X Z (.BoolOp .And [a] pos) ga:=UT ha
theorem Zf(ha:FT X Z a ga):FW X Z (.BoolOp .Or [a] pos) ga:=XX ha
theorem Zg(ha:FT X Z a ga)(hb:FW X Z (.BoolOp .And (b::rest) pos) gb):FW X Z (.BoolOp .And (a::b::rest) pos) (Qn ga gb):=by
 refine Tv (XY ha hb) λU H Q ao => ?_
 obtain⟨F,B,fs,ok,s⟩:= ao;refine⟨F,B,fs,ok,AG s λb aj F1 H1 b' l q s1=>?_⟩;obtain⟨av,rfl⟩:=q;cases b' with|true =>exact⟨F1,B,aj,av,s1⟩|false =>exact s1 F1 H1 _ Le.refl ⟨av,rfl⟩
theorem Jbf(ha:FT X Z a ga)(hb:FW X Z (.BoolOp .Or (b::rest) pos) gb):FW X Z (.BoolOp .Or (a::b::rest) pos) (orT ga gb):=by
 refine Tv (JaN ha hb) λU H Q ao => ?_
 obtain⟨F,B,fs,ok,s⟩:= ao;refine⟨F,B,fs,ok,AG s λb aj F1 H1 b' l q s1=>?_⟩;obtain⟨av,rfl⟩:=q;cases b' with|true =>exact s1 F1 H1 _ Le.refl ⟨av,rfl⟩|false =>exact⟨F1,B,aj,av,s1⟩
theorem Ua(h:FE X Z a fa):FE X Z (.BoolOp op [a] pos) fa:=Yd h
theorem Ud(ha:FE X Z a fa)(hb:FE X Z (.BoolOp .And (b::rest) pos) fb):FE X Z (.BoolOp .And (a::b::rest) pos) (Us fa fb):=by
 refine AY (Yj ha hb) λU H Q ao => ?_
 obtain⟨F,B,fs,ok,s⟩:= ao;refine⟨F,B,fs,ok,AJ s λr aj F1 H1 u l av rx s1=>?_⟩;split at s1
 .exact⟨true,rx,by rw[if_pos rfl];exact⟨F1,B,aj,av,s1⟩⟩
 .exact⟨false,rx,by rw[if_neg (by decide)];exact s1 F1 H1 _ Le.refl (RR.of av rfl)⟩
 .exact s1.elim
theorem Jbp(ha:FE X Z a fa)(hb:FE X Z (.BoolOp .Or (b::rest) pos) fb):FE X Z (.BoolOp .Or (a::b::rest) pos) (orV fa fb):=by
 refine AY (JaS ha hb) λU H Q ao => ?_
 obtain⟨F,B,fs,ok,s⟩:= ao;refine⟨F,B,fs,ok,AJ s λr aj F1 H1 u l av rx s1=>?_⟩;split at s1
 .exact⟨false,rx,by rw[if_neg (by decide)];exact⟨F1,B,aj,av,s1⟩⟩
 .exact⟨true,rx,by rw[if_pos rfl];exact s1 F1 H1 _ Le.refl (RR.of av rfl)⟩
 .exact s1.elim
theorem Sm(hg:OpF X.K Z r g)(iN:OpF X.K Z r' g')(ha:FE X Z a fa)(hb:FE X Z b fb)(hc:FE X Z c fc)
  (h:∀{ta tb tc:TE},PE X a ta->PE X b tb->PE X c tc->PT X (.Compare a [op,op'] [b,c] pos) (UA (NX r r' ta tb tc))):FT X Z (.Compare a [op,op'] [b,c] pos) (asB (chain g g' fa fb fc)) :=
 JJ (h ha hb hc) λ_ _ _ q=>WM hg iN (Ur q)
noncomputable def Ah:FS->Out (List Rv):=λfs=>.ok [] fs
noncomputable def Ac(f:FS->Out Rv)(g:FS->Out (List Rv)):FS->Out (List Rv):=λfs=>(f fs).bnd λr fs=>(g fs).bind λrs fs=>.ok (r::rs) fs
noncomputable def Qs:List Rv->Option (List T)
 | []=>some []
 |.t t::r=>(Qs r).map (t::·)
 |_=>none
theorem Ga:∀{rs:List Rv}{vs:List V}{ts:List T},Jm K F H U rs vs->Qs rs=some ts->Al K F H ts vs
 | [],_,_,h,e=>by cases e;exact h
 |.t t::r,_,_,h,e=>by simp only[Qs,tq]at e;obtain⟨ts,e,rfl⟩:=e;obtain⟨v,w,rfl,h1,h2⟩:=h;exact⟨v,w,rfl,h1,Ga h2 e⟩
 |.nw _::r,_,_,h,e=>by simp[Qs]at e
 |.n _::r,_,_,h,e=>by simp[Qs]at e
noncomputable def An(g:List T->FS->Out Rv)(f:FS->Out (List Rv)):FS->Out Rv:=λfs=>(f fs).bind λrs fs=>match Qs rs with|some ts=>if ts.length<=big then g ts fs else .bad|none=>.bad
noncomputable def Ar(ts:List T)(fs:FS):Out Rv:=.ok (.t (.tup ts)) fs
noncomputable def Cw(ts:List T)(fs:FS):Out Rv:=.ok (.t (.lst ts)) fs
noncomputable def Er(ts:List T)(fs:FS):Out Rv:=.ok (.nw (.lst ts)) fs
variable{es:List Expr}{g:FS->Out (List Rv)}
theorem ZN:FA X Z [] Ah:=L8 HL λU H Q ⟨F,B,fs,ok,s⟩=>s F H [] Le.refl ⟨ok,rfl⟩
theorem Wz(ha:FE X Z e f)(hr:FA X Z es g)(hs:starEach (e::es) X.env=(false,eval e X.env)::starEach es X.env:=by rfl):FA X Z (e::es) (Ac f g):=by
 refine L8 (Ds ha hr hs) λU H Q ao => ?_
 obtain⟨F,B,fs,ok,s⟩:= ao;refine⟨F,B,fs,ok,AJ s λr aj F1 H1 u l av rx s1=>⟨F1,B,aj,av,AG s1 λrs aB F2 H2 us l2 q s2=>?_⟩⟩;exact s2 F2 H2 (u::us) Le.refl ⟨q.1,u,us,rfl,rx.le l2,q.2⟩
theorem Zo(h:FA X Z es g):FE X Z (.Tuple es x1 pos) (An Ar g):=by
 refine AY (Yc h) λU H Q ao => ?_
 obtain⟨F,B,fs,ok,s⟩:= ao;refine⟨F,B,fs,ok,AG s λrs aj F1 H1 us l q s1=>?_⟩;obtain⟨av,q⟩:=q;split at s1
 .rename_i ts e;have r:=Ga q e;split at s1
  next hl=>refine⟨by rw[r.len];exact tY hl D1,λp hp=>s1 (Qo F1 p) (upd H1 p (.tup us)) (.ref p) (A3 av hp) (RR.of (av.alloc hp) ?_)⟩;exact⟨p,us,rfl,⟨rfl,.inr rfl,As⟩,r.le (A3 av hp)⟩
  .exact s1.elim
 .exact s1.elim
theorem ZA(h:FA X Z es g):FE X Z (.List es pos) (An Cw g):=by
 refine AY (TK h) λU H Q ao => ?_
 obtain⟨F,B,fs,ok,s⟩:= ao;refine⟨F,B,fs,ok,AG s λrs aj F1 H1 us l q s1=>?_⟩;obtain⟨av,q⟩:=q;split at s1
 .rename_i ts e;have r:=Ga q e;split at s1
  next hl=>refine⟨by rw[r.len];exact tY hl D1,λp hp=>s1 (Qo F1 p) (upd H1 p (.lst us)) (.ref p) (A3 av hp) (RR.of (av.alloc hp) ?_)⟩;exact⟨p,us,rfl,.inr rfl,As,r.le (A3 av hp)⟩
  .exact s1.elim
 .exact s1.elim
theorem CW(h:H p=some (.lst us))(r:Al K F H ts us):A8 K F H (.lst ts) (.ref p) [p]:=by exact⟨p,us,rfl,h,r,rfl⟩
theorem Ww(h:FA X Z es g):FE X Z (.List es pos) (An Er g):=by
 refine AY (TK h) λU H Q ao => ?_
 obtain⟨F,B,fs,ok,s⟩:= ao;refine⟨F,B,fs,ok,AG s λrs aj F1 H1 us l q s1=>?_⟩;obtain⟨av,q⟩:=q;split at s1
 .rename_i ts e;have r:=Ga q e;split at s1
  next hl=>exact⟨by rw[r.len];exact tY hl D1,λp hp=>s1 F1 (upd H1 p (.lst us)) (.ref p) (AZ av hp) (RR.alloc av hp (CW As (r.le (AZ av hp))))⟩
  .exact s1.elim
 .exact s1.elim
noncomputable def EK:FS->Out Rv:=λfs=>.ok (.nw (.l [] [])) fs
theorem Sv:FE X Z (.Dict [] [] pos) EK:=by
 refine AY L7 λU H Q ⟨F,B,fs,ok,s⟩ p hp=>s F (upd H p (.l [])) (.ref p) (AZ ok hp) (RR.alloc ok hp ?_)
 exact⟨p,[],rfl,As,rfl,rfl,rfl⟩
def Dp(K:Fg)(Z:Xp)(r:List V->Hp->VK->Prop)(g:List Rv->FS->Out Rv):Prop:=∀(F:Wd)(B:Nat->Option V)(H:Hp)(U:St)(fs:FS)(rs:List Rv)(vs:List V)(Q:VK),Okk K F B H fs U->Jm K F H U rs vs ->
 sat Z B (RR K B U) F H (g rs fs) Q->r vs H Q
noncomputable def Ai(g:List Rv->FS->Out Rv)(f:FS->Out (List Rv)):FS->Out Rv:=λfs=>(f fs).bind λrs fs=>g rs fs
variable{fa:FS->Out (List Rv)}{g:List Rv->FS->Out Rv}{r:List V->Hp->VK->Prop}{p:Pos}{x:Str}{Ty:String}
section
variable{id:String}
theorem EM(iN:Dp X.K Z r g)(hc:CU X (.builtin id) r)(hm:X.mg x=none)(hv:bootBuiltins x=some (.builtin id))(ha:FA X Z (e::es) fa)(hg:Gl X x:=by rfl)(hn:x≠"__name__":=by decide)(bh:(x==("__debug__":Str))=false:=by decide)
  (he:starEach (e::es) X.env=(false,eval e X.env)::starEach es X.env:=by rfl) (aD:(backTo pos (starEach es X.env)).any (·.1)=false:=by rfl):FE X Z (.Call (.Name x p) (e::es) [] pos) (Ai g fa) :=
 AY (IE hc hg hm hv ha hn bh he aD) λU H Q ⟨F,B,fs,ok,s⟩=>⟨F,B,fs,ok,AG s λrs aj F1 H1 us l q s1=>iN F1 B H1 U aj rs us Q q.1 q.2 s1⟩
theorem GL(iN:Dp X.K Z r g)(hc:CU X (.type Ty) r)(hm:X.mg x=none)(hv:bootBuiltins x=some (.type Ty))(ha:FA X Z (e::es) fa)(hg:Gl X x:=by rfl)(hn:x≠"__name__":=by decide)(bh:(x==("__debug__":Str))=false:=by decide)
  (he:starEach (e::es) X.env=(false,eval e X.env)::starEach es X.env:=by rfl) (aD:(backTo pos (starEach es X.env)).any (·.1)=false:=by rfl):FE X Z (.Call (.Name x p) (e::es) [] pos) (Ai g fa) :=
 AY (Ot hc hg hm hv ha hn bh he aD) λU H Q ⟨F,B,fs,ok,s⟩=>⟨F,B,fs,ok,AG s λrs aj F1 H1 us l q s1=>iN F1 B H1 U aj rs us Q q.1 q.2 s1⟩
end
noncomputable def Jbc:List Rv->FS->Out Rv
 | [x],fs=>match Cs fs x with|some ts=>okT (.int ts.length) fs|none=>match K3 x with|some ts=>okT (.int ts.length) fs|none=>.bad
 |_,_=>.bad
noncomputable def Pm:List Rv->FS->Out Rv
 | [.t (.str z)],fs=>if z.length<=big then okT (.int z.length) fs else .bad
 |_,_=>.bad
noncomputable def IW:List Rv->FS->Out Rv
 | [.t (.int i),.t (.int j)],fs=>okT (.int (if j<i then j else i)) fs
 |_,_=>.bad
noncomputable def Nh:List Rv->FS->Out Rv
 | [.t (.int i)],fs=>okT (.int i) fs
 | [.t (.o k)],fs=>okT (.int (if k then 1 else 0)) fs
 |_,_=>.bad
noncomputable def T3:List Rv->FS->Out Rv
 | [x],fs=>match(Cs fs x).bind BW with|some ns=>okT (.int ns.sum) fs|none=>.bad
 |_,_=>.bad
noncomputable def Ze:List Rv->FS->Out Rv
 | [x],fs=>match(Cs fs x).bind Dn with|some ns=>okT (.o (ns.all id)) fs|none=>.bad
 |_,_=>.bad
noncomputable def Wh:List Rv->FS->Out Rv
 | [x],fs=>match Cs fs x with|some ts=>.ok (.nw (.lst ts)) fs|none=>match K3 x with|some ts=>.ok (.nw (.lst ts)) fs|none=>.bad
 |_,_=>.bad
noncomputable def BP:List Rv->FS->Out Rv
 | [x],fs=>match Cs fs x with|some ts=>okT (.tup ts) fs|none=>match K3 x with|some ts=>okT (.tup ts) fs|none=>.bad
 |_,_=>.bad
noncomputable def VT:Key->T
 |.inl i=>.int i
 |.inr x=>.str x
noncomputable def Pl:List Rv->FS->Out Rv
 | [.t (.l ks _)],fs=>.ok (.nw (.lst (ks.map VT))) fs
 |_,_=>.bad
theorem Bh{x}(h:Jm K F H U [x] vs):∃v,vs=[v]/\Eh K F H U x v:=by obtain⟨v,w,rfl,h1,h2⟩:=h;have:=h2;subst this;exact⟨v,rfl,h1⟩
theorem ZX:Dp K Z (λxs H Q=>∃p ys,xs=[.ref p]/\(SqL K H p ys\/SqT K H p ys)/\Q (.int ys.length) H) Jbc:=by
 intro F B H U fs rs vs Q ok q s;unfold Jbc at s;split at s
 .obtain⟨v,rfl,qq⟩:=Bh q;have q:=qq;split at s
  next ts e=>obtain⟨a,us,rfl,hs,r⟩:=Bg ok q e;exact⟨a,us,rfl,.inl hs,by rw[r.len];exact s F H _ Le.refl (RR.of ok rfl)⟩
  .split at s
   next ts e=>obtain⟨a,us,rfl,hs,r⟩:=BG q e;exact⟨a,us,rfl,.inr hs,by rw[r.len];exact s F H _ Le.refl (RR.of ok rfl)⟩
   .exact s.elim
 .exact s.elim
theorem WQ:Dp K Z (λxs H Q=>∃z,xs=[.str z]/\z.length<=sizeLine/\Q (.int z.length) H) Pm:=by
 intro F B H U fs rs vs Q ok q s;unfold Pm at s;split at s
 .rename_i z;obtain⟨v,rfl,qq⟩:=Bh q;cases qq;split at s
  next hz=>exact⟨z,rfl,tY hz D1,s F H _ Le.refl (RR.of ok rfl)⟩
  .exact s.elim
 .exact s.elim
theorem WN:Dp K Z (λxs H Q=>∃i j,xs=[.int i,.int j]/\Q (.int (if j<i then j else i)) H) IW:=by
 intro F B H U fs rs vs Q ok q s;unfold IW at s;split at s
 next i j=>obtain⟨v,w,rfl,q1,v2,w2,rfl,q2,q3⟩:=q;cases q1;cases q2;cases q3;exact⟨i,j,rfl,s F H _ Le.refl (RR.of ok rfl)⟩
 .exact s.elim
theorem WS:Dp K Z (λxs H Q=>(∃i,xs=[.int i]/\Q (.int i) H)\/∃k,xs=[.o k]/\Q (.int (if k then 1 else 0)) H) Nh:=by
 intro F B H U fs rs vs Q ok q s;unfold Nh at s;split at s
 .obtain⟨v,rfl,qq⟩:=Bh q;have q:=qq;cases q;exact .inl ⟨_,rfl,s F H _ Le.refl (RR.of ok rfl)⟩
 .obtain⟨v,rfl,qq⟩:=Bh q;cases qq;exact .inr ⟨_,rfl,s F H _ Le.refl (RR.of ok rfl)⟩
 .exact s.elim
theorem ZW:Dp K Z (λxs H Q=>∃(l:Addr)(ns:List Int),xs=[.ref l]/\SqL K H l (ns.map V.int)/\Q (.int ns.sum) H) T3:=by
 intro F B H U fs rs vs Q ok q s;unfold T3 at s;split at s
 .obtain⟨v,rfl,qq⟩:=Bh q;split at s
  next ns e=>rw[tV]at e;obtain⟨ts,e1,e2⟩:=e;obtain⟨a,us,rfl,hs,r⟩:=Bg ok qq e1;rw[He e2]at r;rw[Al.ints r]at hs;exact⟨a,ns,rfl,hs,s F H _ Le.refl (RR.of ok rfl)⟩
  .exact s.elim
 .exact s.elim
theorem ZZ:Dp K Z (λxs H Q=>∃(l:Addr)(bs:List Bool),xs=[.ref l]/\SqL K H l (bs.map V.o)/\Q (.o (bs.all id)) H) Ze:=by
 intro F B H U fs rs vs Q ok q s;unfold Ze at s;split at s
 .obtain⟨v,rfl,qq⟩:=Bh q;split at s
  next ns e=>rw[tV]at e;obtain⟨ts,e1,e2⟩:=e;obtain⟨a,us,rfl,hs,r⟩:=Bg ok qq e1;rw[EU e2]at r;rw[Al.bls r]at hs;exact⟨a,ns,rfl,hs,s F H _ Le.refl (RR.of ok rfl)⟩
  .exact s.elim
 .exact s.elim
theorem WO:Dp K Z (λxs H Q=>∃p ys,xs=[.ref p]/\(SqL K H p ys\/SqT K H p ys)/\∀l,H l=none->Q (.ref l) (upd H l (.lst ys))) Wh:=by
 intro F B H U fs rs vs Q ok q s;unfold Wh at s;split at s
 .obtain⟨v,rfl,qq⟩:=Bh q;have q:=qq;split at s
  next ts e=>obtain⟨a,us,rfl,hs,r⟩:=Bg ok q e;exact⟨a,us,rfl,.inl hs,λp hp=>s F (upd H p (.lst us)) (.ref p) (AZ ok hp) (RR.alloc ok hp (CW As (r.le (AZ ok hp))))⟩
  .split at s
   next ts e=>obtain⟨a,us,rfl,hs,r⟩:=BG q e;exact⟨a,us,rfl,.inr hs,λp hp=>s F (upd H p (.lst us)) (.ref p) (AZ ok hp) (RR.alloc ok hp (CW As (r.le (AZ ok hp))))⟩
   .exact s.elim
 .exact s.elim
theorem E1{p}(ok:Okk K F B H fs U)(hp:H p=none)(r:Al K F H ts us):RR K B U (Qo F p) (upd H p (.tup us)) fs (.t (.tup ts)) (.ref p):=by refine RR.of (ok.alloc hp) ?_;exact⟨p,us,rfl,⟨rfl,.inr rfl,As⟩,r.le (A3 ok hp)⟩
theorem MV{p}(ok:Okk K F B H fs U)(hp:H p=none)(r:Al K F H ts us):RR K B U (Qo F p) (upd H p (.lst us)) fs (.t (.lst ts)) (.ref p):=by refine RR.of (ok.alloc hp) ?_;exact⟨p,us,rfl,.inr rfl,As,r.le (A3 ok hp)⟩
theorem SS:Dp K Z (λxs H Q=>∃p ys,xs=[.ref p]/\((SqL K H p ys/\∀l,H l=none->Q (.ref l) (upd H l (.tup ys)))\/(SqT K H p ys/\Q (.ref p) H))) BP:=by
 intro F B H U fs rs vs Q ok q s;unfold BP at s;split at s
 .rename_i x;obtain⟨v,rfl,qq⟩:=Bh q;have q:=qq;split at s
  next ts e=>obtain⟨a,us,rfl,hs,r⟩:=Bg ok q e;exact⟨a,us,rfl,.inl ⟨hs,λp hp=>s _ _ (.ref p) (A3 ok hp) (E1 ok hp r)⟩⟩
  .split at s
   .rename_i ts e;obtain⟨a,us,rfl,hs,r⟩:=BG q e;have ex:x=.t (.tup ts):=by
     unfold K3 at e;split at e
     .cases e;rfl
     .cases e
    rw[ex]at q;exact⟨a,us,rfl,.inr ⟨hs,s F H _ Le.refl (RR.of ok q)⟩⟩
   .exact s.elim
 .exact s.elim
theorem IP:∀ks:List Key,Al K F H (ks.map VT) (ks.map kV)
 | []=>by simp[Al]
 |.inl i::r=>by exact⟨_,_,rfl,rfl,IP r⟩
 |.inr i::r=>by exact⟨_,_,rfl,rfl,IP r⟩
theorem SU:Dp K Z (λxs H Q=>∃p ah,xs=[.ref p]/\Rd H p (.l ah)/\∀l,H l=none->Q (.ref l) (upd H l (.lst (ah.map λkv=>kV kv.1)))) Pl:=by
 intro F B H U fs rs vs Q ok q s;unfold Pl at s;split at s
 .rename_i ks ts;obtain⟨v,rfl,qq⟩:=Bh q;have q:=qq;obtain⟨a,ah,rfl,f,hd,rfl,r⟩:=q;refine⟨a,ah,rfl,hd,λp hp=>s F _ (.ref p) (AZ ok hp) (RR.alloc ok hp (CW As ?_))⟩;have e:(ah.map λkv=>kV kv.1)=(ah.map (·.1)).map kV:=by rw[ua];rfl
  rw[e];exact IP _
 .exact s.elim
def MtF(K:Fg)(Z:Xp)(r:V->List V->Hp->VK->Prop)(g:Rv->List Rv->FS->Out Rv):Prop:=∀(F:Wd)(B:Nat->Option V)(H:Hp)(U:St)(fs:FS)(x:Rv)(rs:List Rv)(u:V)(vs:List V)(Q:VK),Okk K F B H fs U->Eh K F H U x u->Jm K F H U rs vs ->
 sat Z B (RR K B U) F H (g x rs fs) Q->r u vs H Q
noncomputable def BC(g:Rv->List Rv->FS->Out Rv)(fo:FS->Out Rv)(fa:FS->Out (List Rv)):FS->Out Rv:=λfs=>(fo fs).bnd λx fs=>if(Cs fs x).isSome=true then(fa fs).bind λrs fs=>g x rs fs else .bad
noncomputable def IL(g:Rv->List Rv->FS->Out Rv)(fo:FS->Out Rv)(fa:FS->Out (List Rv)):FS->Out Rv:=λfs=>(fo fs).bnd λx fs=>match x with
 |.t (.str _)=>(fa fs).bind λrs fs=>g x rs fs
 |_=>.bad
variable{o:Expr}{fo:FS->Out Rv}{g:Rv->List Rv->FS->Out Rv}{r:V->List V->Hp->VK->Prop}{aw ax:Pos}{name:Str}
section
variable{id:String}
theorem Sx(hg:MtF X.K Z r g)(slot:Slot "list" name id)(fA:typeOf (.builtin id)=pure (.type "method_descriptor"))(hm:MtR X id r)(ho:FE X Z o fo)(ha:FA X Z (e::es) fa)
  (aO:attributeBase o name X.env (eval o X.env)=eval o X.env:=by rfl)
  (eC:((backTo ax (starEach (e::es) X.env)).all (λx=>!x.1)&&(backToKw ax (keywordEach [] X.env)).all (λx=>x.1.isSome)
  &&decide ((e::es).length+([]:List Keyword).length+(if([]:List Keyword).isEmpty then 0 else 1)<30))=true:=by rfl)
  (aP:(aw.endLine==ax.line)=true:=by rfl) (hs:starEach (e::es) X.env=(false,eval e X.env)::starEach es X.env:=by rfl) (cb:(backTo ax (starEach es X.env)).any (·.1)=false:=by rfl) :
  FE X Z (.Call (.Attribute o name aw) (e::es) [] ax) (BC g fo fa):=by
 refine AY (Vh plainAttrs_list slot fA hm ho ha aO eC aP hs cb) λU H Q ao => ?_
 obtain⟨F,B,fs,ok,s⟩:= ao;refine⟨F,B,fs,ok,AJ s λx aj F1 H1 u l av rx s1=>?_⟩;split at s1
 next he=>obtain⟨ts,kW⟩:=uN.mp he;obtain⟨a,vs,rfl,hs,q⟩:=Bg av rx kW;exact⟨.inl ⟨rfl,vs,hs⟩,F1,B,aj,av,AG s1 λrs aB F2 H2 us l2 q2 s2=>hg F2 B H2 U aB x rs _ us Q q2.1 (rx.le l2) q2.2 s2⟩
 .exact s1.elim
theorem ZJ(hg:MtF X.K Z r g)(slot:Slot "str" name id)(fA:typeOf (.builtin id)=pure (.type "method_descriptor"))(hm:MtR X id r)(ho:FE X Z o fo)(ha:FA X Z (e::es) fa)
  (aO:attributeBase o name X.env (eval o X.env)=eval o X.env:=by rfl)
  (eC:((backTo ax (starEach (e::es) X.env)).all (λx=>!x.1)&&(backToKw ax (keywordEach [] X.env)).all (λx=>x.1.isSome)
  &&decide ((e::es).length+([]:List Keyword).length+(if([]:List Keyword).isEmpty then 0 else 1)<30))=true:=by rfl)
  (aP:(aw.endLine==ax.line)=true:=by rfl) (hs:starEach (e::es) X.env=(false,eval e X.env)::starEach es X.env:=by rfl) (cb:(backTo ax (starEach es X.env)).any (·.1)=false:=by rfl) :
  FE X Z (.Call (.Attribute o name aw) (e::es) [] ax) (IL g fo fa):=by
 refine AY (Vh PySem.F.plainAttrs_str slot fA hm ho ha aO eC aP hs cb) λU H Q ao => ?_
 obtain⟨F,B,fs,ok,s⟩:= ao;refine⟨F,B,fs,ok,AJ s λx aj F1 H1 u l av rx s1=>?_⟩;split at s1
 .have kb:=rx;cases rx;exact⟨rfl,F1,B,aj,av,AG s1 λrs aB F2 H2 us l2 q2 s2=>hg F2 B H2 U aB _ rs _ us Q q2.1 (Eh.le kb l2) q2.2 s2⟩
 .exact s1.elim
end
noncomputable def Fv:Rv->List Rv->FS->Out Rv
 |.n i,[.t t],fs=>match AH fs i with|some (.lst ts)=>if ts.length<big then .ok (.t .v) (putAt fs i (.lst (ts++[t])))else .bad|_=>.bad
 |_,_,_=>.bad
noncomputable def Jam:Rv->List Rv->FS->Out Rv
 |.n i,[.t (.lst us)],fs=>match AH fs i with|some (.lst ts)=>if ts.length+us.length<=big then .ok (.t .v) (putAt fs i (.lst (ts++us)))else .bad|_=>.bad
 |_,_,_=>.bad
noncomputable def GG:Rv->List Rv->FS->Out Rv
 |.t (.str z),[x],fs=>match(Cs fs x).bind Cv with|some ys=>if(ys.map (·.length)).sum+ys.length*z.length<=big then okT (.str (Txt.join z ys)) fs else .bad|none=>.bad
 |_,_,_=>.bad
theorem Al.last(r:Al K F H ts vs)(e:ts.getLast?=some t):∃z,vs=vs.dropLast++[z]/\Bf K F H t z/\Al K F H ts.dropLast vs.dropLast:=by
 have hl:=r.len;rw[List.getLast?_eq_getElem?]at e;obtain⟨z,ez,rz⟩:=r.at e;have eF:=by have:=(tu.mp e).1;omega
 refine⟨z,?_,rz,?_⟩
 .have bV:vs≠[]:=by intro q;rw[q]at hl;simp at hl;omega
  have h1:=(List.dropLast_concat_getLast bV).symm;have h2:vs.getLast bV=z:=by
   rw[List.getLast_eq_getElem];have:=(tu.mp ez)
   obtain⟨h3,h4⟩:=this;rw[<- h4];congr 1;rw[hl]
  rwa[h2]at h1
 .rw[List.dropLast_eq_take,List.dropLast_eq_take,hl];exact r.take _
theorem Okk.list(h:Okk K F B H fs U)(r:U[i]?=some (some u))(e:AH fs i=some (.lst ts)):∃a vs,u=.ref a/\H a=some (.lst vs)/\Al K F H ts vs /\
  ∀ki eQ,Al K F H ki eQ->Okk K F B (upd H a (.lst eQ)) (putAt fs i (.lst ki)) U/\Le F H F (upd H a (.lst eQ)):=by
 obtain⟨v,L2,e1,q,nf,_,k⟩:=h.own e;rw[e1]at r;have e3:v=u:=by simpa using r
 subst e3;obtain⟨a,vs,rfl,hs,q,rfl⟩:=q;refine⟨a,vs,rfl,hs,q,λki eQ q'=>?_⟩;have l:Le F H F (upd H a (.lst eQ)):=⟨λb f=>⟨f,Ap λz=>(nf a (by simp)).1 (z▸f)⟩,λb f=>⟨f,Ap λz=>(nf a (by simp)).2 (z▸f)⟩⟩
 exact k _ _ (λb hb _=>Ap (by simpa using hb)) (CW As (q'.le l))
theorem YI:MtF K Z Od Fv:=by
 intro F B H U fs x rs u vs Q ok rx q s;unfold Fv at s;split at s
 .rename_i i t;obtain⟨v,rfl,qq⟩:=Bh q;split at s
  .rename_i ts e;split at s
   next hl=>obtain⟨a,us,rfl,hs,r,k⟩:=ok.list rx e;obtain⟨bS,l⟩:=k (ts++[t]) (us++[v]) (r.app (Al.one qq));exact⟨a,us,v,rfl,rfl,hs,by rw[r.len];exact uD hl Fw,s F _ _ l (RR.of bS rfl)⟩
   .exact s.elim
  .exact s.elim
 .exact s.elim
theorem YH:MtF K Z Iz Jam:=by
 intro F B H U fs x rs u vs Q ok rx q s;unfold Jam at s;split at s
 .rename_i i ws;obtain⟨v,rfl,qq⟩:=Bh q;have q:=qq;split at s
  .rename_i ts e;split at s
   next hl=>obtain⟨a,us,rfl,hs,r,k⟩:=ok.list rx e;obtain⟨b,zs,rfl,f,hb,rz⟩:=q;obtain⟨bS,l⟩:=k _ _ (r.app rz);exact⟨a,b,us,zs,rfl,rfl,hs,hb,by rw[r.len,rz.len];exact tY hl D1,s F _ _ l (RR.of bS rfl)⟩
   .exact s.elim
  .exact s.elim
 .exact s.elim
theorem VL:MtF K Z (λx xs H Q=>∃(z:Str)(l:Addr)(ys:List Str),x=.str z/\xs=[.ref l]/\SqL K H l (ys.map V.str)/\(ys.map (·.length)).sum+ys.length*z.length<=16777216/\Q (.str (Txt.join z ys)) H) GG:=by
 intro F B H U fs x rs u vs Q ok rx q s;unfold GG at s;split at s
 .rename_i z x;obtain⟨v,rfl,qq⟩:=Bh q;cases rx;split at s
  .rename_i ys e;rw[tV]at e;obtain⟨ts,e1,e2⟩:=e;split at s
   next hl=>obtain⟨a,us,rfl,hs,r⟩:=Bg ok qq e1;rw[KP e2]at r;rw[Al.strs r]at hs;exact⟨z,a,ys,rfl,rfl,hs,tY hl (by decide),s F H _ Le.refl (RR.of ok rfl)⟩
   .exact s.elim
  .exact s.elim
 .exact s.elim
noncomputable def HD:T->Option Key
 |.int i=>some (.inl i)
 |.str x=>some (.inr x)
 |_=>none
noncomputable def Hj:List T->Option (List Key)
 | []=>some []
 |t::r=>(HD t).bind λk=>(Hj r).map (k::·)
theorem D7(e:HD t=some k)(r:Bf K F H t u):u=kV k:=by
 unfold HD at e;split at e
 .cases e;exact r
 .cases e;exact r
 .cases e
theorem ED:∀{ts:List T}{us:List V}{ks:List Key},Hj ts=some ks->Al K F H ts us->us=ks.map kV
 | [],_,_,e,r=>by cases e;exact r
 |t::ts,_,_,e,r=>by simp only[Hj,tV,tq]at e;obtain⟨k,e1,ks,e2,rfl⟩:=e;obtain⟨v,w,rfl,r1,r2⟩:=r;rw[sW,ED e2 r2,D7 e1 r1]
noncomputable def Cn{κ:Type}[DecidableEq κ]:List κ->List T->κ->Option T
 |k::ks,t::ts,j=>if k=j then some t else Cn ks ts j
 |_,_,_=>none
noncomputable def E2{κ:Type}[DecidableEq κ](ks:List κ)(ts:List T)(j:κ)(v:T):List κ×List T :=
 if(ks.any λk=>decide (k=j))=true then(ks,List.zipWith (λk t=>if k=j then v else t) ks ts)else(ks++[j],ts++[v])
section
variable{κ:Type}[DecidableEq κ]
theorem Im:∀{ah:List (κ×V)}{ts:List T}{j:κ},Al K F H ts (ah.map (·.2))->(Cn (ah.map (·.1)) ts j=none/\K0 ah j=none)\/∃t v,Cn (ah.map (·.1)) ts j=some t/\K0 ah j=some v/\Bf K F H t v
 | [],ts,j,r=>by have h:=r.len;cases ts with|nil=>exact .inl ⟨rfl,rfl⟩|cons t ts=>simp at h
 |(k,v)::ah,ts,j,r=>by
  cases ts with
  |nil =>have h:=r.len;simp at h
  |cons t ts =>
   obtain⟨v',w,e,r1,r2⟩:=r;cases e;by_cases hk:k=j
   .refine .inr ⟨t,v,?_,EB hk,r1⟩;simp only[sW,Cn];rw[if_pos hk]
   .have e1:Cn (((k,v)::ah).map (·.1)) (t::ts) j=Cn (ah.map (·.1)) ts j:=by simp only[sW,Cn];rw[if_neg hk]
    rw[e1,EC hk];exact Im r2
theorem NL(q:Bf K F H t w):∀{ah:List (κ×V)}{ts:List T},Al K F H ts (ah.map (·.2)) ->
  Al K F H (List.zipWith (λk t'=>if k=j then t else t') (ah.map (·.1)) ts) ((ah.map λkv=>if kv.1=j then(kv.1,w)else kv).map (·.2))
 | [],ts,r=>by have h:=r.len;cases ts with|cons t ts=>simp at h|nil=>exact rfl
 |(k,v)::ah,ts,r=>by
  cases ts with
  |nil =>have h:=r.len;simp at h
  |cons t' ts =>
   obtain⟨v',w',e,r1,r2⟩:=r;cases e;have ih:=NL q (j:=j) r2;simp only[sW,List.zipWith_cons_cons];by_cases hk:k=j
   .rw[if_pos hk,if_pos hk];exact⟨w,_,rfl,q,ih⟩
   .rw[if_neg hk,if_neg hk];exact⟨v,_,rfl,r1,ih⟩
theorem FN(q:Bf K F H t w){ah:List (κ×V)}(r:Al K F H ts (ah.map (·.2))):
  (putK ah j w).map (·.1)=(E2 (ah.map (·.1)) ts j t).1/\Al K F H (E2 (ah.map (·.1)) ts j t).2 ((putK ah j w).map (·.2)):=by
 have e:((ah.map (·.1)).any λk=>decide (k=j))=(ah.any λkv=>decide (kv.1=j)):=by rw[List.any_map];rfl
 unfold putK E2;rw[e];by_cases h:(ah.any λkv=>decide (kv.1=j))=true
 .rw[if_pos h,if_pos h];refine⟨?_,NL q r⟩;rw[ua];refine List.map_congr_left λp hp=>?_
  show(if p.1=j then(p.1,w)else p).1=p.1;split<;>rfl
 .rw[if_neg h,if_neg h];refine⟨by rw[tL];rfl,?_⟩;rw[tL];exact r.app (Al.one q)
end
noncomputable def WJ(fs:FS):Rv->T->Option (Option T)
 |.t (.l ks ts),y=>(HD y).map λk=>Cn ks ts k
 |.t (.dF ks ts),y=>(HD y).map λk=>Cn ks ts k
 |.t (.dT ks ts),.tup y=>(Hj y).map λk=>Cn ks ts k
 |.n i,y=>match AH fs i with
  |some (.l ks ts)=>(HD y).map λk=>Cn ks ts k
  |some (.dT ks ts)=>match y with
   |.tup y=>(Hj y).map λk=>Cn ks ts k
   |_=>none
  |_=>none
 |_,_=>none
variable{x:Rv}{y:T}{w:V}
theorem PU{o}(h:Okk K F B H fs U)(rx:Eh K F H U x u)(ry:Bf K F H y w)(e:WJ fs x y=some o):
  ∃a o',u=.ref a/\KW H a w o'/\((o=none/\o'=none)\/∃t v,o=some t/\o'=some v/\Bf K F H t v):=by
 have key:∀{a:Addr}{ah:List (Key×V)}{ts:List T},Rd H a (.l ah)->Al K F H ts (ah.map (·.2))->(HD y).map (λk=>Cn (ah.map (·.1)) ts k)=some o ->
   ∃o',KW H a w o'/\((o=none/\o'=none)\/∃t v,o=some t/\o'=some v/\Bf K F H t v):=by
  intro a ah ts hd r e;rw[tq]at e;obtain⟨k,ek,eo⟩:=e;have:=D7 ek ry;subst this;refine⟨_,.inl ⟨ah,k,hd,rfl,rfl⟩,?_⟩;rcases Im r with⟨h1,h2⟩|⟨t,v,h1,h2,h3⟩
  .exact .inl ⟨eo.symm.trans h1,h2⟩
  .exact .inr ⟨t,v,eo.symm.trans h1,h2,h3⟩
 have VT:∀{a:Addr}{ah:List (List Key×V)}{ts ys:List T},H a=some (.dT ah)->Al K F H ts (ah.map (·.2))->y=.tup ys->(Hj ys).map (λk=>Cn (ah.map (·.1)) ts k)=some o ->
   ∃o',KW H a w o'/\((o=none/\o'=none)\/∃t v,o=some t/\o'=some v/\Bf K F H t v):=by
  intro a ah ts ys hd r ey e;rw[tq]at e;obtain⟨k,ek,eo⟩:=e;subst ey;obtain⟨b,vs,rfl,hb,rb⟩:=ry;have:=ED ek rb;subst this;refine⟨_,KW.t hd hb.2.2,?_⟩;rcases Im r with⟨h1,h2⟩|⟨t,v,h1,h2,h3⟩
  .exact .inl ⟨eo.symm.trans h1,h2⟩
  .exact .inr ⟨t,v,eo.symm.trans h1,h2,h3⟩
 unfold WJ at e;split at e
 .simp only[Eh,Bf]at rx;obtain⟨a,ah,rfl,f,hd,rfl,r⟩:=rx;obtain⟨o',h1,h2⟩:=key hd r e;exact⟨a,o',rfl,h1,h2⟩
 .simp only[Eh,Bf]at rx;obtain⟨a,ah,rfl,f,⟨ob,hd⟩,rfl,r⟩:=rx;obtain⟨o',h1,h2⟩:=key (.inr ⟨ob,hd⟩) r e;exact⟨a,o',rfl,h1,h2⟩
 .simp only[Eh,Bf]at rx;obtain⟨a,ah,rfl,f,hd,rfl,r⟩:=rx;obtain⟨o',h1,h2⟩:=VT hd r rfl e;exact⟨a,o',rfl,h1,h2⟩
 .rename_i y' i;have e2:U[i]?=some (some u):=rx;split at e
  .rename_i eo;obtain⟨v,L2,e1,q,_⟩:=h.own eo;rw[e1]at e2;have e3:v=u:=by simpa using e2
   subst e3;obtain⟨a,ah,rfl,hd,rfl,r,_⟩:=q;obtain⟨o',h1,h2⟩:=key (.inl hd) r e;exact⟨a,o',rfl,h1,h2⟩
  .rename_i eo;split at e
   .obtain⟨v,L2,e1,q,_⟩:=h.own eo;rw[e1]at e2;have e3:v=u:=by simpa using e2
    subst e3;obtain⟨a,ah,rfl,hd,rfl,r,_⟩:=q;obtain⟨o',h1,h2⟩:=VT hd r rfl e;exact⟨a,o',rfl,h1,h2⟩
   .cases e
  .cases e
 .cases e
noncomputable def Pn:Rv->Rv->FS->Out Rv
 |x,.t y,fs=>match WJ fs x y with|some (some t)=>okT t fs|_=>.bad
 |_,_,_=>.bad
noncomputable def Wi(neg:Bool):Rv->Rv->FS->Out Rv
 |.t y,x,fs=>match WJ fs x y with|some o=>okT (.o (if neg then !o.isSome else o.isSome)) fs|_=>.bad
 |_,_,_=>.bad
variable{i:Expr}{fi:FS->Out Rv}
noncomputable def Jq:List Str->List T->Str->Option T
 |f::fs,t::ts,g=>if g==f then some t else Jq fs ts g
 |_,_,_=>none
noncomputable def A9:List Str->List FO->Str->Option FO
 |f::fs,t::ts,g=>if g==f then some t else A9 fs ts g
 |_,_,_=>none
noncomputable def Sg(C:Addr)(f:Str):Rv->FS->Out Rv
 |.t (.ins C' fs ts),st=>if C'=C then match Jq fs ts f with|some t=>okT t st|none=>.bad
  else .bad
 |.n i,st=>match AH st i with
  |some (.ins C' fs os)=>if C'=C then match A9 fs os f with|some (.val t)=>okT t st|_=>.bad
   else .bad
  |_=>.bad
 |_,_=>.bad
theorem LM{g}:∀{ah:List (Str×V)}{ts:List T}{t:T},Al K F H ts (ah.map (·.2))->Jq (ah.map (·.1)) ts g=some t->∃v,ah.lookup g=some v/\Bf K F H t v
 | [],ts,t,r,e=>by cases ts<;>simp[Jq]at e
 |(k,v)::ah,ts,t,r,e=>by cases ts with|nil=>simp[Jq]at e|cons t' ts =>obtain⟨v',w',ee,r1,r2⟩:=r;cases ee;simp only[sW,Jq]at e;rw[ud];cases hb:g==k with|true =>rw[hb]at e;cases e;exact⟨v,rfl,r1⟩|false =>rw[hb]at e;exact LM r2 (by simpa using e)
theorem Jw{g}:∀{ah:List (Str×V)}{ts:List FO}{L:List Addr}{t:FO},AK K F H ts (ah.map (·.2)) L->A9 (ah.map (·.1)) ts g=some t->∃v L',ah.lookup g=some v/\A8 K F H t v L'/\∀a∈L',a∈L
 | [],ts,L,t,r,e=>by cases ts<;>simp[A9]at e
 |(k,v)::ah,ts,L,t,r,e=>by cases ts with|nil=>simp[A9]at e|cons t' ts =>obtain⟨v',w',L1,L2,ee,r1,r2,rfl⟩:=r;cases ee;simp only[sW,A9]at e;rw[ud];cases hb:g==k with|true =>rw[hb]at e;cases e;exact⟨v,L1,rfl,r1,λa m=>tH _ m⟩|false =>rw[hb]at e;obtain⟨v2,L',h1,h2,h3⟩:=Jw r2 (by simpa using e);exact⟨v2,L',h1,h2,λa m=>tB _ (h3 a m)⟩
noncomputable def CJ(C:Addr)(f:Str)(fo:FS->Out Rv):FS->Out Rv:=λfs=>(fo fs).bnd λx fs=>Sg C f x fs
variable{C:Addr}{f:Str}
theorem ZG(c:Cls X.K C)(n:A2 X.K C f)(ho:FE X Z o fo)(hb:attributeBase o f X.env (eval o X.env)=eval o X.env:=by rfl):FE X Z (.Attribute o f pos) (CJ C f fo):=by
 refine AY (Fp ho hb) λU H Q ao => ?_
 obtain⟨F,B,fs,ok,s⟩:= ao;refine⟨F,B,fs,ok,AJ s λx aj F1 H1 u l av rx s1=>?_⟩;unfold Sg at s1;split at s1
 .rename_i C' gs ts;split at s1
  .rename_i hC;subst hC;split at s1
   next t e=>obtain⟨a,dx,ah,rfl,ff,hd,rfl,r⟩:=rx;obtain⟨v,e1,rv⟩:=LM r e;exact⟨a,C',dx,ah,v,rfl,hd,c,n,e1,s1 F1 H1 v Le.refl (RR.of av rv)⟩
   .exact s1.elim
  .exact s1.elim
 .rename_i i;split at s1
  .rename_i C' gs os eo;split at s1
   .rename_i hC;subst hC;split at s1
    .rename_i t e;obtain⟨v,L2,e1,q,_⟩:=av.own eo;have e2:U[i]?=some (some u):=rx;rw[e1]at e2;have e3:v=u:=by simpa using e2
     subst e3;obtain⟨a,dx,ah,L',rfl,hd,rfl,r,_⟩:=q;obtain⟨v2,L3,e4,r4,_⟩:=Jw r e;exact⟨a,C',dx,ah,v2,rfl,hd,c,n,e4,s1 F1 H1 v2 Le.refl (RR.of av r4.2)⟩
    .exact s1.elim
   .exact s1.elim
  .exact s1.elim
 .exact s1.elim
def FK(K:Fg)(Z:Xp)(B:Nat->Option V)(F:Wd)(H:Hp)(o:SO)(D:Ends):Prop:=match o with|.nx fs=>∀F' H' U,Le F H F' H'->Okk K F' B H' fs U->D.nx U H'|.ret r fs=>∀F' H' U u,Le F H F' H'->RR K B U F' H' fs r u->D.rt u H'|.brk fs=>∀F' H' U,Le F H F' H'->Okk K F' B H' fs U->D.bk U H'|.cnt fs=>∀F' H' U,Le F H F' H'->Okk K F' B H' fs U->D.ct U H'|.exc c fs=>Z.p F B H c fs|.bad=>False
def tSt(K:Fg)(Z:Xp)(g:FS->SO):TS:=λD U H=>∃F B fs,Okk K F B H fs U/\FK K Z B F H (g fs) D
def GS(X:Cx)(Z:Xp)(st:Stmt)(g:FS->SO):Prop:=PS X st (tSt X.K Z g)
def GSs(X:Cx)(Z:Xp)(kg:List Stmt)(g:FS->SO):Prop:=PSs X kg (tSt X.K Z g)
theorem FK.le{o}(h:FK K Z B F H o D)(l:Le F H F' H'):FK K Z B F' H' o D:=by
 cases o with
 |nx fs=>exact λF2 H2 U l2 k=>h F2 H2 U (l.trans l2) k
 |ret r fs=>exact λF2 H2 U u l2 k=>h F2 H2 U u (l.trans l2) k
 |brk fs=>exact λF2 H2 U l2 k=>h F2 H2 U (l.trans l2) k
 |cnt fs=>exact λF2 H2 U l2 k=>h F2 H2 U (l.trans l2) k
 |exc c fs=>exact Z.mono h l
 |bad=>exact h
noncomputable def nxS:FS->SO:=λfs=>.nx fs
noncomputable def Av(g h:FS->SO):FS->SO:=λfs=>match g fs with|.nx fs=>h fs|o=>o
noncomputable def SO.of{α:Type}(o:Out α)(k:α->FS->SO):SO:=match o with|.ok a fs=>k a fs|.exc c fs=>.exc c fs|.bad=>.bad
theorem Cq{o}(h:FK K Z B F H (SO.of o k) D)
  (hk:∀a fs F' H' b,Le F H F' H'->R F' H' fs a b->FK K Z B F' H' (k a fs) D->Q b H'):sat Z B R F H o Q:=by
 cases o with
 |ok a fs=>exact λF2 H2 b l r=>hk a fs F2 H2 b l r (FK.le h l)
 |exc c fs=>exact h
 |bad=>exact h
noncomputable def XZ(i:Nat)(r:Rv)(fs:FS):Option FS:=match r with|.t t=>some (fs.set i (some (.val t)))|.nw o=>some (fs.set i (some (.own o)))|.n _=>none
noncomputable def MT(i:Nat)(r:Rv)(fs:FS):Option FS:=match fs[i]? with|none=>none|some (some (.bor _))=>none|some _=>XZ i r fs
theorem K2{i}{r}(h:RR K B U F H fs r u)(e:MT i r fs=some ar):Okk K F B H ar (U.set i (some u)):=by
 obtain⟨L,L',ok,q,nd,nf⟩:=h;have key:∀s:Option Sl,fs[i]?=some s->(∀o,s≠some (.bor o))->XZ i r fs=some ar->Okk K F B H ar (U.set i (some u)):=by
  intro s es hb e;obtain⟨v,L1,L2,L3,e1,rfl,h1,h2⟩:=ok.sl.pick es;have kE:∀a∈L1++(L'++L3),¬F a/\¬F.p a:=λa m=>by
   rcases tE.mp m with m|m
   .exact⟨ok.nf a (by simp[m]),ok.pl a (by simp[m])⟩
   .rcases tE.mp m with m|m
    .exact nf a m
    .exact⟨ok.nf a (by simp[m]),ok.pl a (by simp[m])⟩
  cases r with
  |t t =>cases e;obtain⟨rfl,q⟩:=q;refine⟨L1++([]++L3),h2 F H (some (.val t)) (some u) [] Le.refl (λ_ _=>rfl) ⟨u,rfl,q,rfl⟩,CG ok.nd tJ (λ_ m=>nomatch m),λa m=>(kE a m).1,ok.fd,?_,ok.pd,ok.pf,λa m=>(kE a m).2⟩;exact FF.put ok.bo (λo eo=>by cases eo) ok.sl.len
  |nw o =>
   cases e;refine⟨L1++(L'++L3),h2 F H (some (.own o)) (some u) L' Le.refl (λ_ _=>rfl) ⟨u,rfl,q⟩,CG ok.nd (sT.mp nd).2.1 (λa m m2=>(sT.mp nd).2.2 a (by
   rcases tE.mp m2 with m2|m2
   .simp[m2]
   .simp[m2]) a m rfl),λa m=>(kE a m).1,ok.fd,?_,ok.pd,ok.pf,λa m=>(kE a m).2⟩
   exact FF.put ok.bo (λo eo=>by cases eo) ok.sl.len
  |n j=>cases e
 unfold MT at e;split at e
 .cases e
 .cases e
 next s hb es=>exact key s es (λo z=>hb o z) e
noncomputable def AL(i:Nat)(f:FS->Out Rv):FS->SO:=λfs=>SO.of (f fs) λr fs=>match MT i r fs with|some fs=>.nx fs|none=>.bad
noncomputable def AE(f:FS->Out Rv):FS->SO:=λfs=>SO.of (f fs) λ_ fs=>.nx fs
noncomputable def retS(f:FS->Out Rv):FS->SO:=λfs=>SO.of (f fs) λr fs=>.ret r fs
noncomputable def ifS(c:FS->Out Bool)(g h:FS->SO):FS->SO:=λfs=>SO.of (c fs) λb fs=>if b=true then g fs else h fs
variable{st:Stmt}{rest a b:List Stmt}{f:FS->Out Rv}{fc:FS->Out Bool}{g h:FS->SO}
theorem Pf:GSs X Z [] nxS:=Oe UX λD U H ⟨F,B,fs,ok,s⟩=>s F H U Le.refl ok
theorem Mp(h1:GS X Z st g)(h2:GSs X Z rest h):GSs X Z (st::rest) (Av g h):=by
 refine Oe (Q1 h1 h2) λD U H ao => ?_
 obtain⟨F,B,fs,ok,s⟩:= ao;refine⟨F,B,fs,ok,?_⟩;unfold Av at s;cases e:g fs with
 |nx aj =>rw[e]at s;exact λF1 H1 fG l k=>⟨F1,B,aj,k,FK.le s l⟩
 |ret r aj=>rwa[e]at s
 |brk aj=>rwa[e]at s
 |cnt aj=>rwa[e]at s
 |exc c aj=>rwa[e]at s
 |bad=>rwa[e]at s
theorem GC(h1:GS X Z st g):GSs X Z [st] g:=UW h1
theorem V8(he:FE X Z e f)(hs:swapsWith e none pos.line X.env=pure false:=by rfl):GS X Z (.Expr e pos) (AE f) :=
 Ct (UY he hs) λD U H ⟨F,B,fs,ok,s⟩=>⟨F,B,fs,ok,Cq s λr aj F1 H1 u l q s1=>s1 F1 H1 U Le.refl q.ok⟩
theorem Pg(he:FE X Z e f):GS X Z (.Return (some e) pos) (retS f) :=
 Ct (X2 he) λD U H ⟨F,B,fs,ok,s⟩=>⟨F,B,fs,ok,Cq s λr aj F1 H1 u l q s1=>s1 F1 H1 U u Le.refl q⟩
theorem Y4(hc:FT X Z c fc)(ha:GSs X Z a g)(hb:GSs X Z b h):GS X Z (.If c a b pos) (ifS fc g h):=by
 refine Ct (JaO hc ha hb) λD U H ao => ?_
 obtain⟨F,B,fs,ok,s⟩:= ao;refine⟨F,B,fs,ok,Cq s λr aj F1 H1 u l q s1=>?_⟩;obtain⟨av,rfl⟩:=q;cases u with|true =>exact⟨F1,B,aj,av,s1⟩|false =>exact⟨F1,B,aj,av,s1⟩
theorem XG{i}(s:tSt K Z (AL i f) D U H):Xy (tF K Z f) (Se i) D U H:=by
 obtain⟨F,B,fs,ok,s⟩:=s;refine⟨F,B,fs,ok,Cq s λr aj F1 H1 u l q s1=>?_⟩;split at s1
 next aB e2=>exact s1 F1 H1 _ Le.refl (K2 q e2)
 .exact s1.elim
theorem Kb{x}(i:Nat)(hN:X.N.Nodup)(hx:Loc X.env.scope x)(he:FE X Z e f)(hi:X.N[i]?=some x:=by rfl)(hs:swapsWith e (some (.Name x bc)) pos.line X.env=pure false:=by rfl)(hf:X.fn x=true\/X.env.scope.names.lookup x=some .local:=by first|exact .inl rfl|exact .inr rfl|assumption):
  GS X Z (.Assign [.Name x bc] e pos) (AL i f) :=
 Ct (X1 hN hi hx he hs hf) λ_ _ _ s=>XG s
def tG(K:Fg)(gt:T->FS->Option FS):TG:=λv U H Q=>∃F B fs t,Okk K F B H fs U/\Bf K F H t v/\match gt t fs with|some ar=>∀F' H' au,Le F H F' H'->Okk K F' B H' ar au->Q au H'|none=>False
noncomputable def tGs(K:Fg)(gt:List T->FS->Option FS):TGs:=λvs U H Q=>∃F B fs ts,Okk K F B H fs U/\Al K F H ts vs/\match gt ts fs with|some ar=>∀F' H' au,Le F H F' H'->Okk K F' B H' ar au->Q au H'|none=>False
def GT(X:Cx)(tg:Expr)(gt:T->FS->Option FS):Prop:=PG X tg (tG X.K gt)
def GTs(X:Cx)(rV:List Expr)(gt:List T->FS->Option FS):Prop:=PGs X rV (tGs X.K gt)
theorem TF(h:PG X e t)(i:∀v U H Q,t' v U H Q->t v U H Q):PG X e t':=λae s U H v u Q I r q=>h ae s U H v u Q I r (i _ _ _ _ q)
theorem Om{e}(h:PGs X e t)(i:∀v U H Q,t' v U H Q->t v U H Q):PGs X e t':=λae s U H v u Q I r q=>h ae s U H v u Q I r (i _ _ _ _ q)
noncomputable def tgN(i:Nat):T->FS->Option FS:=λt fs=>MT i (.t t) fs
noncomputable def AN:List T->FS->Option FS
 | [],fs=>some fs
 |_,_=>none
noncomputable def Af(g:T->FS->Option FS)(h:List T->FS->Option FS):List T->FS->Option FS
 |t::ts,fs=>(g t fs).bind λfs=>h ts fs
 |_,_=>none
noncomputable def AW(n:Nat)(h:List T->FS->Option FS):T->FS->Option FS
 |.tup ts,fs=>if ts.length=n then h ts fs else none
 |_,_=>none
variable{g:T->FS->Option FS}{h:List T->FS->Option FS}
theorem IT{x}(i:Nat)(hN:X.N.Nodup)(hx:Loc X.env.scope x)(hi:X.N[i]?=some x:=by rfl)(hf:X.fn x=true\/X.env.scope.names.lookup x=some .local:=by first|exact .inl rfl|exact .inr rfl|assumption):GT X (.Name x pos) (tgN i):=by
 refine TF (U8 hN hi hx hf) λv U H Q ao=>?_
 obtain⟨F,B,fs,t,ok,r,s⟩:= ao;split at s
 next ar e=>exact s F H _ Le.refl (K2 (RR.of (r:=.t t) ok r) e)
 .exact s.elim
theorem V7:GTs X [] AN:=by
 refine Om U7 λv U H Q ao=>?_
 obtain⟨F,B,fs,ts,ok,r,s⟩:= ao;cases ts with|nil=>exact⟨r,s F H U Le.refl ok⟩|cons t ts=>exact s.elim
theorem RT(h1:GT X e g)(h2:GTs X es h)
  (hc:∀{t:TG}{u:TGs},PG X e t->PGs X es u->PGs X (e::es) (Zb t u)):GTs X (e::es) (Af g h):=by
 refine Om (hc h1 h2) λv U H Q ao=>?_
 obtain⟨F,B,fs,ts,ok,r,s⟩:= ao;cases ts with
 |nil=>exact s.elim
 |cons t ts =>
  obtain⟨v',w,rfl,r1,r2⟩:=r;refine⟨v',w,rfl,F,B,fs,t,ok,r1,?_⟩;simp only[Af]at s;cases e1:g t fs with
  |none=>rwa[e1]at s
  |some aj =>
   rw[e1]at s;exact λF1 H1 fG l k=>⟨F1,B,aj,ts,k,r2.le l,by
    simp only[ub]at s;split at s
    .exact λF2 H2 gv l2 k2=>s F2 H2 gv (l.trans l2) k2
    .exact s.elim⟩
theorem Y3(hc:X.calm=true)(h1:GTs X es h)(hn:(assignEach es X.env).length=n:=by rfl)(bL:(assignEach es X.env).findIdx? (·.1)=none:=by rfl):GT X (.Tuple es k pos) (AW n h):=by
 refine TF (X9 hc h1 hn bL) λv U H Q ao=>?_
 obtain⟨F,B,fs,t,ok,r,s⟩:= ao;unfold AW at s;split at s
 .rename_i ar e;split at e
  .rename_i ts;split at e
   next hl=>obtain⟨a,vs,rfl,hs,r⟩:=r;refine⟨a,vs,rfl,hs.sq,by rw[r.len];exact hl,F,B,fs,ts,ok,r,?_⟩;rwa[e]
   .cases e
  .cases e
 .exact s.elim
noncomputable def Hi(f:FS->Out Rv)(g:T->FS->Option FS):FS->SO:=λfs=>SO.of (f fs) λr fs=>match r with
 |.t t=>match g t fs with|some fs=>.nx fs|none=>.bad
 |_=>.bad
variable{tg:Expr}
theorem Y7(he:FE X Z e f)(hg:GT X tg g)(hs:swapsWithSole [tg] e pos.line X.env=pure false:=by rfl)(hw:swappedStores [tg] e X.env=pure none:=by rfl)
  (h1:(assignEach [tg] X.env).map (·.2)=[assign tg X.env]:=by rfl):GS X Z (.Assign [tg] e pos) (Hi f g):=by
 refine Ct (Tw he hg hs hw h1) λD U H ao => ?_
 obtain⟨F,B,fs,ok,s⟩:= ao;refine⟨F,B,fs,ok,Cq s λr aj F1 H1 u l q s1=>?_⟩;split at s1
 .rename_i t;obtain⟨L,L',o1,⟨_,q⟩,_⟩:=q;refine⟨F1,B,aj,t,⟨L,o1⟩,q,?_⟩;split at s1
  next aB e2=>exact λF2 H2 gv l2 k2=>s1 F2 H2 gv l2 k2
  .exact s1.elim
 .exact s1.elim
def Nw(K:Fg)(F:Wd)(H:Hp)(F':Wd)(H':Hp):Prop:=Le F H F' H'/\∀B fs U,Okk K F B H fs U->Okk K F' B H' fs U
theorem Nw.refl:Nw K F H F H:=⟨Le.refl,λ_ _ _ h=>h⟩
def JOk(K:Fg)(F:Wd)(H:Hp)(J:It)(ts:List T):Prop:=∀(F':Wd)(H':Hp),(∀a,F a->F' a/\H' a=H a)->(∃B fs U,Okk K F' B H' fs U)->∀i,(∀t,ts[i]?=some t->J.go i H'/\∀x gx,J.yL i H' x gx->∃F'',Nw K F' H' F'' gx/\Bf K F'' gx t x)/\(ts.length<=i->J.stop i H')
theorem JOk.within{p}(h:JOk K F H J ts):JOk K ⟨F.f,p⟩ H J ts:=λF2 H2 l2=>h F2 H2 l2
theorem Al.lf(l:∀a,F a->F' a/\H' a=H a)(r:Al K F H ts vs):Al K F' H' ts vs :=
 Al.le (F:=⟨F.f,λ_=>False⟩) ⟨l,λ_ z=>z.elim⟩ (Al.wp r)
theorem StL.lf{a}(l:∀a,F a->F' a/\H' a=H a)(r:StL K F H a vs):StL K F' H' a vs:=by
 rcases r with⟨f,h⟩|h
 .exact .inl ⟨(l a f).1,FL.Rd.same h (l a f).2⟩
 .exact .inr h
theorem stays{x}(e:H'=H)(r:Bf K F H t x):∃F',Nw K F H F' H'/\Bf K F' H' t x:=by subst e;exact⟨F,Nw.refl,r⟩
def RJ(K:Fg)(B:Nat->Option V)(U:St):Wd->Hp->FS->List T->It->Prop:=λF H fs ts J=>Okk K F B H fs U/\JOk K F H J ts
def tI(K:Fg)(Z:Xp)(f:FS->Out (List T)):TI:=λU H R=>∃F B fs,Okk K F B H fs U/\sat Z B (RJ K B U) F H (f fs) R
def FI(X:Cx)(Z:Xp)(tg aA:Expr)(f:FS->Out (List T)):Prop:=PI X tg aA (tI X.K Z f)
theorem JP(h:PI X tg e t)(i:∀U H Q,t' U H Q->t U H Q):PI X tg e t':=λae s U H Q I q=>h ae s U H Q I (i _ _ _ q)
noncomputable def signs(z:Str):List T:=z.cps.toList.map λc=>T.str ⟨#[c]⟩
noncomputable def upTo(lo:Int)(n:Nat):List T:=(List.range n).map λi=>T.int (lo+(i:Nat))
noncomputable def O4(f:FS->Out (List Rv)):FS->Out (List T):=λfs=>(f fs).bind λrs fs=>match rs with| [.t (.int j)]=>if -(2^62)<=j/\j<2^62 then .ok (upTo 0 j.toNat) fs else .bad|_=>.bad
variable{l a b:Expr}
theorem Mh{a:Addr}(hs:∀(F':Wd) H',(∀a,F a->F' a/\H' a=H a)->SqL K H' a vs)(r:Al K F H ts vs):JOk K F H (Itl K a) ts:=by intro F' H' l _ i;refine⟨λt et=>?_,λhl=>⟨vs,hs F' H' l,by rwa[r.len]⟩⟩;obtain⟨v,ev,rv⟩:=(Al.lf l r).at et;refine⟨⟨vs,v,hs F' H' l,ev⟩,λx gx hy=>stays hy.1 ?_⟩;have:=hy.2 vs (hs F' H' l);rw[ev]at this;cases this;exact rv
theorem VX{a:Addr}(hs:∀(F':Wd) H',(∀a,F a->F' a/\H' a=H a)->SqT K H' a vs)(r:Al K F H ts vs):JOk K F H (Itt K a) ts:=by intro F' H' l _ i;refine⟨λt et=>?_,λhl=>⟨vs,hs F' H' l,by rwa[r.len]⟩⟩;obtain⟨v,ev,rv⟩:=(Al.lf l r).at et;refine⟨⟨vs,v,hs F' H' l,ev⟩,λx gx hy=>stays hy.1 ?_⟩;have:=hy.2 vs (hs F' H' l);rw[ev]at this;cases this;exact rv
theorem O0:JOk K F H (Itr lo n) (upTo lo n):=by
 intro F' H' l _ i;refine⟨λt et=>?_,λhl=>by unfold upTo at hl;simpa[Itr]using hl⟩;unfold upTo at et;rw[t7]at et;have hi:i<n:=by
  by_cases h:i<n
  .exact h
  .rw[uq (by simpa using h)]at et;cases et
 rw[uW hi]at et;cases et;exact⟨hi,λx gx hy=>stays hy.1 hy.2⟩
theorem VY:JOk K F H (Its z) (signs z):=by
 intro F' H' l _ i;refine⟨λt et=>?_,λhl=>by unfold signs at hl;simpa[Its]using hl⟩;unfold signs at et;rw[t7,tq]at et;obtain⟨c,ec,rfl⟩:=et;have hi:=by have:=(tu.mp ec).1;simpa using this
 refine⟨hi,λx gx hy=>stays hy.1 ?_⟩;obtain⟨c',e1,e2⟩:=hy.2;rw[uT]at ec;rw[ec]at e1;cases e1;exact e2
theorem Pw(hm:X.mg "range"=none)(ha:FA X Z [a] fa)(hg:Gl X "range":=by rfl)(hs:starEach [a] X.env=[(false,eval a X.env)]:=by rfl):FI X Z tg (.Call (.Name "range" p) [a] [] pos) (O4 fa):=by
 refine JP (Ol hg hm ha hs) λU H Q ao => ?_
 obtain⟨F,B,fs,ok,s⟩:= ao;refine⟨F,B,fs,ok,AG s λrs aj F1 H1 us l q s1=>?_⟩;obtain⟨av,q⟩:=q;split at s1
 .rename_i j;split at s1
  next hj=>obtain⟨v,rfl,qq⟩:=Bh q;cases qq;exact⟨j,rfl,hj.1,hj.2,s1 F1 H1 _ Le.refl ⟨av,O0⟩⟩
  .exact s1.elim
 .exact s1.elim
noncomputable def DW(gt:T->FS->Option FS)(body:FS->SO):List T->FS->SO
 | [],fs=>.nx fs
 |t::ts,fs=>match gt t fs with|none=>.bad|some fs=>match body fs with|.nx fs=>DW gt body ts fs|.cnt fs=>DW gt body ts fs|.brk fs=>.nx fs|o=>o
noncomputable def Dq(src:FS->Out (List T))(gt:T->FS->Option FS)(body:FS->SO):FS->SO:=λfs=>SO.of (src fs) λts fs=>DW gt body ts fs
variable{aA:Expr}{src:FS->Out (List T)}{gt:T->FS->Option FS}{g:FS->SO}{body:List Stmt}
theorem Y5(hp:PassesOwn (model X.prog X.w) X.A X.env X.xe)(hc:X.calm=true)(hi:FI X Z tg aA src)(hg:GT X tg gt)(hb:GSs X Z body g)
  (hs:∀x,foldedSetIterable aA X.env x=pure x:=by intro _;rfl):GS X Z (.For tg aA body [] pos) (Dq src gt g):=by
 refine Ct (X3 hp hc hi hg hb hs) λD U H ao => ?_
 obtain⟨F,B,fs,ok,s⟩:= ao;refine⟨F,B,fs,ok,Cq s λts aj F1 H1 J l q s1=>?_⟩;obtain⟨av,jk⟩:=q;refine⟨λi m U H=>m=ts.length-i/\∃F' ar,Le F1 H1 F' H/\Okk X.K F' B H ar U/\FK X.K Z B F' H (DW gt g (ts.drop i) ar) D,⟨ts.length,rfl,F1,aj,Le.refl,av,s1⟩,?_⟩
 rintro i m U H ⟨rfl,F2,aB,l2,aR,s2⟩
 by_cases hi:i<ts.length
 .refine .inr ?_;rw[(u0 hi)]at s2;obtain⟨j1,j2⟩:=(jk F2 H l2.f ⟨_,_,_,aR⟩ i).1 _ (sV hi);refine⟨j1,λau H'=>∃F' ar,Le F1 H1 F' H'/\Okk X.K F' B H' ar au/\FK X.K Z B F' H' (DW gt g (ts.drop (i+1)) ar) D,λau H' h=>⟨ts.length-(i+1),by lia,rfl,h⟩,λx H' hy=>?_⟩;obtain⟨n9,⟨nA,nw⟩,rx⟩:=j2 x H' hy;replace l2:=l2.trans nA;replace s2:=FK.le s2 nA;replace aR:=nw _ _ _ aR;refine⟨n9,B,aB,ts[i],aR,rx,?_⟩;simp only[DW]at s2;cases eg:gt ts[i] aB with
  |none=>rwa[eg]at s2
  |some dY =>
   rw[eg]at s2;intro F3 H3 fI l3 fD;refine⟨F3,B,dY,fD,?_⟩;have s3:=FK.le s2 l3;simp only at s3;cases eb:g dY with
   |nx dE =>rw[eb]at s3;exact λF4 H4 mD l4 gn=>⟨F4,dE,(l2.trans l3).trans l4,gn,FK.le s3 l4⟩
   |cnt dE =>rw[eb]at s3;exact λF4 H4 mD l4 gn=>⟨F4,dE,(l2.trans l3).trans l4,gn,FK.le s3 l4⟩
   |brk dE=>rwa[eb]at s3
   |ret r dE=>rwa[eb]at s3
   |exc c dE=>rwa[eb]at s3
   |bad=>rwa[eb]at s3
 .refine .inl ⟨(jk F2 H l2.f ⟨_,_,_,aR⟩ i).2 (by lia),?_⟩;rw[List.drop_eq_nil_of_le (by lia)]at s2;exact s2 F2 H U Le.refl aR
noncomputable def Cc(c:FS->Out Bool)(body:FS->SO):Nat->FS->SO
 |0,_=>.bad
 |n+1,fs=>SO.of (c fs) λb fs=>if b=true then(match body fs with|.nx fs=>Cc c body n fs|.cnt fs=>Cc c body n fs|.brk fs=>.nx fs|o=>o)else .nx fs
theorem RV(n:Nat)(hp:PassesOwn (model X.prog X.w) X.A X.env X.xe)(hc:FT X Z c fc)(hb:GSs X Z body g):GS X Z (.While c body [] pos) (Cc fc g n):=by
 refine Ct (Q2 hp hc hb) λD U H ao=>?_
 obtain⟨F,B,fs,ok,s⟩:= ao;refine⟨λm au H'=>∃F' ar,Le F H F' H'/\Okk X.K F' B H' ar au/\FK X.K Z B F' H' (Cc fc g m ar) D,⟨n,F,fs,Le.refl,ok,s⟩,?_⟩
 rintro m fG H1 ⟨F1,aj,l1,av,s1⟩
 cases m with
 |zero=>exact s1.elim
 |succ m =>
  refine⟨F1,B,aj,av,Cq s1 λb aB F2 H2 b' l2 q s2=>?_⟩;obtain⟨aR,rfl⟩:=q;cases b' with
  |false =>exact s2 F2 H2 fG Le.refl aR
  |true =>
   refine⟨λau H'=>∃F' ar,Le F H F' H'/\Okk X.K F' B H' ar au/\FK X.K Z B F' H' (Cc fc g m ar) D,λau H' h=>⟨m,by lia,h⟩,F2,B,aB,aR,?_⟩;cases eb:g aB with
   |nx dE =>rw[eb]at s2;exact λF4 H4 mD l4 gn=>⟨F4,dE,(l1.trans l2).trans l4,gn,FK.le s2 l4⟩
   |cnt dE =>rw[eb]at s2;exact λF4 H4 mD l4 gn=>⟨F4,dE,(l1.trans l2).trans l4,gn,FK.le s2 l4⟩
   |brk dE=>rwa[eb]at s2
   |ret r dE=>rwa[eb]at s2
   |exc c dE=>rwa[eb]at s2
   |bad=>rwa[eb]at s2
variable{L:List Addr}
theorem AA.toP:∀{fs:FS}{U:St}{L:List Addr},AA K F H fs U L->∃bE:Nat->List Addr,(∀i s,fs[i]?=some s->∃v,U[i]?=some v/\Qp K F H s v (bE i))/\(∀i a,a∈bE i->a∈L) /\
  (L.Nodup->(∀i,(bE i).Nodup)/\∀i j a,i≠j->a∈bE i->a∉bE j)/\∀i,fs.length<=i->bE i=[]
 | [],U,L,h=>⟨λ_=>[],(λi s e=>by simp at e),(λi a m=>nomatch m),(λ_=>⟨λ_=>tJ,(λ_ _ _ _ m=>nomatch m)⟩),λ_ _=>rfl⟩
 |s::r,U,L,h=>by
  obtain⟨v,au,L1,L2,rfl,h1,h2,rfl⟩:=h.HB;obtain⟨bE,q1,q2,q3,q4⟩:=AA.toP h2;refine⟨λi=>match i with|0=>L1|i+1=>bE i,λi s' e=>?_,λi a m=>?_,λnd=>?_,λi hi=>?_⟩
  .cases i with|zero =>simp at e;subst e;exact⟨v,rfl,h1⟩|succ i =>obtain⟨w,e1,e2⟩:=q1 i s' (by simpa using e);exact⟨w,by simpa using e1,e2⟩
  .cases i with|zero=>exact tH _ m|succ i=>exact tB _ (q2 i a m)
  .rw[sT]at nd;obtain⟨n1,n2,n3⟩:=nd;obtain⟨m1,m2⟩:=q3 n2;refine⟨λi=>?_,λi j a gS hi hj=>?_⟩
   .cases i with|zero=>exact n1|succ i=>exact m1 i
   .cases i with
    |zero =>cases j with|zero=>exact gS rfl|succ j=>exact n3 a hi a (q2 j a hj) rfl
    |succ i =>cases j with|zero=>exact n3 a hj a (q2 i a hi) rfl|succ j=>exact m2 i j a (λe=>gS (by rw[e])) hi hj
  .cases i with|zero=>simp at hi|succ i=>exact q4 i (by simpa using hi)
theorem AA.ofP:∀{fs:FS}{U:St}(bE:Nat->List Addr),U.length=fs.length->(∀i s,fs[i]?=some s->∃v,U[i]?=some v/\Qp K F H s v (bE i))->(∀i,(bE i).Nodup)->(∀i j a,i≠j->a∈bE i->a∉bE j) ->
  ∃L,AA K F H fs U L/\L.Nodup/\∀a∈L,∃i,i<fs.length/\a∈bE i
 | [],U,bE,hl,h,nd,dj=>by have:=uF (by simpa using hl);subst this;exact⟨[],⟨rfl,rfl⟩,tJ,λ_ m=>nomatch m⟩
 |s::r,[],bE,hl,h,nd,dj=>by simp at hl
 |s::r,v::U,bE,hl,h,nd,dj=>by
  obtain⟨L,h1,h2,h3⟩:=AA.ofP (U:=U) (λi=>bE (i+1)) (by simpa using hl) (λi s' e=>by obtain⟨w,e1,e2⟩:=h (i+1) s' (by simpa using e);exact⟨w,by simpa using e1,e2⟩) (λi=>nd (i+1)) (λi j a gS=>dj (i+1) (j+1) a (by lia));obtain⟨w,e1,e2⟩:=h 0 s rfl;simp at e1;subst e1;refine⟨bE 0++L,AA.cons e2 h1,?_,λa m=>?_⟩
  .rw[sT];refine⟨nd 0,h2,λa ha b hb e=>?_⟩;obtain⟨i,_,hi⟩:=h3 b hb;exact dj 0 (i+1) a (by lia) ha (by rwa[e])
  .rcases tE.mp m with m|m
   .exact⟨0,by simp,m⟩
   .obtain⟨i,hi,q⟩:=h3 a m;exact⟨i+1,by simp;exact hi,q⟩
theorem Ok.take(h:Ok K F B H fs U L)(n:Nat):∃L',Ok K F B H (fs.take n) (U.take n) L'/\∀a∈L',a∈L:=by
 obtain⟨bE,q1,q2,q3,q4⟩:=h.sl.toP;obtain⟨n1,n2⟩:=q3 h.nd;obtain⟨L',p1,p2,p3⟩:=AA.ofP (U:=U.take n) bE (by rw[uA,uA,h.sl.len]) (λi s e=>by
  have hi:i<n:=by
   have:=(tu.mp e).1;rw[uA]at this
   lia
  rw[u7 hi]at e ⊢;exact q1 i s e) n1 n2
 have sub:=λa m=>let⟨i,_,q⟩:=p3 a m;q2 i a q
 refine⟨L',⟨p1,p2,λa m=>h.nf a (sub a m),h.fd,λi o e=>?_,h.pd,h.pf,λa m=>h.pl a (sub a m)⟩,sub⟩;have hi:i<n:=by
  have:=(tu.mp e).1;rw[uA]at this
  lia
 rw[u7 hi]at e ⊢;exact h.bo i o e
theorem RR.take{r}(h:RR K B U F H fs r u)(n:Nat)(hr:∀i,r≠.n i):RR K B (U.take n) F H (fs.take n) r u:=by
 obtain⟨L,L',ok,q,nd,nf⟩:=h;obtain⟨L2,aR,sub⟩:=ok.take n;refine⟨L2,L',aR,?_,?_,nf⟩
 .cases r with|t t=>exact q|nw o=>exact q|n i=>exact(hr i rfl).elim
 .rw[sT]at nd ⊢;exact⟨aR.nd,nd.2.1,λa ha b hb=>nd.2.2 a (sub a ha) b hb⟩
theorem Ok.more(h:Ok K F B H fs U L)(n:Nat):Ok K F B H (fs++List.replicate n none) (U++List.replicate n none) L:=by
 have key:∀n:Nat,AA K F H (List.replicate n none) (List.replicate n none) []:=by
  intro n
  induction n with|zero=>exact⟨rfl,rfl⟩|succ n ih =>rw[uM,uM];exact⟨none,_,rfl,ih⟩
 have app:∀{fs gs:FS}{U τ:St}{L M:List Addr},AA K F H fs U L->AA K F H gs τ M->AA K F H (fs++gs) (U++τ) (L++M):=by
  intro fs
  induction fs with|nil =>intro gs U τ L M h1 h2;obtain⟨rfl,rfl⟩:=h1;exact h2|cons s r ih =>intro gs U τ L M h1 h2;obtain⟨v,au,L1,L2,rfl,q1,q2,rfl⟩:=h1.HB;have:=AA.cons q1 (ih q2 h2);simpa using this
 refine⟨by simpa using app h.sl (key n),h.nd,h.nf,h.fd,λi o e=>?_,h.pd,h.pf,h.pl⟩;by_cases hi:i<fs.length
 .rw[uZ hi]at e;obtain⟨v,e1,e2⟩:=h.bo i o e;exact⟨v,by rw[uZ (by rw[h.sl.len];exact hi)];exact e1,e2⟩
 .rw[List.getElem?_append_right (by lia)]at e;have:=uu e;simp at this
theorem RR.mv{i}{o}(q:RR K B U F H fs (.n i) u)(es:fs[i]?=some (some (.own o))):RR K B U F H (fs.set i none) (.nw o) u:=by
 obtain⟨L,L',o1,⟨_,q⟩,nd,nf⟩:=q;obtain⟨v,L1,L2,L3,e1,rfl,h1,h2⟩:=o1.sl.pick es;obtain⟨w,rfl,q2⟩:=h1;rw[e1]at q;have eu:w=u:=by simpa using q
 subst eu;have h3:=h2 F H none (some w) [] Le.refl (λ_ _=>rfl) rfl;rw[BL e1]at h3;have dg:=o1.nd;refine⟨L1++([]++L3),L2,⟨h3,CG dg tJ (λ_ m=>nomatch m),λa m=>o1.nf a ?_,o1.fd,?_,o1.pd,o1.pf,λa m=>o1.pl a ?_⟩,q2,?_,λa m=>⟨o1.nf a (by simp[m]),o1.pl a (by simp[m])⟩⟩
 .have m':=by simpa using m
  rcases m' with m|m<;>simp[m]
 .have:=FF.put (i:=i) (s:=none) (v:=some w) o1.bo (λo eo=>by cases eo) o1.sl.len;rwa[BL e1]at this
 .have m':=by simpa using m
  rcases m' with m|m<;>simp[m]
 .have p:(L1++(L2++L3)).Perm ((L1++([]++L3))++L2):=by rw[ue,t9];exact List.Perm.append_left _ List.perm_append_comm
  exact p.nodup_iff.mp dg
inductive Ini where
 |no|val (t:T)|slot (j:Nat)|new (o:FO)
noncomputable def V2(fs:FS):Ini->Option Sl
 |.no=>none
 |.val t=>some (.val t)
 |.new o=>some (.bor o)
 |.slot j=>match fs[j]? with|some (some (.val t))=>some (.val t)|some (some (.own o))=>some (.bor o)|some (some (.bor o))=>some (.bor o)|_=>none
noncomputable def B0(fs:FS)(is:List Ini):FS:=is.map (V2 fs)
noncomputable def BN(fs:FS):Ini->Option Nat
 |.slot j=>if(AH fs j).isSome=true then some j else none
 |_=>none
noncomputable def C8(fs:FS)(is:List Ini):List Nat:=is.filterMap (BN fs)
noncomputable def placeOf(fs:FS)(j:Nat):List Ini->Nat->Option Nat
 | [],_=>none
 |i::r,k=>if BN fs i=some j then some k else placeOf fs j r (k+1)
noncomputable def LG(fs:FS)(is:List Ini)(τ:FS)(j:Nat)(s:Option Sl):Option (Option Sl):=match placeOf fs j is 0 with|none=>some s|some k=>match τ[k]?,s with|some (some (.bor o)),some s=>some (some (s.put o))|_,_=>none
noncomputable def Jk(fs:FS)(is:List Ini)(τ:FS):Nat->FS->Option FS
 |_,[]=>some []
 |j,s::r=>match LG fs is τ j s,Jk fs is τ (j+1) r with|some s',some r'=>some (s'::r')|_,_=>none
noncomputable def D2(is:List Ini)(τ fs:FS):Option FS:=Jk fs is τ 0 fs
theorem placeOf_some:∀{is:List Ini}{k k':Nat},placeOf fs j is k=some k'->k<=k'/\∃i,is[k'-k]?=some i/\BN fs i=some j
 | [],_,_,e=>by simp[placeOf]at e
 |i::r,k,k',e=>by
  simp only[placeOf]at e;split at e
  next h=>cases e;exact⟨tD _,i,by simp,h⟩
  .obtain⟨h1,i',h2,h3⟩:=placeOf_some e;refine⟨by lia,i',?_,h3⟩;rw[show k'-k=(k'-(k+1))+1 by lia];simpa using h2
theorem placeOf_none:∀{is:List Ini}{k:Nat},placeOf fs j is k=none->j∉C8 fs is
 | [],_,_,h=>by simp[C8]at h
 |i::r,k,e,h=>by
  simp only[placeOf]at e;split at e
  .cases e
  .rename_i hn;unfold C8 at h;rw[uz]at h;cases q:BN fs i with
   |none =>rw[q]at h;exact placeOf_none e h
   |some j' =>
    rw[q]at h;rcases tm.mp h with h|h
    .exact hn (by rw[q,h])
    .exact placeOf_none e h
theorem J4:∀{is:List Ini}{k k':Nat}{i i':Ini}{j:Nat},(C8 fs is).Nodup->is[k]?=some i->is[k']?=some i'->BN fs i=some j->BN fs i'=some j->k=k'
 | [],_,_,_,_,_,_,e,_,_,_=>by simp at e
 |i0::r,k,k',i,i',j,nd,e,e',h,h'=>by
  have mem:∀{m:Nat}{x:Ini},r[m]?=some x->BN fs x=some j->j∈C8 fs r:=λhm hx=>uY.mpr ⟨_,uu hm,hx⟩
  unfold C8 at nd;rw[uz]at nd;cases k with
  |zero =>simp at e;subst e;rw[h]at nd;have i3:=nd;cases k' with|zero=>rfl|succ k'=>exact((tN.mp i3).1 (mem (by simpa using e') h')).elim
  |succ k =>cases k' with|zero =>simp at e';subst e';rw[h']at nd;have i3:=nd;exact((tN.mp i3).1 (mem (by simpa using e) h)).elim|succ k' =>exact congrArg (·+1) (J4 (by cases q:BN fs i0 with|none=>rwa[q]at nd|some j'=>rw[q]at nd;exact(tN.mp nd).2) (by simpa using e) (by simpa using e') h h')
theorem MH:∀{r r':FS}{j:Nat},Jk fs is τ j r=some r'->r'.length=r.length/\∀i s,r[i]?=some s->∃s',r'[i]?=some s'/\LG fs is τ (j+i) s=some s'
 | [],_,_,e=>by cases e;exact⟨rfl,λi s q=>by simp at q⟩
 |s::r,_,j,e=>by
  simp only[Jk]at e;split at e
  next s' r' h1 h2=>cases e;obtain⟨q1,q2⟩:=MH h2;refine⟨by simp[q1],λi s0 q=>?_⟩;cases i with|zero =>simp at q;subst q;exact⟨s',rfl,h1⟩|succ i =>obtain⟨s1,e1,e2⟩:=q2 i s0 (by simpa using q);exact⟨s1,by simpa using e1,by rwa[show j+(i+1)=j+1+i by lia]⟩
  .cases e
def W8(K:Fg)(F:Wd)(H:Hp)(U:St)(i:Ini)(v:Option V)(M:List Addr):Prop:=match i with|.no=>True|.val t=>∃u,v=some u/\Bf K F H t u|.slot j=>U[j]?=some v|.new o=>∃u,v=some u/\A8 K F H o u M
structure Mu(F:Wd)(H:Hp)(L:List Addr)(μ:Nat->List Addr):Prop where
 out:∀k a,a∈μ k->¬F a/\¬F.p a/\a∉L/\H a≠none
 nd:∀k,(μ k).Nodup
 dj:∀k k' a,k≠k'->a∈μ k->a∉μ k'
theorem Mu.no:Mu F H L (λ_=>[]):=⟨(λ_ _ m=>nomatch m),λ_=>tJ,(λ_ _ _ _ m=>nomatch m)⟩
theorem lend(ok:Ok K F B H fs U L)(hl:σi.length=is.length)(hi:∀(k:Nat)(i:Ini)(v:Option V),is[k]?=some i->σi[k]?=some v->W8 K F H U i v (μ k))(nd:(C8 fs is).Nodup)(fB:Mu F H L μ):
  ∃P:Addr->Prop,(∀a,F.p a->P a)/\Okk K ⟨F.f,P⟩ (λk=>(σi[k]?).join) H (B0 fs is) σi/\(∀a,P a->H a≠none) /\
   ∀(F2:Wd)(H2:Hp)(τ:FS)(gv:St)(Li:List Addr)(ar:FS),Le ⟨F.f,P⟩ H F2 H2->Ok K F2 (λk=>(σi[k]?).join) H2 τ gv Li->D2 is τ fs=some ar ->
    Le F H ⟨F2.f,F.p⟩ H2/\∃L,Ok K ⟨F2.f,F.p⟩ B H2 ar U L/\∀a∈L,a∈Li\/P a:=by
 obtain⟨bE,q1,q2,q3,q4⟩:=ok.sl.toP;obtain⟨n1,n2⟩:=q3 ok.nd;have j8:∀j,(AH fs j).isSome=true->∃o s,AH fs j=some o/\fs[j]?=some (some s)/\(s=.own o\/s=.bor o):=by
  intro j hj;unfold AH at hj ⊢;split at hj
  next o es=>exact⟨o,_,rfl,es,.inl rfl⟩
  next o es=>exact⟨o,_,rfl,es,.inr rfl⟩
  .cases hj
 refine⟨λa=>F.p a\/∃j,a∈bE j/\j∉C8 fs is,λa p=>.inl p,?_,λa p=>?_,?_⟩
 .
  obtain⟨L',p1,p2,p3⟩:=AA.ofP (fs:=B0 fs is) (U:=σi) (λk=>match is[k]? with|some i=>(match BN fs i with|some j=>bE j|none=>(match i with|.new _=>μ k|_=>[]))|none=>[]) (by unfold B0;rwa[sU])
   (λk s e=>by
    unfold B0 at e;rw[t7,tq]at e;obtain⟨i,ei,rfl⟩:=e;have hk:k<σi.length:=by rw[hl];exact(tu.mp ei).1
    refine⟨σi[k],sV hk,?_⟩;have io:=hi k i _ ei (sV hk);simp only[ei];have lw:∀(t:T)(u:V),Bf K F H t u->Bf K ⟨F.f,λa=>F.p a\/∃j,a∈bE j/\j∉C8 fs is⟩ H t u:=λt u r=>Bf.wp r
    cases i with
    |no=>rfl
    |val t =>obtain⟨u,eu,r⟩:=io;exact⟨u,eu,lw t u r,rfl⟩
    |new o =>obtain⟨u,eu,r⟩:=io;exact⟨u,eu,A8.wp r⟩
    |slot j =>
     have ej:U[j]?=some σi[k]:=io;simp only[V2,BN];cases es:fs[j]? with
     |none =>
      have:AH fs j=none:=by unfold AH;rw[es]
      rw[this];rfl
     |some s =>
      obtain⟨v,e1,e2⟩:=q1 j s es;rw[ej]at e1;cases e1;cases s with
      |none =>
       have:AH fs j=none:=by unfold AH;rw[es]
       rw[this];rfl
      |some s =>
       cases s with
       |val t =>
        have:AH fs j=none:=by unfold AH;rw[es]
        rw[this];obtain⟨u,eu,r,_⟩:=e2;exact⟨u,eu,lw t u r,rfl⟩
       |own o =>
        have:AH fs j=some o:=by unfold AH;rw[es]
        rw[this];obtain⟨u,eu,r⟩:=e2;exact⟨u,eu,A8.wp r⟩
       |bor o =>
        have:AH fs j=some o:=by unfold AH;rw[es]
        rw[this];obtain⟨u,eu,r⟩:=e2;exact⟨u,eu,A8.wp r⟩)
   (λk=>by
    try dsimp only
    split
    .split
     .exact n1 _
     .split
      .exact fB.nd _
      .exact tJ
    .exact tJ)
   (λk k' a hk ha hb=>by
    try dsimp only at ha hb
    split at ha
    .rename_i i ei;split at ha
     .rename_i j ej;split at hb
      .rename_i i' iH;split at hb
       .rename_i j' mQ;by_cases e:j=j'
        .subst e;exact hk (J4 nd ei iH ej mQ)
        .exact n2 j j' a e ha hb
       .split at hb
        .exact(fB.out _ a hb).2.2.1 (q2 j a ha)
        .cases hb
      .cases hb
     .split at ha
      .split at hb
       .split at hb
        next j' mQ=>exact(fB.out _ a ha).2.2.1 (q2 j' a hb)
        .split at hb
         .exact fB.dj k k' a hk ha hb
         .cases hb
       .cases hb
      .cases ha
    .cases ha)
  have mem:∀a∈L',(∃j,j∈C8 fs is/\a∈bE j)\/∃k,a∈μ k:=λa m=>by
   obtain⟨k,_,q⟩:=p3 a m
   try dsimp only at q
   split at q
   .rename_i i ei;split at q
    next j ej=>exact .inl ⟨j,uY.mpr ⟨i,uu ei,ej⟩,q⟩
    .split at q
     .exact .inr ⟨k,q⟩
     .cases q
   .cases q
  refine⟨L',p1,p2,λa m=>?_,ok.fd,λk o e=>?_,λa p=>?_,λa f p=>?_,λa m p=>?_⟩
  .rcases mem a m with⟨j,_,q⟩|⟨k,q⟩
   .exact ok.nf a (q2 j a q)
   .exact(fB.out k a q).1
  .unfold B0 at e;rw[t7,tq]at e;obtain⟨i,ei,e⟩:=e;have hk:k<σi.length:=by rw[hl];exact(tu.mp ei).1
   cases i with
   |no=>cases e
   |val t=>cases e
   |new o' =>obtain⟨u,eu,_⟩:=hi k _ _ ei (sV hk);exact⟨u,by rw[sV hk,eu],by show(σi[k]?).join=some u;rw[sV hk,eu];rfl⟩
   |slot j =>
    simp only[V2]at e;have:∃o s,fs[j]?=some (some s)/\(s=.own o\/s=.bor o):=by
     split at e
     .cases e
     next o' es=>exact⟨o',_,es,.inl rfl⟩
     next o' es=>exact⟨o',_,es,.inr rfl⟩
     .cases e
    obtain⟨o',s,es,hs⟩:=this;obtain⟨v,e1,e2⟩:=q1 j _ es;rw[(hi k _ _ ei (sV hk))]at e1;cases e1;obtain⟨u,eu⟩:∃u,σi[k]=some u:=by
     rcases hs with rfl|rfl
     .exact⟨_,e2.choose_spec.1⟩
     .exact⟨_,e2.choose_spec.1⟩
    exact⟨u,by rw[sV hk,eu],by show(σi[k]?).join=some u;rw[sV hk,eu];rfl⟩
  .rcases p with p|⟨j,p,_⟩
   .exact ok.pd a p
   .exact ok.sl.def a (q2 j a p)
  .rcases p with p|⟨j,p,_⟩
   .exact ok.pf a f p
   .exact ok.nf a (q2 j a p) f
  .rcases mem a m with⟨j,hj,q⟩|⟨k,q⟩
   .rcases p with p|⟨j',p,hj'⟩
    .exact ok.pl a (q2 j a q) p
    .by_cases e:j=j'
     .subst e;exact hj' hj
     .exact n2 j j' a e q p
   .rcases p with p|⟨j',p,hj'⟩
    .exact(fB.out k a q).2.1 p
    .exact(fB.out k a q).2.2.1 (q2 j' a p)
 .rcases p with p|⟨j,p,_⟩
  .exact ok.pd a p
  .exact ok.sl.def a (q2 j a p)
 .
  intro F2 H2 τ gv Li ar l aR eb;have le:Le F H ⟨F2.f,F.p⟩ H2:=⟨λa f=>l.f a f,λa f=>⟨f,(l.p a (.inl f)).2⟩⟩
  obtain⟨kj,r1,r2,r3,r4⟩:=aR.sl.toP;obtain⟨m1,m2⟩:=r3 aR.nd;obtain⟨b1,b2⟩:=MH eb;have eY:∀j a,a∈bE j->j∉C8 fs is->F2.p a/\H2 a=H a:=λj a q hj=>l.p a (.inr ⟨j,q,hj⟩)
  refine⟨le,?_⟩;obtain⟨L',p1,p2,p3⟩:=AA.ofP (U:=U) (λj=>match placeOf fs j is 0 with|some k=>kj k|none=>bE j) (by rw[b1];exact ok.sl.len)
   (λj s' e=>by
    have hj:j<fs.length:=by rw[<- b1];exact(tu.mp e).1
    obtain⟨s1,e1,e2⟩:=b2 j fs[j] (sV hj);rw[e]at e1;cases e1;rw[Nat.zero_add]at e2;obtain⟨v,e3,e4⟩:=q1 j fs[j] (sV hj);refine⟨v,e3,?_⟩;unfold LG at e2;cases ep:placeOf fs j is 0 with
    |none =>rw[ep]at e2;cases e2;exact Qp.le le (λa m=>(eY j a m (placeOf_none ep)).2) e4
    |some k =>
     rw[ep]at e2;obtain⟨_,i,ei,cj⟩:=placeOf_some ep;dsimp only at e2 ⊢;split at e2
     .rename_i o s et es;cases e2;obtain⟨w,e5,e6⟩:=r1 k _ et;obtain⟨u,e7,e8⟩:=aR.bo k o et;rw[e5]at e7;cases e7;have ij:i=.slot j:=by
       cases i with
       |no=>cases cj
       |val t=>cases cj
       |new o=>cases cj
       |slot j' =>
        simp only[BN]at cj;split at cj
        .cases cj;rfl
        .cases cj
      subst ij;have hk:k<σi.length:=by rw[hl];exact(tu.mp ei).1
      have io:U[j]?=some σi[k]:=hi k _ _ ei (sV hk);rw[e3]at io;cases io;have e9:(σi[k]?).join=some u:=e8;rw[sV hk]at e9;have kR:σi[k]=some u:=by simpa using e9
      rw[kR];obtain⟨u',eu,ro⟩:=e6;cases eu;have ob:∃o0,s=.own o0\/s=.bor o0:=by
       simp only[BN]at cj;split at cj
       next qM=>obtain⟨o0,s0,_,mT,gY⟩:=j8 j qM;rw[sV hj,es]at mT;cases mT;exact⟨o0,gY⟩
       .cases cj
      obtain⟨o0,ob⟩:=ob;have jg:A8 K ⟨F2.f,F.p⟩ H2 o u (kj k):=A8.wp ro;rcases ob with rfl|rfl
      .exact⟨u,rfl,jg⟩
      .exact⟨u,rfl,jg⟩
     .cases e2)
   (λj=>by
    try dsimp only
    split
    .exact m1 _
    .exact n1 _)
   (λj j' a hj ha hb=>by
    try dsimp only at ha hb
    split at ha
    .rename_i k ek;split at hb
     .rename_i k' ic;by_cases e:k=k'
      .subst e;obtain⟨_,i,ei,h1⟩:=placeOf_some ek;obtain⟨_,i',iH,h2⟩:=placeOf_some ic;rw[ei]at iH;cases iH;rw[h1]at h2;cases h2;exact hj rfl
      .exact m2 k k' a e ha hb
     next ic=>exact aR.pl a (r2 k a ha) (eY j' a hb (placeOf_none ic)).1
    .rename_i ek;split at hb
     next k' ic=>exact aR.pl a (r2 k' a hb) (eY j a ha (placeOf_none ek)).1
     .exact n2 j j' a hj ha hb)
  have src:∀a∈L',(a∈Li/\¬F2.p a)\/∃j,a∈bE j/\j∉C8 fs is:=λa m=>by
   obtain⟨j,_,q⟩:=p3 a m
   try dsimp only at q
   split at q
   next k ek=>exact .inl ⟨r2 k a q,aR.pl a (r2 k a q)⟩
   next ek=>exact .inr ⟨j,q,placeOf_none ek⟩
  refine⟨L',⟨p1,p2,λa m f=>?_,λa f=>aR.fd a f,λj o e=>?_,λa p=>?_,λa f p=>?_,λa m p=>?_⟩,λa m=>?_⟩
  .rcases src a m with⟨q,_⟩|⟨j,q,hj⟩
   .exact aR.nf a q f
   .exact aR.pf a f (eY j a q hj).1
  .have hj:j<fs.length:=by rw[<- b1];exact(tu.mp e).1
   obtain⟨s1,e1,e2⟩:=b2 j fs[j] (sV hj);rw[e]at e1;cases e1;have:∃o',fs[j]?=some (some (.bor o')):=by
    unfold LG at e2;split at e2
    .exact⟨o,by rwa[sV hj]⟩
    .split at e2
     next o1 s et es=>cases s with|val t=>cases e2|own o2=>cases e2|bor o2=>exact⟨o2,by rw[sV hj,es]⟩
     .cases e2
   obtain⟨o',eo⟩:=this;exact ok.bo j o' eo
  .rw[(l.p a (.inl p)).2];exact ok.pd a p
  .exact aR.pf a f (l.p a (.inl p)).1
  .rcases src a m with⟨_,q⟩|⟨j,q,hj⟩
   .exact q (l.p a (.inl p)).1
   .exact ok.pl a (q2 j a q) p
  .rcases src a m with⟨q,_⟩|⟨j,q,hj⟩
   .exact .inl q
   .exact .inr (.inr ⟨j,q,hj⟩)
noncomputable def Bof(U:St):Nat->Option V:=λk=>(U[k]?).join
def spF(K:Fg)(p:Nat)(Fn:FS->Out Rv):Sp:=λvs H Q _=>vs.length=p/\∃F dk,Okk K F (Bof (vs.map some)) H dk (vs.map some)/\match Fn dk with|.ok r τ=>∀F' H' u au,Le F H F' H'->RR K (Bof (vs.map some)) au F' H' τ r u->Q u H'|_=>False
noncomputable def Bo(n:Nat)(g:FS->SO):FS->Out Rv:=λargs=>match g (args++List.replicate n none)with
 |.nx τ=>.ok (.t .v) (τ.take args.length)
 |.ret (.t t) τ=>.ok (.t t) (τ.take args.length)
 |.ret (.nw o) τ=>.ok (.nw o) (τ.take args.length)
 |.ret (.n i) τ=>match τ[i]? with|some (some (.own o))=>.ok (.nw o) ((τ.set i none).take args.length)|_=>.bad
 |.exc c τ=>.exc c (τ.take args.length)
 |_=>.bad
variable{P:Program}{w:World}{mg:Str->Option Value}{base:Heap}
noncomputable def Bj:Rv->Ini
 |.t t=>.val t
 |.n i=>.slot i
 |.nw o=>.new o
noncomputable def S3(Fn:FS->Out Rv)(rs:List Rv)(fs:FS):Out Rv :=
 if(C8 fs (rs.map Bj)).Nodup then(match Fn (B0 fs (rs.map Bj))with|.ok (.t t) τ=>(match D2 (rs.map Bj) τ fs with|some ar=>.ok (.t t) ar|none=>.bad)|.ok (.nw o) τ=>(match D2 (rs.map Bj) τ fs with|some ar=>.ok (.nw o) ar|none=>.bad)|_=>.bad)else .bad
theorem Jm.len:∀{rs:List Rv}{vs:List V},Jm K F H U rs vs->vs.length=rs.length
 | [],_,h=>by cases h;rfl
 |r::rs,_,h=>by obtain⟨v,w,rfl,h1,h2⟩:=h;simp[Jm.len h2]
def Fl(K:Fg)(F:Wd)(H:Hp)(U:St):List Rv->List V->List Addr->Prop
 | [],vs,L=>vs=[]/\L=[]
 |r::rs,vs,L=>∃v w L1 L2,vs=v::w/\Qq K F H U r v L1/\Fl K F H U rs w L2/\L=L1++L2
def RAn(K:Fg)(B:Nat->Option V)(U:St):Wd->Hp->FS->List Rv->List V->Prop:=λF H fs rs vs=>∃L M,Ok K F B H fs U L/\Fl K F H U rs vs M/\(L++M).Nodup/\∀a∈M,¬F a/\¬F.p a
def tAn(K:Fg)(Z:Xp)(f:FS->Out (List Rv)):TA:=λU H Q=>∃F B fs,Okk K F B H fs U/\sat Z B (RAn K B U) F H (f fs) Q
def FAn(X:Cx)(Z:Xp)(es:List Expr)(f:FS->Out (List Rv)):Prop:=PA X es (tAn X.K Z f)
noncomputable def Ad(f:FS->Out Rv)(g:FS->Out (List Rv)):FS->Out (List Rv):=λfs=>(f fs).bind λr fs=>(g fs).bind λrs fs=>.ok (r::rs) fs
variable{rs:List Rv}{Q:VK}{Fn:FS->Out Rv}{E:XK}
theorem Fl.len:∀{rs:List Rv}{vs:List V}{M:List Addr},Fl K F H U rs vs M->vs.length=rs.length
 | [],_,_,h=>by obtain⟨rfl,_⟩:=h;rfl
 |r::rs,_,_,h=>by obtain⟨v,w,L1,L2,rfl,_,h,_⟩:=h;simp[Fl.len h]
theorem Qq.def{r}(h:Qq K F H U r v L):∀a∈L,H a≠none:=by
 cases r with
 |t t=>obtain⟨rfl,_⟩:=h;exact λa m=>nomatch m
 |nw o=>exact A8.def h
 |n i=>obtain⟨rfl,_⟩:=h;exact λa m=>nomatch m
theorem Qq.lf{r}(l:∀a,F a->F' a/\H' a=H a)(k:∀a∈L,H' a=H a)(h:Qq K F H U r v L):Qq K F' H' U r v L:=by cases r with|t t=>exact⟨h.1,Bf.le (F:=⟨F.f,λ_=>False⟩) ⟨l,λ_ z=>z.elim⟩ (Bf.wp h.2)⟩|nw o=>exact A8.le (F:=⟨F.f,λ_=>False⟩) ⟨l,λ_ z=>z.elim⟩ k (A8.wp h)|n i=>exact h
theorem Fl.lf(l:∀a,F a->F' a/\H' a=H a):∀{rs:List Rv}{vs:List V}{M:List Addr},(∀a∈M,H' a=H a)->Fl K F H U rs vs M->Fl K F' H' U rs vs M
 | [],_,_,_,h=>h
 |r::rs,_,_,k,h=>by obtain⟨v,w,L1,L2,e,h1,h2,rfl⟩:=h;exact⟨v,w,L1,L2,e,h1.lf l λa m=>k a (tH _ m),Fl.lf l (λa m=>k a (tB _ m)) h2,rfl⟩
theorem Fl.toP:∀{rs:List Rv}{vs:List V}{M:List Addr},Fl K F H U rs vs M->∃μ:Nat->List Addr,(∀k r,rs[k]?=some r->∃v,vs[k]?=some v/\Qq K F H U r v (μ k))/\(∀k a,a∈μ k->a∈M/\H a≠none) /\
  (M.Nodup->(∀k,(μ k).Nodup)/\∀i j a,i≠j->a∈μ i->a∉μ j)
 | [],_,_,h=>⟨λ_=>[],(λk r e=>by simp at e),(λ_ _ m=>nomatch m),λ_=>⟨λ_=>tJ,(λ_ _ _ _ m=>nomatch m)⟩⟩
 |r::rs,_,_,h=>by
  obtain⟨v,w,L1,L2,rfl,h1,h2,rfl⟩:=h;obtain⟨μ,q1,q2,q3⟩:=Fl.toP h2;refine⟨λi=>match i with|0=>L1|i+1=>μ i,λk r' e=>?_,λk a m=>?_,λnd=>?_⟩
  .cases k with|zero =>simp at e;subst e;exact⟨v,rfl,h1⟩|succ k =>obtain⟨u,e1,e2⟩:=q1 k r' (by simpa using e);exact⟨u,by simpa using e1,e2⟩
  .cases k with|zero=>exact⟨tH _ m,h1.def a m⟩|succ k=>exact⟨tB _ (q2 k a m).1,(q2 k a m).2⟩
  .rw[sT]at nd;obtain⟨n1,n2,n3⟩:=nd;obtain⟨m1,m2⟩:=q3 n2;refine⟨λi=>?_,λi j a gS hi hj=>?_⟩
   .cases i with|zero=>exact n1|succ i=>exact m1 i
   .cases i with
    |zero =>cases j with|zero=>exact gS rfl|succ j=>exact n3 a hi a (q2 j a hj).1 rfl
    |succ i =>cases j with|zero=>exact n3 a hj a (q2 i a hi).1 rfl|succ j=>exact m2 i j a (λe=>gS (by rw[e])) hi hj
theorem O9(q:RAn K B U F H fs rs vs):∃L μ,Ok K F B H fs U L/\Mu F H L μ/\(vs.map some).length=(rs.map Bj).length/\∀(k:Nat)(i:Ini)(v:Option V),(rs.map Bj)[k]?=some i->(vs.map some)[k]?=some v->W8 K F H U i v (μ k):=by obtain⟨L,M,ok,q,nd,nf⟩:=q;obtain⟨μ,q1,q2,q3⟩:=q.toP;rw[sT]at nd;obtain⟨m1,m2⟩:=q3 nd.2.1;refine⟨L,μ,ok,⟨λk a m=>⟨(nf a (q2 k a m).1).1,(nf a (q2 k a m).1).2,λz=>nd.2.2 a z a (q2 k a m).1 rfl,(q2 k a m).2⟩,m1,m2⟩,by simp[q.len],λk i v e1 e2=>?_⟩;rw[t7,tq]at e1 e2;obtain⟨r,er,rfl⟩:=e1;obtain⟨u,eu,rfl⟩:=e2;obtain⟨u',e3,rr⟩:=q1 k r er;rw[eu]at e3;cases e3;cases r with|t t=>exact⟨u,rfl,rr.2⟩|nw o=>exact⟨u,rfl,rr⟩|n i=>exact rr.2
theorem RAn.len(q:RAn K B U F H fs rs vs):vs.length=rs.length:=by obtain⟨L,M,ok,q,_⟩:=q;exact q.len
theorem S0(q:RAn K B U F H fs rs vs)(s:sat Z B (RR K B U) F H (S3 Fn rs fs) Q):spF K rs.length Fn vs H Q E:=by
 unfold S3 at s;split at s
 .rename_i nd;obtain⟨L9,μ,ok,fB,hl,hi⟩:=O9 q;obtain⟨Pp,p1,p2,p3,p4⟩:=lend ok hl hi nd fB;refine⟨q.len,⟨F.f,Pp⟩,B0 fs (rs.map Bj),p2,?_⟩;split at s
  .rename_i t τ e;rw[e];split at s
   next ar eb=>intro F' H' u au l k;obtain⟨Li,L',o1,⟨_,r⟩,_⟩:=k;obtain⟨le,L,o2,_⟩:=p4 F' H' τ au Li ar l o1 eb;exact s ⟨F'.f,F.p⟩ H' u le (RR.of ⟨L,o2⟩ (Bf.wp r))
   .exact s.elim
  .rename_i o τ e;rw[e];split at s
   .rename_i ar eb;intro F' H' u au l k;obtain⟨Li,L',o1,r,nd,nf⟩:=k;obtain⟨le,L,o2,sub⟩:=p4 F' H' τ au Li ar l o1 eb;refine s ⟨F'.f,F.p⟩ H' u le ⟨L,L',o2,A8.wp r,?_,λa m=>⟨(nf a m).1,λp=>(nf a m).2 (l.p a (p1 a p)).1⟩⟩;rw[sT]at nd ⊢;refine⟨o2.nd,nd.2.1,λa ha b hb e=>?_⟩;rcases sub a ha with z|z
    .exact nd.2.2 a z b hb e
    .exact(nf b hb).2 (l.p b (e▸z)).1
   .exact s.elim
  .exact s.elim
 .exact s.elim
variable{g:FS->Out (List Rv)}
theorem Ly:FAn X Z [] Ah:=L8 HL λU H Q ⟨F,B,fs,⟨L,ok⟩,s⟩=>s F H [] Le.refl ⟨L,[],ok,⟨rfl,rfl⟩,by simpa using ok.nd,(λ_ m=>nomatch m)⟩
theorem Mo{Q}{r}{R2:Wd->Hp->FS->γ->δ->Prop}(q:RR K B U F1 H1 aj r u)(s1:sat Z B R2 F1 H1 ((g aj).bind k) Q)
  (hk:∀rs aB F2 H2 us,Le F1 H1 F2 H2->RAn K B U F2 H2 aB (r::rs) (u::us)->sat Z B R2 F2 H2 (k rs aB) Q->Q' us H2):tAn K Z g U H1 Q':=by
 obtain⟨L,L1,o1,r1,nd,nf⟩:=q;have j5:=sT.mp nd;have nC:Le F1 H1 ⟨F1.f,λa=>F1.p a\/a∈L1⟩ H1:=⟨λa f=>⟨f,rfl⟩,λa f=>⟨.inl f,rfl⟩⟩
 refine⟨⟨F1.f,λa=>F1.p a\/a∈L1⟩,B,aj,⟨L,o1.sl.le nC λ_ _=>rfl,o1.nd,o1.nf,o1.fd,o1.bo,λa p=>?_,λa f p=>?_,λa m p=>?_⟩,?_⟩
 .rcases p with p|p
  .exact o1.pd a p
  .exact r1.def a p
 .rcases p with p|p
  .exact o1.pf a f p
  .exact(nf a p).1 f
 .rcases p with p|p
  .exact o1.pl a m p
  .exact j5.2.2 a m a p rfl
 .cases eg:g aj with
  |bad=>rwa[eg]at s1
  |exc c t=>rw[eg]at s1;exact Z.mono s1 nC
  |ok rs aB =>
   rw[eg]at s1;intro F2 H2 us l2 q2;obtain⟨L2,M2,o2,r2,i4,l9⟩:=q2;have je:Le F1 H1 ⟨F2.f,F1.p⟩ H2:=⟨λa f=>l2.f a f,λa f=>⟨f,(l2.p a (.inl f)).2⟩⟩
   have hp:∀a∈L1,F2.p a/\H2 a=H1 a:=λa m=>l2.p a (.inr m)
   have j3:=sT.mp i4;refine hk rs aB ⟨F2.f,F1.p⟩ H2 us je ⟨L2,L1++M2,⟨AA.wp o2.sl,o2.nd,o2.nf,o2.fd,o2.bo,λa f=>by rw[(je.p a f).2];exact o1.pd a f,λa f p=>o2.pf a f (l2.p a (.inl p)).1,λa m p=>o2.pl a m (l2.p a (.inl p)).1⟩,⟨u,us,L1,M2,rfl,Qq.lf (F:=F1) (F':=⟨F2.f,F1.p⟩) (H:=H1) (H':=H2) (λa f=>l2.f a f) (λa m=>(hp a m).2) r1,Fl.lf (F:=F2) (F':=⟨F2.f,F1.p⟩) (λa f=>⟨f,rfl⟩) (λ_ _=>rfl) r2,rfl⟩,?_,λa m=>?_⟩ (sat.le s1 je)
   .rw[sT];refine⟨o2.nd,?_,λa ha b hb e=>?_⟩
    .rw[sT];exact⟨j5.2.1,j3.2.1,λa ha b hb e=>(l9 b hb).2 (e▸(hp a ha).1)⟩
    .rcases tE.mp hb with hb|hb
     .exact o2.pl a ha (e▸(hp b hb).1)
     .exact j3.2.2 a ha b hb e
   .rcases tE.mp m with m|m
    .exact⟨λf=>o2.pf a f (hp a m).1,(nf a m).2⟩
    .exact⟨(l9 a m).1,λp=>(l9 a m).2 (l2.p a (.inl p)).1⟩
theorem Ec(ha:FE X Z e f)(hr:FAn X Z es g)(hs:starEach (e::es) X.env=(false,eval e X.env)::starEach es X.env:=by rfl):FAn X Z (e::es) (Ad f g) :=
 L8 (Ds ha hr hs) λU H Q ⟨F,B,fs,ok,s⟩=>⟨F,B,fs,ok,AG s λr aj F1 H1 u l q s1=>Mo q s1 λrs aB F2 H2 us _ ra s2=>s2 F2 H2 (u::us) Le.refl ra⟩
variable{x m:Str}{k p:Nat}{ps:List Str}{pp:Pos}
noncomputable def Qc(p:Nat)(Fn:FS->Out Rv):List Rv->FS->Out Rv:=λrs fs=>if rs.length=p then S3 Fn rs fs else .bad
noncomputable def DT(C:Addr)(m:Str)(fs:FS):Rv->Bool
 |.t (.ins C' gs _)=>decide (C'=C)&&!gs.any (·==m)
 |.n i=>match AH fs i with|some (.ins C' gs _)=>decide (C'=C)&&!gs.any (·==m)|_=>false
 |_=>false
theorem Gw{ah:List (Str×V)}(h:((ah.map (·.1)).any (·==m))=false):ah.lookup m=none:=by
 induction ah with
 |nil=>rfl
 |cons p r ih =>
  rw[sW,uP,Bool.or_eq_false_iff]at h;obtain⟨k,v⟩:=p;rw[ud];have:(m==k)=false:=by have h1:=h.1;rw[beq_eq_false_iff_ne]at h1 ⊢;exact λe=>h1 e.symm
  rw[this];exact ih h.2
theorem Mn{r}(ok:Okk K F B H fs U)(q:Eh K F H U r u)(h:DT C m fs r=true):∃a dx ah,u=.ref a/\H a=some (.ins C dx ah)/\ah.lookup m=none:=by
 unfold DT at h;split at h
 next C' gs ts=>rw[tW]at h;have hC:=tX h.1;subst hC;obtain⟨a,dx,ah,rfl,f,hd,rfl,r⟩:=q;exact⟨a,dx,ah,rfl,hd,Gw (by simpa using h.2)⟩
 .rename_i i;split at h
  .rename_i C' gs os eo;rw[tW]at h;have hC:=tX h.1;subst hC;obtain⟨v,L2,e1,q2,_⟩:=ok.own eo;have e2:U[i]?=some (some u):=q;rw[e1]at e2;have e3:v=u:=by simpa using e2
   subst e3;obtain⟨a,dx,ah,L',rfl,hd,rfl,_⟩:=q2;exact⟨a,dx,ah,rfl,hd,Gw (by simpa using h.2)⟩
  .cases h
 .cases h
noncomputable def Hv(C:Addr)(m:Str)(p:Nat)(Fn:FS->Out Rv)(fo:FS->Out Rv)(fa:FS->Out (List Rv)):FS->Out Rv:=λfs=>(fo fs).bnd λx fs=>if DT C m fs x=true then(fa fs).bind λrs fs=>Qc p Fn (x::rs) fs else .bad
noncomputable def E6(C:Addr)(p:Nat)(Fn:FS->Out Rv)(rs:List Rv)(fs:FS):Out Rv :=
 if(C8 fs (rs.map Bj)).Nodup/\rs.length+1=p then(match Fn (some (.bor (.ins C [] []))::B0 fs (rs.map Bj))with|.ok (.t .v) (some (.bor o)::τ)=>(match D2 (rs.map Bj) τ fs with|some ar=>.ok (.nw o) ar|none=>.bad)|_=>.bad)else .bad
theorem Rz(q:RAn K B U F H fs rs vs)(s:sat Z B (RR K B U) F H (E6 C p Fn rs fs) Q)
  {x dx:Addr} (hx:H x=none) (sI:H dx=none) (bV:dx≠x):spF K p Fn (.ref x::vs) (upd (upd H dx (.own x)) x (.ins C dx [])) (λv H2=>v=.v/\Q (.ref x) H2) E:=by
 unfold E6 at s;split at s
 .rename_i hh;obtain⟨nd,hp⟩:=hh;obtain⟨L9,μ,ok,fB,hl,hi⟩:=O9 q;obtain⟨Pp,p1,⟨L0,p2⟩,p3,p4⟩:=lend ok hl hi nd fB;have l0:∀a,H a≠none->(upd (upd H dx (.own x)) x (.ins C dx [])) a=H a:=λa h=>by rw[Ap (λe=>h (by rw[e];exact hx)),Ap (λe=>h (by rwa[e]))]
  have nB:Le ⟨F.f,Pp⟩ H ⟨F.f,Pp⟩ (upd (upd H dx (.own x)) x (.ins C dx [])):=⟨λa f=>⟨f,l0 a (p2.fd a f)⟩,λa f=>⟨f,l0 a (p3 a f)⟩⟩
  refine⟨by rw[tM,q.len];exact hp,⟨F.f,Pp⟩,some (.bor (.ins C [] []))::B0 fs (rs.map Bj),?_,?_⟩
  .refine⟨[x]++L0,AA.cons ⟨.ref x,rfl,?_⟩ (p2.sl.le nB λa m=>l0 a (p2.sl.def a m)),?_,λa m=>?_,λa f=>?_,λi o e=>?_,λa f=>?_,p2.pf,λa m=>?_⟩
   .simp only[A8];exact⟨x,dx,[],[],rfl,As,rfl,⟨rfl,rfl⟩,rfl⟩
   .rw[sT];exact⟨by simp,p2.nd,λa ha b hb e=>p2.sl.def b hb (by rwa[<- e,tK.mp ha])⟩
   .rcases tE.mp m with m|m
    .rw[tK.mp m];exact λf=>p2.fd x f hx
    .exact p2.nf a m
   .rw[l0 a (p2.fd a f)];exact p2.fd a f
   .cases i with|zero=>exact⟨.ref x,rfl,rfl⟩|succ i=>exact p2.bo i o (by simpa using e)
   .rw[l0 a (p3 a f)];exact p3 a f
   .rcases tE.mp m with m|m
    .rw[tK.mp m];exact λf=>p3 x f hx
    .exact p2.pl a m
  .split at s
   .rename_i o τ e;rw[e];split at s
    .rename_i ar eb;intro F' H' u au l k;obtain⟨oU,L',o1,⟨_,r⟩,_⟩:=k;refine⟨r,?_⟩;obtain⟨v,gv,L1,L2,rfl,h1,h2,rfl⟩:=o1.sl.HB;obtain⟨w,rfl,ro⟩:=h1;obtain⟨w',e3,e4⟩:=o1.bo 0 o rfl;have ew:w=.ref x:=by have z1:some (some w)=some (some w'):=e3;have z2:some (V.ref x)=some w':=e4;cases z1;cases z2;rfl
     subst ew;have dg:=sT.mp o1.nd;have l':Le ⟨F.f,Pp⟩ H F' H':=nB.trans l;obtain⟨le,L,o3,sub⟩:=p4 F' H' τ gv L2 ar l' (⟨h2,dg.2.1,λa m=>o1.nf a (tB _ m),o1.fd,λi ob eo=>by obtain⟨v,z1,z2⟩:=o1.bo (i+1) ob (by simpa using eo);exact⟨v,by simpa using z1,by have z3:(((V.ref x::vs).map some)[i+1]?).join=some v:=z2;simpa using z3⟩,o1.pd,o1.pf,λa m=>o1.pl a (tB _ m)⟩) eb;refine s ⟨F'.f,F.p⟩ H' (.ref x) le ⟨L,L1,o3,A8.wp ro,?_,λa m=>⟨o1.nf a (tH _ m),λp=>o1.pl a (tH _ m) (l'.p a (p1 a p)).1⟩⟩;rw[sT];refine⟨o3.nd,dg.1,λa ha b hb e=>?_⟩;rcases sub a ha with z|z
     .exact dg.2.2 b hb a z e.symm
     .exact o1.pl b (tH _ hb) (l'.p b (e▸z)).1
    .exact s.elim
   .exact s.elim
 .exact s.elim
noncomputable def Dc(gt:T->FS->Option FS)(ft:FS->Out Bool)(fe:FS->Out Rv):List T->FS->List T->Option (List T×FS)
 | [],τ,ay=>some (ay,τ)
 |t::ts,τ,ay=>match gt t τ with|none=>none|some τ=>match ft τ with|.ok true τ=>(match fe τ with|.ok (.t v) τ=>if ay.length<big then Dc gt ft fe ts τ (ay++[v])else none|_=>none)|.ok false τ=>Dc gt ft fe ts τ ay|_=>none
noncomputable def EX:FS->Out Bool:=λfs=>.ok true fs
noncomputable def Cj(new:Bool)(src:List (Option Nat))(fi:FS->Out (List T))(gt:T->FS->Option FS)(ft:FS->Out Bool)(fe:FS->Out Rv):FS->Out Rv:=λfs=>(fi fs).bind λts fs =>if(C8 fs (src.map λo=>o.elim Ini.no Ini.slot)).Nodup/\(src.all λo=>o.elim true λj=>decide (j<fs.length))=true then(match Dc gt ft fe ts (B0 fs (src.map λo=>o.elim Ini.no Ini.slot)) []with|some (vs,τ)=>(match D2 (src.map λo=>o.elim Ini.no Ini.slot) τ fs with|some ar=>if new=true then .ok (.nw (.lst vs)) ar else .ok (.t (.lst vs)) ar|none=>.bad)|none=>.bad)else .bad
def FIf(X:Cx)(cM:List Expr)(ft:FS->Out Bool):Prop:=Uu X cM (tT X.K Xp.no ft)
theorem Q8{e}(h:Uu X e t)(i:∀U H Q,t' U H Q->t U H Q):Uu X e t':=λae s U H Q I q=>h ae s U H Q I (i _ _ _ q)
theorem Wo:FIf X [] EX:=Q8 Q7 λU H Q ⟨F,B,fs,ok,s⟩=>s F H true Le.refl ⟨ok,rfl⟩
theorem Wn(h:FT X Xp.no c ft):FIf X [c] ft:=Q6 h
theorem Okk.hide{o}(h:Okk K F B H fs U)(hp:H p=none):Okk K ⟨F.f,λa=>F.p a\/a=p⟩ B (upd H p o) fs U:=by
 obtain⟨L,h⟩:=h;have l:Le F H ⟨F.f,λa=>F.p a\/a=p⟩ (upd H p o):=⟨λa f=>⟨f,Ap λe=>h.fd a f (e▸hp)⟩,λa f=>⟨.inl f,Ap λe=>h.pd a f (e▸hp)⟩⟩
 refine⟨L,h.sl.le l (h.VU hp),h.nd,h.nf,λa q=>DN (h.fd a q),h.bo,λa q=>?_,λa f q=>?_,λa m q=>?_⟩
 .rcases q with q|q
  .exact DN (h.pd a q)
  .rw[q,As];simp
 .rcases q with q|q
  .exact h.pf a f q
  .exact h.fd a f (q▸hp)
 .rcases q with q|q
  .exact h.pl a m q
  .exact h.sl.def a m (q▸hp)
theorem Okk.upP{o}(h:Okk K F B H fs U)(hp:F.p p):Okk K F B (upd H p o) fs U:=by
 obtain⟨L,h⟩:=h;have hf:∀a,F a->(upd H p o) a=H a:=λa f=>Ap λe=>h.pf a f (e▸hp)
 have l:Le ⟨F.f,λ_=>False⟩ H ⟨F.f,F.p⟩ (upd H p o):=⟨λa f=>⟨f,hf a f⟩,λa f=>f.elim⟩
 refine⟨L,(AA.wp h.sl).le l λa m=>Ap λe=>h.pl a m (e▸hp),h.nd,h.nf,λa q=>DN (h.fd a q),h.bo,λa q=>DN (h.pd a q),h.pf,h.pl⟩
theorem Al.upP{o}(h:Okk K F B H fs U)(hp:F.p p)(r:Al K F H ts vs):Al K F (upd H p o) ts vs:=by
 obtain⟨L,h⟩:=h;have l:Le ⟨F.f,λ_=>False⟩ H ⟨F.f,F.p⟩ (upd H p o):=⟨λa f=>⟨f,Ap λe=>h.pf a f (e▸hp)⟩,λa f=>f.elim⟩
 exact Al.le l (Al.wp r)
variable{N:List Str}{sc:Scope}{dD:Expr}{cM:List Expr}{fi:FS->Out (List T)}{ft:FS->Out Bool}{fe:FS->Out Rv}
inductive CI(K:Fg)(W:Wd)(H1:Hp)(D:Addr)(Bc:Nat->Option V)(gt:T->FS->Option FS)(ft:FS->Out Bool)(fe:FS->Out Rv)(r:List T×FS)(l:List T)(bK:St)(H2:Hp):Prop
 |mk (F2:Wd) (τ:FS) (ay:List T) (ys:List V) (l2:Le W H1 F2 H2) (pD:F2.p D) (aR:Okk K F2 Bc H2 τ bK) (fP:H2 D=some (.lst ys)) (cI:Al K F2 H2 ay ys) (ec:Dc gt ft fe l τ ay=some r):CI K W H1 D Bc gt ft fe r l bK H2
theorem CI.put{l}{r}{y}(nP:¬W.p D)(jY:Le W H1 F6 H6)(p6:F6.p D)(o6:Ok K F6 Bc H6 τ3 bK L6)(ka:Al K F6 H6 ay ys)(rv:Bf K F6 H6 v y)
  (bt:Dc gt ft fe l τ3 (ay++[v])=some r):CI K W H1 D Bc gt ft fe r l bK (upd H6 D (.lst (ys++[y]))) :=
 .mk F6 τ3 (ay++[v]) (ys++[y]) ⟨λa f=>⟨(jY.f a f).1,by rw[Ap λe=>o6.pf a (jY.f a f).1 (by rw[e];exact p6)];exact(jY.f a f).2⟩,λa f=>⟨(jY.p a f).1,by rw[Ap λe=>nP (by rw[<- e];exact f)];exact(jY.p a f).2⟩⟩
  p6 (Okk.upP ⟨L6,o6⟩ p6) As (Al.upP ⟨L6,o6⟩ p6 (ka.app (Al.one rv))) bt
theorem CI.one{l}{r}(nP:¬W.p D)(kB:Le W H1 F5 H5)(p5:F5.p D)(kG:Okk K F5 Bc H5 dP bK)(ql:H5 D=some (.lst ys))(iD:Al K F5 H5 ay ys)
  (bt:(match fe dP with|.ok (.t v) τ=>if ay.length<big then Dc gt ft fe l τ (ay++[v])else none|_=>none)=some r) :
  tF K Xp.no fe bK H5 λy H6=>∃ys,H6 D=some (.lst ys)/\ys.length<sizeLine/\CI K W H1 D Bc gt ft fe r l bK (upd H6 D (.lst (ys++[y]))):=by
 refine⟨F5,Bc,dP,kG,?_⟩;cases ee:fe dP with
 |exc c τ3=>rw[ee]at bt;cases bt
 |bad=>rw[ee]at bt;cases bt
 |ok w τ3 =>
  rw[ee]at bt;cases w with
  |nw o=>cases bt
  |n o=>cases bt
  |t v =>
   dsimp only at bt;by_cases hlen:ay.length<big
   .rw[if_pos hlen]at bt;intro F6 H6 y l6 q6;obtain⟨L6,sj,o6,⟨_,rv⟩,_⟩:=q6;have p6:=l6.p D p5;exact⟨ys,p6.2.trans ql,by rw[iD.len];exact uD hlen Fw,CI.put nP (kB.trans l6) p6.1 o6 (iD.le l6) rv bt⟩
   .rw[if_neg hlen]at bt;cases bt
theorem CI.turn{l}{r}{x}(nP:¬W.p D)(l2:Le W H1 F3 H3)(pD:F3.p D)(aR:Okk K F3 Bc H3 τ bK)(fP:H3 D=some (.lst ys))(cI:Al K F3 H3 ay ys)
  (bt:Dc gt ft fe (t::l) τ ay=some r) (rx:Bf K F3 H3 t x) :
  tG K gt x bK H3 λdP H4=>tT K Xp.no ft dP H4 λb H5=>if b=true then tF K Xp.no fe dP H5 λy H6=>∃ys,H6 D=some (.lst ys)/\ys.length<sizeLine/\CI K W H1 D Bc gt ft fe r l dP (upd H6 D (.lst (ys++[y])))else CI K W H1 D Bc gt ft fe r l dP H5:=by
 simp only[Dc]at bt;refine⟨F3,Bc,τ,t,aR,rx,?_⟩;cases eg:gt t τ with|none=>rw[eg]at bt;cases bt|some τ1 =>rw[eg]at bt;intro F4 H4 nZ l4 gn;refine⟨F4,Bc,τ1,gn,?_⟩;dsimp only at bt;cases et:ft τ1 with|exc c dP=>rw[et]at bt;cases bt|bad=>rw[et]at bt;cases bt|ok b dP =>rw[et]at bt;intro F5 H5 b' l5 q5;obtain⟨kG,rfl⟩:=q5;have p4:=l4.p D pD;have p5:=l5.p D p4.1;have h5:=(p5.2.trans p4.2).trans fP;have kB:=(l2.trans l4).trans l5;have r5:=(cI.le l4).le l5;cases b' with|false =>exact .mk F5 dP ay ys kB p5.1 kG h5 r5 bt|true =>exact CI.one nP kB p5.1 kG h5 r5 bt
theorem WV{src}(ok:Okk K F B H fs U)(eA:(src.all λo=>o.elim true λj=>decide (j<fs.length))=true)(k:Nat)(i:Ini)(v:Option V)(e1:(src.map λo=>o.elim Ini.no Ini.slot)[k]?=some i)(e2:(FD U src)[k]?=some v):W8 K F H U i v []:=by unfold FD at e2;rw[t7,tq]at e1 e2;obtain⟨o,eo,rfl⟩:=e1;obtain⟨o',mS,rfl⟩:=e2;rw[eo]at mS;cases mS;cases o with|none=>exact trivial|some j =>show U[j]?=some ((U[j]?).join);rw[sV (by obtain⟨L1,o1⟩:=ok;rw[o1.sl.len];exact tX (ur.mp eA _ (uu eo)))];rfl
theorem SQ{F1 F2:Wd}(o3:Ok K ⟨F2.f,F1.p⟩ B H2 ar U L)(fP:H2 D=some (.lst ys))(cI:Al K F2 H2 ay ys)(nL:D∉L)(nF:¬F2 D)(np:¬F1.p D):RR K B U ⟨F2.f,F1.p⟩ H2 ar (.nw (.lst ay)) (.ref D):=by
 refine⟨L,[D],o3,CW fP (Al.wp cI),?_,λa m=>?_⟩
 .rw[sT];exact⟨o3.nd,by simp,λa ha b hb e=>nL (by rwa[<- tK.mp hb,<- e])⟩
 .rw[tK.mp m];exact⟨nF,np⟩
theorem SN{F1 F2:Wd}(o3:Ok K ⟨F2.f,F1.p⟩ B H2 ar U L)(fP:H2 D=some (.lst ys))(cI:Al K F2 H2 ay ys)(nL:D∉L)(np:¬F1.p D):RR K B U (MJ ⟨F2.f,F1.p⟩ [D]) H2 ar (.t (.lst ay)) (.ref D):=by
 have l3:Le ⟨F2.f,F1.p⟩ H2 (MJ ⟨F2.f,F1.p⟩ [D]) H2:=orF;refine RR.of ⟨L,?_⟩ ?_
 .refine⟨o3.sl.le l3 λ_ _=>rfl,o3.nd,λa m z=>?_,λa z=>?_,o3.bo,o3.pd,λa z=>?_,o3.pl⟩
  .rcases z with z|z
   .exact o3.nf a m z
   .exact nL (by rwa[<- tK.mp z])
  .rcases z with z|z
   .exact o3.fd a z
   .rw[tK.mp z,fP];simp
  .rcases z with z|z
   .exact o3.pf a z
   .rwa[tK.mp z]
 .simp only[Eh,Bf];exact⟨D,ys,rfl,.inr (by simp),fP,Al.le l3 (Al.wp cI)⟩
theorem Uo{src}(h:tF K Z (Cj new src fi gt ft fe) U H Q):UD src (tI K Z fi) (tG K gt) (tT K Xp.no ft) (tF K Xp.no fe) U H Q:=by
 obtain⟨F,B,fs,ok,s⟩:=h;refine⟨F,B,fs,ok,AG s λts aj F1 H1 J l q s1=>?_⟩;obtain⟨av,jk⟩:=q;split at s1
 .rename_i eU;obtain⟨L9,rD⟩:=id av;obtain⟨Pp,p1,p2,p3,p4⟩:=lend (μ:=λ_=>[]) rD (by unfold FD;simp) (WV av eU.2) eU.1 Mu.no;have jI:JOk K ⟨F1.f,Pp⟩ H1 J ts:=jk.within;split at s1
  .rename_i vs mF ec;split at s1
   .rename_i ar eb;intro D hD;have nP:=λz=>p3 D z hD
    refine⟨λi m bK H2=>m=ts.length-i/\CI K ⟨F1.f,Pp⟩ H1 D (Bof (FD U src)) gt ft fe (vs,mF) (ts.drop i) bK H2,
     ⟨ts.length,rfl,.mk ⟨F1.f,λa=>Pp a\/a=D⟩ _ [] [] ⟨λa f=>⟨f,Ap λe=>p2.fd a f (e▸hD)⟩,λa f=>⟨.inl f,Ap λe=>nP (e▸f)⟩⟩ (.inr rfl) (p2.hide hD) As rfl ec⟩,λi m bK H2 hc=>?_⟩
    obtain⟨rfl,F2,τ,ay,ys,l2,pD,aR,fP,cI,bt⟩:=hc;by_cases bj:i<ts.length
    .have ei:=sV bj;rw[u0 bj]at bt;obtain⟨j1,j2⟩:=(jI F2 H2 l2.f ⟨_,_,_,aR⟩ i).1 _ ei;refine .inr ⟨j1,CI K ⟨F1.f,Pp⟩ H1 D (Bof (FD U src)) gt ft fe (vs,mF) (ts.drop (i+1)),λnY H' h=>⟨ts.length-(i+1),by lia,rfl,h⟩,λx H3 hy=>?_⟩;obtain⟨F3,⟨kC,nw⟩,rx⟩:=j2 x H3 hy;exact CI.turn nP (l2.trans kC) (kC.p D pD).1 (nw _ _ _ aR) ((kC.p D pD).2.trans fP) (cI.le kC) bt rx
    .refine .inl ⟨(jI F2 H2 l2.f ⟨_,_,_,aR⟩ i).2 (by lia),?_⟩;rw[List.drop_eq_nil_of_le (by lia)]at bt;cases bt;obtain⟨Li,o2⟩:=aR;obtain⟨le,L,o3,sub⟩:=p4 F2 H2 mF bK Li ar l2 o2 eb;have nL:D∉L:=λm=>(sub D m).elim (λz=>o2.pl D z pD) nP
     have np:=λz=>nP (p1 D z)
     cases new with|true =>exact s1 ⟨F2.f,F1.p⟩ H2 (.ref D) le (SQ o3 fP cI nL (λf=>o2.pf D f pD) np)|false =>exact s1 (MJ ⟨F2.f,F1.p⟩ [D]) H2 (.ref D) (le.trans orF) (SN o3 fP cI nL np)
   .exact s1.elim
  .exact s1.elim
 .exact s1.elim
theorem GK(new:Bool)(N:List Str)(src:List (Option Nat))(bw:X.calm=true)(hi:FI X Z tg aA fi)(hg:∀cl C s H fp,GT (B4 X N sc cl C s H fp) tg gt)(ht:∀cl C s H fp,FIf (B4 X N sc cl C s H fp) cM ft)
  (he:∀cl C s H fp,FE (B4 X N sc cl C s H fp) Xp.no dD fe) (hS:H0 X.env.scope sc=true:=by rfl) (bP:Ff X.N sc N src=true:=by rfl)
  (hs:∀x,foldedSetIterable aA X.env x=pure x:=by intro _;rfl):FE X Z (.ListComp dD [⟨tg,aA,cM,0⟩] sc pos) (Cj new src fi gt ft fe) :=
 AY (Vf (g:=tG X.K gt) (tt:=tT X.K Xp.no ft) (te:=tF X.K Xp.no fe) N src bw hi hg ht he hS bP hs) λ_ _ _ h=>Uo h
theorem E8{y}(new:Bool)(i:Nat)(N:List Str)(src:List (Option Nat))(bw:X.calm=true)(hN:X.N.Nodup)(hy:Loc X.env.scope y)(hi:FI X Z tg aA fi)(hg:∀cl C s H fp,GT (B4 X N sc cl C s H fp) tg gt)(ht:∀cl C s H fp,FIf (B4 X N sc cl C s H fp) cM ft)
  (he:∀cl C s H fp,FE (B4 X N sc cl C s H fp) Xp.no dD fe) (lA:X.N[i]?=some y:=by rfl) (hS:H0 X.env.scope sc=true:=by rfl) (bP:Ff X.N sc N src=true:=by rfl)
  (hs:∀x,foldedSetIterable aA X.env x=pure x:=by intro _;rfl) (lS:swapsWith (.ListComp dD [⟨tg,aA,cM,0⟩] sc pos) (some (.Name y bc)) hJ.line X.env=pure true:=by rfl)
  (hf:X.fn y=true\/X.env.scope.names.lookup y=some .local:=by first|exact .inl rfl|exact .inr rfl|assumption) :
  GS X Z (.Assign [.Name y bc] (.ListComp dD [⟨tg,aA,cM,0⟩] sc pos) hJ) (AL i (Cj new src fi gt ft fe)) :=
 Ct (MX (g:=tG X.K gt) (tt:=tT X.K Xp.no ft) (te:=tF X.K Xp.no fe) N src bw hN lA hy hi hg ht he hS bP hs lS hf) λ_ _ _ s=>Uo (XG s)
noncomputable def orG(g g':Rv->Rv->FS->Out Rv):Rv->Rv->FS->Out Rv:=λx y fs=>match g x y fs with|.bad=>g' x y fs|o=>o
theorem OpF.or{g}{r}(h:OpF K Z r g)(h':OpF K Z r' g'):OpF K Z (orR r r') (orG g g'):=by intro F B H U fs x y u w Q ok rx ry s;unfold orG at s;cases e:g x y fs with|ok a t=>rw[e]at s;exact .inl (h F B H U fs x y u w Q ok rx ry (by rw[e];exact s))|exc c t=>rw[e]at s;exact .inl (h F B H U fs x y u w Q ok rx ry (by rw[e];exact s))|bad=>rw[e]at s;exact .inr (h' F B H U fs x y u w Q ok rx ry s)
noncomputable def orC(g g':List Rv->FS->Out Rv):List Rv->FS->Out Rv:=λx fs=>match g x fs with|.bad=>g' x fs|o=>o
theorem Dp.or{g}{r'}{r}{g'}(h:Dp K Z r g)(h':Dp K Z r' g'):Dp K Z (TL r r') (orC g g'):=by intro F B H U fs x u Q ok rx s;unfold orC at s;cases e:g x fs with|ok a t=>rw[e]at s;exact .inl (h F B H U fs x u Q ok rx (by rw[e];exact s))|exc c t=>rw[e]at s;exact .inl (h F B H U fs x u Q ok rx (by rw[e];exact s))|bad=>rw[e]at s;exact .inr (h' F B H U fs x u Q ok rx s)
noncomputable def exL(fs:FS):Rv->Option (List T)
 |.t (.lst ts)=>some ts
 |.n i=>match AH fs i with|some (.lst ts)=>some ts|_=>none
 |_=>none
theorem Ue{x}(h:Okk K F B H fs U)(r:Eh K F H U x u)(e:exL fs x=some ts):∃a vs,u=.ref a/\H a=some (.lst vs)/\Al K F H ts vs:=by
 unfold exL at e;split at e
 .cases e;obtain⟨a,vs,e,f,s,q⟩:=r;exact⟨a,vs,e,s,q⟩
 .rename_i i;split at e
  .rename_i ki eo;cases e;obtain⟨v,L2,e1,q,_⟩:=h.own eo;have e2:U[i]?=some (some u):=r;rw[e1]at e2;have e3:v=u:=by simpa using e2
   subst e3;obtain⟨a,vs,e,s,q,_⟩:=q;exact⟨a,vs,e,s,q⟩
  .cases e
 .cases e
noncomputable def Nl:Rv->Rv->FS->Out Rv:=λx y fs=>match exL fs x,exL fs y with|some ts,some us=>if ts.length+us.length<=big then .ok (.nw (.lst (ts++us))) fs else .bad|_,_=>.bad
noncomputable def Pq:Rv->Rv->FS->Out Rv
 |.t (.tup ts),.t (.tup us),fs=>if ts≠[]/\ts.length+us.length<=big then okT (.tup (ts++us)) fs else .bad
 |_,_,_=>.bad
theorem Vy:OpF K Z JbT Nl:=by
 intro F B H U fs x y u w Q ok rx ry s;unfold Nl at s;split at s
 .rename_i ts us e1 e2;split at s
  next hl=>obtain⟨a,vs,rfl,hs,r⟩:=Ue ok rx e1;obtain⟨b,ws,rfl,bx,r2⟩:=Ue ok ry e2;exact⟨a,b,vs,ws,rfl,rfl,hs,bx,by rw[r.len,r2.len];exact tY hl D1,λp hp=>s F _ (.ref p) (AZ ok hp) (RR.alloc ok hp (CW As ((r.app r2).le (AZ ok hp))))⟩
  .exact s.elim
 .exact s.elim
theorem Vx:OpF K Z (XU K) Pq:=by
 intro F B H U fs x y u w Q ok rx ry s;unfold Pq at s;split at s
 .rename_i ts us;split at s
  .rename_i hl;obtain⟨a,vs,rfl,hs,r⟩:=BG rx rfl;obtain⟨b,ws,rfl,bx,r2⟩:=BG ry rfl;refine⟨a,b,vs,ws,rfl,rfl,hs,bx,λz=>hl.1 ?_,by rw[r.len,r2.len];exact tY hl.2 D1,λz=>?_,λ_ p hp=>s _ _ (.ref p) (A3 ok hp) (E1 ok hp (r.app r2))⟩
   .have:=r.len;rw[z]at this;exact uF this.symm
   .have e:=by have:=r2.len;rw[z]at this;exact uF this.symm
    subst e;rw[ug]at s;exact s F H _ Le.refl (RR.of ok rx)
  .exact s.elim
 .exact s.elim
noncomputable def Po:Rv->Rv->FS->Out Rv
 |.t (.tup []),.t (.tup us),fs=>okT (.tup us) fs
 |_,_,_=>.bad
theorem Rl:OpF K Z (Tu K) Po:=by
 intro F B H U fs x y u w Q ok rx ry s;unfold Po at s;split at s
 next us=>obtain⟨a,vs,rfl,hs,r⟩:=BG rx rfl;obtain⟨b,ws,rfl,bx,r2⟩:=BG ry rfl;subst(by simpa using r);exact⟨a,b,ws,rfl,rfl,hs,bx,s F H _ Le.refl (RR.of ok ry)⟩
 .exact s.elim
theorem Vw:OpF K Z XT Pn:=by
 intro F B H U fs x y u w Q ok rx ry s;unfold Pn at s;split at s
 .split at s
  .rename_i t e;obtain⟨a,o',rfl,hd,h⟩:=PU ok rx ry e;rcases h with⟨h1,_⟩|⟨t',v,h1,h2,h3⟩
   .cases h1
   .cases h1;subst h2;exact⟨a,v,rfl,hd,s F H v Le.refl (RR.of ok h3)⟩
  .exact s.elim
 .exact s.elim
theorem OC(neg:Bool):OpF K Z (JaM neg) (Wi neg):=by
 intro F B H U fs y x w u Q ok ry rx s;unfold Wi at s;split at s
 .split at s
  .rename_i t e;obtain⟨a,o',rfl,hd,h⟩:=PU ok rx ry e;refine⟨a,o',rfl,hd,?_⟩;have:o'.isSome=t.isSome:=by
    rcases h with⟨h1,h2⟩|⟨t',v,h1,h2,h3⟩
    .rw[h1,h2];rfl
    .rw[h1,h2];rfl
   rw[this];exact s F H _ Le.refl (RR.of ok rfl)
  .exact s.elim
 .exact s.elim
noncomputable def Aw:=orG Jbe (orG Sh (orG Nl (orG Pq Po)))
noncomputable def CN:=orG Xf Wg
noncomputable def AB:=orG gIx Pn
noncomputable def DK(neg:Bool):=orG (Wi neg) (orG (Ke neg) (gIn neg))
noncomputable def Sf:List Rv->FS->Out Rv
 | [.t (.l ks _)],fs=>okT (.int ks.length) fs
 | [.n i],fs=>match AH fs i with|some (.l ks _)=>okT (.int ks.length) fs|_=>.bad
 |_,_=>.bad
noncomputable def Bx:=orC Jbc (orC Pm Sf)
noncomputable def Cu:=orC Wh Pl
theorem WR:Dp K Z (λxs H Q=>∃a ah,xs=[V.ref a]/\Rd H a (.l ah)/\Q (.int ah.length) H) Sf:=by
 intro F B H U fs rs vs Q ok q s;unfold Sf at s;split at s
 .obtain⟨v,rfl,qq⟩:=Bh q;have q:=qq;obtain⟨a,ah,rfl,f,hd,rfl,r⟩:=q;rw[sU]at s;exact⟨a,ah,rfl,hd,s F H _ Le.refl (RR.of ok rfl)⟩
 .rename_i i;obtain⟨v,rfl,qq⟩:=Bh q;split at s
  .rename_i eo;obtain⟨v',L2,e1,q2,_⟩:=ok.own eo;have e2:U[i]?=some (some v):=qq;rw[e1]at e2;have e3:=by simpa using e2
   subst e3;obtain⟨a,ah,rfl,hd,rfl,_⟩:=q2;rw[sU]at s;exact⟨a,ah,rfl,.inl hd,s F H _ Le.refl (RR.of ok rfl)⟩
  .exact s.elim
 .exact s.elim
variable{fa:FS->Out Rv}
theorem ZM(ha:FE X Z a fa)(hb:FE X Z b fb):FE X Z (.BinOp a .Add b pos) (Ag Aw fa fb) :=
 Lx (OpF.or YF (OpF.or Vz (OpF.or Vy (OpF.or Vx Rl)))) (OpR.orR Yw (OpR.orR M4 (OpR.orR Yv (OpR.orR Vo Rh)))) ha hb
theorem Zr(ha:FE X Z a fa)(hb:FE X Z b fb):FE X Z (.BinOp a .Sub b pos) (Ag Di fa fb):=Lx Yz Yp ha hb
theorem Zv(ha:FE X Z a fa)(hb:FE X Z b fb):FE X Z (.BinOp a .Mult b pos) (Ag CN fa fb):=Lx (OpF.or YB Vs) (OpR.orR Vm Ov) ha hb
theorem Zx(ha:FE X Z a fa)(hb:FE X Z b fb):FE X Z (.BinOp a .Mod b pos) (Ag DE fa fb):=Lx YC Ys ha hb
theorem ZI(ha:FE X Z a fa)(hb:FE X Z b fb):FE X Z (.BinOp a .FloorDiv b pos) (Ag GH fa fb):=Lx YE Vn ha hb
theorem Jbn(hu:X.A.units+1<cLine)(ha:FE X Z a fa)(hb:FE X Z b fb)(hs:Jn b):FE X Z (.Subscript a b pos) (Ag AB fa fb):=Jbr (OpF.or Ja3 Vw) (IxR.orR YU (V0 hu)) ha hb hs
theorem ZH(ha:FE X Z a fa)(hb:FE X Z b fb):FE X Z (.Compare a [.Eq] [b] pos) (Ag (gEq false) fa fb):=Kk of_eq Yu ha hb (DP _)
theorem Jbl(ha:FE X Z a fa)(hb:FE X Z b fb):FT X Z (.Compare a [.Eq] [b] pos) (asB (Ag (gEq false) fa fb)):=Ek of_eq Yu ha hb (DP _)
theorem Jbg(ha:FE X Z a fa)(hb:FE X Z b fb):FT X Z (.Compare a [.NotEq] [b] pos) (asB (Ag (gEq true) fa fb)):=Ek Ja2 JaY ha hb (DP _)
theorem Jbh(ha:FE X Z a fa)(hb:FE X Z b fb):FT X Z (.Compare a [.Lt] [b] pos) (asB (Ag gLt fa fb)):=Ek of_lt JaZ ha hb (DP _)
theorem Jbi(ha:FE X Z a fa)(hb:FE X Z b fb):FT X Z (.Compare a [.LtE] [b] pos) (asB (Ag gLe fa fb)):=Ek of_le Rg ha hb (DP _)
theorem Jbk(ha:FE X Z a fa)(hb:FE X Z b fb):FT X Z (.Compare a [.Gt] [b] pos) (asB (Ag gGt fa fb)):=Ek Ja4 Ja0 ha hb (DP _)
theorem Jbq(ha:FE X Z a fa)(hb:FE X Z b fb):FE X Z (.Compare a [.LtE] [b] pos) (Ag gLe fa fb):=Kk of_le Rg ha hb (DP _)
theorem Jbs(hu:X.A.units+1<cLine)(ha:FE X Z a fa)(hb:FE X Z b fb)(hm:behindInMarks .In b=false:=by rfl):FE X Z (.Compare a [.In] [b] pos) (Ag (DK false) fa fb) :=
 Kk (OpF.or (OC false) (OpF.or Mb (Vt false))) (OpR.orR (TN hu) (OpR.orR JV JW)) ha hb hm
theorem Jbj(hu:X.A.units+1<cLine)(ha:FE X Z a fa)(hb:FE X Z b fb)(hm:behindInMarks .In b=false:=by rfl):FT X Z (.Compare a [.In] [b] pos) (asB (Ag (DK false) fa fb)) :=
 Ek (OpF.or (OC false) (OpF.or Mb (Vt false))) (OpR.orR (TN hu) (OpR.orR JV JW)) ha hb hm
theorem Sk(hu:X.A.units+1<cLine)(ha:FE X Z a fa)(hb:FE X Z b fb)(hm:behindInMarks .NotIn b=false:=by rfl):FT X Z (.Compare a [.NotIn] [b] pos) (asB (Ag (DK true) fa fb)) :=
 Ek (OpF.or (OC true) (OpF.or Lc (Vt true))) (OpR.orR (Ow hu) (OpR.orR JT JU)) ha hb hm
noncomputable def itU(f:FS->Out Rv):FS->Out (List T):=λfs=>(f fs).bnd λr fs=>match r with|.t (.lst ts)=>.ok ts fs|.t (.zU ts)=>.ok ts fs|.t (.tup ts)=>.ok ts fs|.t (.str z)=>.ok (signs z) fs|_=>.bad
theorem Zn(hl:FE X Z l f):FI X Z tg l (itU f):=by
 refine JP (X8 hl) λU H Q ao => ?_
 obtain⟨F,B,fs,ok,s⟩:= ao;refine⟨F,B,fs,ok,AJ s λr aj F1 H1 u l av rx s1=>?_⟩;split at s1
 next ts=>obtain⟨a,vs,rfl,ff,hs,r⟩:=rx;exact .inl ⟨a,rfl,⟨vs,SqL.of hs⟩,s1 F1 H1 _ Le.refl ⟨av,Mh (λF' H' l=>SqL.of ((l a ff).2.trans hs)) r⟩⟩
 next ts=>obtain⟨a,vs,rfl,hs,r⟩:=rx;exact .inl ⟨a,rfl,⟨vs,hs.sq⟩,s1 F1 H1 _ Le.refl ⟨av,Mh (λF' H' l=>(StL.lf l hs).sq) r⟩⟩
 next ts=>obtain⟨a,vs,rfl,hs,r⟩:=rx;exact .inr (.inl ⟨a,rfl,⟨vs,hs.sq⟩,s1 F1 H1 _ Le.refl ⟨av,VX (λF' H' l=>SqT.of ((l a hs.2.1).2.trans hs.2.2)) r⟩⟩)
 next z=>exact .inr (.inr ⟨z,rx,s1 F1 H1 _ Le.refl ⟨av,VY⟩⟩)
 .exact s1.elim
noncomputable def Sa:Rv->Rv->Rv->FS->SO
 |.n i,.t (.int k),.t t,fs=>match AH fs i with
  |some (.lst ts)=>match ixN ts.length k with|some j=>.nx (putAt fs i (.lst (ts.set j t)))|none=>.bad
  |_=>.bad
 |_,_,_,_=>.bad
noncomputable def Sd:Rv->Rv->Rv->FS->SO
 |.n i,.t y,.t t,fs=>match AH fs i with
  |some (.l ks ts)=>match HD y with|some k=>if ks.length<big then .nx (putAt fs i (.l (E2 ks ts k t).1 (E2 ks ts k t).2))else .bad|none=>.bad
  |some (.dT ks ts)=>match y with
   |.tup ys=>match Hj ys with|some k=>if ks.length<big then .nx (putAt fs i (.dT (E2 ks ts k t).1 (E2 ks ts k t).2))else .bad|none=>.bad
   |_=>.bad
  |_=>.bad
 |_,_,_,_=>.bad
noncomputable def Wb:Rv->Rv->Rv->FS->SO:=λo i v fs=>match Sa o i v fs with|.bad=>Sd o i v fs|s=>s
noncomputable def Dg(fv fo fi:FS->Out Rv):FS->SO:=λfs=>SO.of ((fv fs).bnd λv fs=>(fo fs).bnd λo fs=>(fi fs).bnd λi fs=>.ok (v,o,i) fs) λ(v,o,i) fs=>Wb o i v fs
variable{D:Ends}
theorem R9{i}{o}(ok:Okk K F B H fs U)(ro:Eh K F H U o uo)(ri:Eh K F H U i ui)(rv:Eh K F H U v uv)(s:FK K Z B F H (Sa o i v fs) D):UR uo ui uv H (λH3=>D.nx U H3):=by
 unfold Sa at s;split at s
 .rename_i i k t;split at s
  .rename_i ts e;split at s
   next j ej=>obtain⟨a,us,rfl,hs,r,kk⟩:=ok.list ro e;obtain⟨bS,l⟩:=kk (ts.set j t) (us.set j uv) (Al.set rv j r);exact⟨a,us,k,j,rfl,ri,hs,by rw[r.len];exact ej,s F _ U l bS⟩
   .exact s.elim
  .exact s.elim
 .exact s.elim
theorem Sb{i}{o}(ok:Okk K F B H fs U)(ro:Eh K F H U o uo)(ri:Eh K F H U i ui)(rv:Eh K F H U v uv)(s:FK K Z B F H (Sd o i v fs) D):US uo ui uv H (λH3=>D.nx U H3):=by
 unfold Sd at s;split at s
 .rename_i i y t;split at s
  .rename_i ks ts e;split at s
   .rename_i k ek;split at s
    .rename_i hl;obtain⟨v,L2,e1,q,nf,_,kk⟩:=ok.own e;have e2:U[i]?=some (some uo):=ro;rw[e1]at e2;have e3:=by simpa using e2
     subst e3;obtain⟨a,ah,rfl,hs,rfl,q,rfl⟩:=q;have:=D7 ek ri;subst this;refine⟨a,_,rfl,NK.k hs (by rw[sU]at hl;exact uD hl Fw),?_⟩;obtain⟨h1,h2⟩:=FN rv q;have l:Le F H F (upd H a (.l (putK ah k uv))):=⟨λb f=>⟨f,Ap λz=>(nf a (by simp)).1 (z▸f)⟩,λb f=>⟨f,Ap λz=>(nf a (by simp)).2 (z▸f)⟩⟩
     obtain⟨bS,l'⟩:=kk (.l (E2 (ah.map (·.1)) ts k t).1 (E2 (ah.map (·.1)) ts k t).2) (upd H a (.l (putK ah k uv))) (λb hb _=>Ap (by simpa using hb)) (by exact⟨a,_,rfl,As,h1,h2.le l,rfl⟩);exact s F _ U l' bS
    .exact s.elim
   .exact s.elim
  .rename_i ks ts e;split at s
   .rename_i ys;split at s
    .rename_i k ek;split at s
     .rename_i hl;obtain⟨v,L2,e1,q,nf,_,kk⟩:=ok.own e;have e2:U[i]?=some (some uo):=ro;rw[e1]at e2;have e3:v=uo:=by simpa using e2
      subst e3;obtain⟨a,ah,rfl,hs,rfl,q,rfl⟩:=q;obtain⟨b,vs,rfl,hb,rb⟩:=ri;have:=ED ek rb;subst this;refine⟨a,_,rfl,NK.t hs hb.2.2 (by rw[sU]at hl;exact uD hl Fw),?_⟩;obtain⟨h1,h2⟩:=FN rv q;have l:Le F H F (upd H a (.dT (putK ah k uv))):=⟨λb f=>⟨f,Ap λz=>(nf a (by simp)).1 (z▸f)⟩,λb f=>⟨f,Ap λz=>(nf a (by simp)).2 (z▸f)⟩⟩
      obtain⟨bS,l'⟩:=kk (.dT (E2 (ah.map (·.1)) ts k t).1 (E2 (ah.map (·.1)) ts k t).2) (upd H a (.dT (putK ah k uv))) (λb hb _=>Ap (by simpa using hb)) (by exact⟨a,_,rfl,As,h1,h2.le l,rfl⟩);exact s F _ U l' bS
     .exact s.elim
    .exact s.elim
   .exact s.elim
  .exact s.elim
 .exact s.elim
theorem RX{fi}(hu:X.A.units+1<cLine)(he:FE X Z e fv)(ho:FE X Z o fo)(hi:FE X Z i fi)
  (h:∀{te to ti:TE}{t:Xj},PE X e te->PE X o to->PE X i ti->Tf X t->PS X (.Assign [.Subscript o i cg] e pos) (Xy te (JbZ to ti t))):GS X Z (.Assign [.Subscript o i cg] e pos) (Dg fv fo fi):=by
 refine Ct (h he ho hi (Tf.orR set_list (set_dict hu))) λD U H ao=>?_
 obtain⟨F,B,fs,ok,s⟩:= ao;exact⟨F,B,fs,ok,(by
  have s1:=Cq (R:=λF' H' ar (a:Rv×Rv×Rv) (b:V×V×V)=>Okk X.K F' B H' ar U/\Eh X.K F' H' U a.1 b.1/\Eh X.K F' H' U a.2.1 b.2.1/\Eh X.K F' H' U a.2.2 b.2.2) (Q:=λb H3=>Yo UR US b.2.1 b.2.2 b.1 H3 λH4=>D.nx U H4) s (λa ar F' H' b l q s2=>by
   obtain⟨q1,q2,q3,q4⟩:=q;dsimp only at s2 q2 q3 q4 ⊢;unfold Wb at s2;split at s2
   .exact .inr (Sb q1 q3 q4 q2 s2)
   .exact .inl (R9 q1 q3 q4 q2 s2))
  refine AJ s1 λv aj F1 H1 uv l1 av rv s2=>?_
  refine⟨F1,B,aj,av,AJ s2 λo aB F2 H2 uo l2 aR ro s3=>⟨F2,B,aB,aR,AJ s3 λi dY F3 H3 ui l3 fD ri s4=>?_⟩⟩;exact s4 F3 H3 (uv,uo,ui) Le.refl ⟨fD,(rv.le l2).le l3,ro.le l3,ri⟩)⟩
theorem RZ:GS X Z st (λ_=>.bad):=Ct Q4 λD U H ⟨F,B,fs,ok,s⟩=>s.elim
variable{i:Nat}{r:Rv}
theorem RR.put(h:RR K B U F H fs r u)(e:AH fs i=some ob):∃v L2 L',U[i]?=some (some v)/\A8 K F H ob v L2/\Qq K F H U r u L'/\(L2++L').Nodup/\(∀a∈L2++L',¬F a/\¬F.p a) /\
  ∀bR H' M,(∀a,a∉L2->H a≠none->H' a=H a)->A8 K F H' bR v M->M.Nodup->(∀b∈M,b∈L2\/b∈L')->Okk K F B H' (putAt fs i bR) U/\Le F H F H':=by
 obtain⟨L,L',h,qr,rp,nN⟩:=h;have key:∀s:Sl,fs[i]?=some (some s)->(s=.own ob\/s=.bor ob)->∃v L2 L',U[i]?=some (some v)/\A8 K F H ob v L2/\Qq K F H U r u L'/\(L2++L').Nodup/\(∀a∈L2++L',¬F a/\¬F.p a) /\
  ∀bR H' M,(∀a,a∉L2->H a≠none->H' a=H a)->A8 K F H' bR v M->M.Nodup->(∀b∈M,b∈L2\/b∈L')->Okk K F B H' (fs.set i (some (s.put bR))) U/\Le F H F H':=by
  intro s es ho;obtain⟨v,L1,L2,L3,e1,rfl,h1,h2⟩:=h.sl.pick es;obtain⟨u',rfl,q⟩:∃u,v=some u/\A8 K F H ob u L2:=by
   rcases ho with rfl|rfl
   .exact h1
   .exact h1
  have nd:=h.nd;have i8:∀a∈L1++L3,a∉L2:=λa ha hb=>by
   rw[sT]at nd;rcases tE.mp ha with ha|ha
   .exact nd.2.2 a ha a (tH _ hb) rfl
   .have:=(sT.mp nd.2.1).2.2;exact this a hb a ha rfl
  have i5:=sT.mp rp;refine⟨u',L2,L',e1,q,qr,?_,λa m=>?_,λbR H' M k q' hm iY=>?_⟩
  .rw[sT];refine⟨?_,i5.2.1,λa ha b hb=>i5.2.2 a (by simp[ha]) b hb⟩;rw[sT]at nd;exact(sT.mp nd.2.1).1
  .rcases tE.mp m with m|m
   .exact⟨h.nf a (by simp[m]),h.pl a (by simp[m])⟩
   .exact nN a m
  .have l:Le F H F H':=⟨λa f=>⟨f,k a (λm=>h.nf a (by simp[m]) f) (h.fd a f)⟩,λa f=>⟨f,k a (λm=>h.pl a (by simp[m]) f) (h.pd a f)⟩⟩
   have nK:∀a∈L1++(M++L3),¬F a/\¬F.p a:=λa m=>by
    rcases tE.mp m with m|m
    .exact⟨h.nf a (by simp[m]),h.pl a (by simp[m])⟩
    .rcases tE.mp m with m|m
     .rcases iY a m with z|z
      .exact⟨h.nf a (by simp[z]),h.pl a (by simp[z])⟩
      .exact nN a z
     .exact⟨h.nf a (by simp[m]),h.pl a (by simp[m])⟩
   refine⟨⟨L1++(M++L3),?_,CG nd hm (λa m m2=>?_),λa m=>(nK a m).1,λa f=>by rw[(l.f a f).2];exact h.fd a f,?_,λa f=>by rw[(l.p a f).2];exact h.pd a f,h.pf,λa m=>(nK a m).2⟩,l⟩
   .have hL:∀a∈L1++L3,H' a=H a:=λa m=>k a (i8 a m) (h.sl.def a (by
      rcases tE.mp m with m|m
      .simp[m]
      .simp[m]))
    have h3:=h2 F H' (some (s.put bR)) (some u') M l hL (by
     rcases ho with rfl|rfl
     .exact⟨u',rfl,q'⟩
     .exact⟨u',rfl,q'⟩)
    rwa[BL e1]at h3
   .rcases iY a m with z|z
    .exact i8 a m2 z
    .exact(λa ha hb=>i5.2.2 a (by
   rcases tE.mp ha with ha|ha
   .simp[ha]
   .simp[ha]) a hb rfl) a m2 z
   .have:=FF.put (s:=some (s.put bR)) h.bo (λo eo=>by
     rcases ho with rfl|rfl
     .cases eo
     .obtain⟨w,e3,e4⟩:=h.bo i ob es;rw[e1]at e3;have e5:u'=w:=by simpa using e3
      exact⟨u',rfl,by rwa[e5]⟩) h.sl.len
    rwa[BL e1]at this
 unfold AH at e;split at e
 next o es=>cases e;obtain⟨v,L2,L',a1,a2,a3,a4,a5,a6⟩:=key _ es (.inl rfl);refine⟨v,L2,L',a1,a2,a3,a4,a5,λbR H' M k q m1 m2=>?_⟩;have:=a6 bR H' M k q m1 m2;unfold putAt;rwa[es]
 next o es=>cases e;obtain⟨v,L2,L',a1,a2,a3,a4,a5,a6⟩:=key _ es (.inr rfl);refine⟨v,L2,L',a1,a2,a3,a4,a5,λbR H' M k q m1 m2=>?_⟩;have:=a6 bR H' M k q m1 m2;unfold putAt;rwa[es]
 .cases e
noncomputable def JbG:Rv->Option FO
 |.t t=>some (.val t)
 |.nw o=>some o
 |.n _=>none
noncomputable def C7:List Str->List FO->Str->FO->Option (List Str×List FO)
 | [],[],f,o=>some ([f],[o])
 |g::gs,x::os,f,o=>if g=f then(match x with|.val _=>some (g::gs,o::os)|_=>none)else(C7 gs os f o).map λp=>(g::p.1,x::p.2)
 |_,_,_,_=>none
theorem Gh{f}{o}{y}(ro:A8 K F H o y L'):∀{ah:List (Str×V)}{os cm:List FO}{dm:List Str}{L:List Addr},AK K F H os (ah.map (·.2)) L->C7 (ah.map (·.1)) os f o=some (dm,cm) ->
  ∃M,(E3 f y ah).map (·.1)=dm/\AK K F H cm ((E3 f y ah).map (·.2)) M/\(∀a∈M,a∈L\/a∈L')/\((L++L').Nodup->M.Nodup)
 | [],os,cm,dm,L,r,e=>by cases os with|cons x os=>simp[C7]at e|nil =>obtain⟨rfl,rfl⟩:=e;refine⟨L',rfl,?_,λa m=>.inr m,λnd=>(sT.mp nd).2.1⟩;exact⟨y,[],L',[],rfl,ro,⟨rfl,rfl⟩,by simp⟩
 |(g,x)::ah,os,cm,dm,L,r,e=>by
  cases os with
  |nil=>simp[C7]at e
  |cons o1 os =>
   obtain⟨v,w,L1,L2,ee,r1,r2,rfl⟩:=r;cases ee;simp only[sW,C7]at e;by_cases hg:g=f
   .rw[if_pos hg]at e;cases o1 with
    |val t =>
     obtain⟨rfl,rfl⟩:=e;obtain⟨rfl,_⟩:=r1;refine⟨L'++L2,?_,?_,λa m=>?_,λnd=>?_⟩
     .simp only[E3];rw[if_pos hg];rfl
     .simp only[E3];rw[if_pos hg];exact⟨y,_,L',L2,rfl,ro,r2,rfl⟩
     .rcases tE.mp m with m|m
      .exact .inr m
      .exact .inl (by simpa using m)
     .rw[ue]at nd;exact(List.perm_append_comm).nodup_iff.mp nd
    |lst _=>cases e
    |l _ _=>cases e
    |dT _ _=>cases e
    |ins _ _ _=>cases e
    |yW _=>cases e
    |yU _=>cases e
    |dO _ _=>cases e
    |la _ _=>cases e
   .rw[if_neg hg,tq]at e;obtain⟨p,ep,e⟩:=e;obtain⟨rfl,rfl⟩:=e;obtain⟨M,m1,m2,m3,m4⟩:=Gh ro r2 (by rw[ep]);refine⟨L1++M,?_,?_,λa m=>?_,λnd=>?_⟩
    .simp only[E3];rw[if_neg hg,sW,m1]
    .simp only[E3];rw[if_neg hg];exact⟨x,_,L1,M,rfl,r1,m2,rfl⟩
    .rcases tE.mp m with m|m
     .exact .inl (tH _ m)
     .rcases m3 a m with z|z
      .exact .inl (tB _ z)
      .exact .inr z
    .rw[t9,sT]at nd;rw[sT];refine⟨nd.1,m4 nd.2.1,λa ha b hb e=>?_⟩;rcases m3 b hb with z|z
     .exact nd.2.2 a ha b (tH _ z) e
     .exact nd.2.2 a ha b (tB _ z) e
noncomputable def HY(C:Addr)(f:Str)(i:Nat)(fv:FS->Out Rv):FS->SO:=λfs=>SO.of (fv fs) λr fs=>match JbG r,AH fs i with|some o,some (.ins C' gs os)=>if C'=C/\gs.length<900 then(match C7 gs os f o with|some p=>.nx (putAt fs i (.ins C p.1 p.2))|none=>.bad)else .bad|_,_=>.bad
theorem Y6{f}(c:Cls X.K C)(n:A2 X.K C f)(i:Nat)(he:FE X Z e fv)
  (h:∀{tv:TE},PE X e tv->PS X (.Assign [.Attribute (.Name x p1) f p2] e pos) (JbP X.K (Jz i) tv f)):GS X Z (.Assign [.Attribute (.Name x p1) f p2] e pos) (HY C f i fv):=by
 refine Ct (h he) λD U H ao => ?_
 obtain⟨F,B,fs,ok,s⟩:= ao;refine⟨F,B,fs,ok,Cq s λr aj F1 H1 u l q s1=>?_⟩;split at s1
 .rename_i o C' gs os e1 e2;split at s1
  .rename_i hC;obtain⟨rfl,hl⟩:=hC;split at s1
   .rename_i p ep;obtain⟨v,L2,L',a1,a2,a3,a4,a5,a6⟩:=RR.put q e2;obtain⟨a,dx,ah,L3,rfl,hd,rfl,ro,rfl⟩:=a2;have mi:A8 X.K F1 H1 o u L':=by cases r with|t t =>cases e1;exact a3|nw o'=>cases e1;exact a3|n j=>cases e1
    obtain⟨M,m1,m2,m3,m4⟩:=Gh mi ro (by rw[ep]);have jZ:a∉M:=λz=>((tN.mp a4).1) (by
     rcases m3 a z with z|z
     .exact tH _ z
     .exact tB _ z)
    have l1:Le F1 H1 F1 (upd H1 a (.ins C' dx (E3 f u ah))):=⟨λb f=>⟨f,Ap λz=>(a5 a (by simp)).1 (z▸f)⟩,λb f=>⟨f,Ap λz=>(a5 a (by simp)).2 (z▸f)⟩⟩
    obtain⟨bS,l'⟩:=a6 (.ins C' p.1 p.2) (upd H1 a (.ins C' dx (E3 f u ah))) (a::M) (λb hb _=>Ap λz=>hb (by rw[z];simp)) (by
     exact⟨a,dx,_,M,rfl,As,m1,AK.le l1 (λb hb=>Ap λz=>jZ (z▸hb)) m2,rfl⟩) (tN.mpr ⟨jZ,m4 ((tN.mp a4).2)⟩) (λb hb=>by
     rcases tm.mp hb with z|z
     .exact .inl (by rw[z];simp)
     .rcases m3 b z with z|z
      .exact .inl (sZ _ z)
      .exact .inr z)
    exact⟨_,a1,a,C',dx,ah,rfl,hd,c,n,by rw[sU]at hl;lia,s1 F1 _ U l' bS⟩
   .exact s1.elim
  .exact s1.elim
 .exact s1.elim
noncomputable def Bw:List Str->List FO->Str->FO->List FO
 |g::gs,x::os,f,o=>if f==g then o::os else x::Bw gs os f o
 |_,os,_,_=>os
theorem JE{f}:∀{ah:List (Str×V)}{os:List FO}{L:List Addr},AK K F H os (ah.map (·.2)) L->L.Nodup->A9 (ah.map (·.1)) os f=some (.l ks ts) ->
  ∃b aG,ah.lookup f=some (.ref b)/\b∈L/\H b=some (.l aG)/\aG.map (·.1)=ks/\Al K F H ts (aG.map (·.2)) /\
   ∀H' o',(∀a∈L,a≠b->H' a=H a)->Le F H F H'->A8 K F H' o' (.ref b) [b]->AK K F H' (Bw (ah.map (·.1)) os f o') (ah.map (·.2)) L
 | [],os,L,r,nd,e=>by cases os<;>simp[A9]at e
 |(g,x)::ah,os,L,r,nd,e=>by cases os with|nil=>simp[A9]at e|cons o1 os =>obtain⟨v,w,L1,L2,ee,r1,r2,rfl⟩:=r;cases ee;simp only[sW,A9]at e;rw[ud];have i3:=sT.mp nd;cases hb:f==g with|true =>rw[hb]at e;cases e;obtain⟨b,aG,rfl,hd,rfl,rt,rfl⟩:=r1;refine⟨b,aG,rfl,by simp,hd,rfl,rt,λH' o' k l ro=>?_⟩;simp only[sW,Bw,hb,AK];refine⟨.ref b,_,[b],L2,rfl,ro,AK.le l (λa m=>k a (by simp[m]) λz=>i3.2.2 b (by simp) a m z.symm) r2,rfl⟩|false =>rw[hb]at e;obtain⟨b,aG,h1,h2,h3,h4,h5,h6⟩:=JE r2 i3.2.1 (by simpa using e);refine⟨b,aG,h1,tB _ h2,h3,h4,h5,λH' o' k l ro=>?_⟩;have:=h6 H' o' (λa m=>k a (tB _ m)) l ro;simp only[sW,Bw,hb];exact⟨x,_,L1,L2,rfl,r1.le l λa m=>k a (tH _ m) λz=>i3.2.2 a m b h2 z,this,rfl⟩
noncomputable def CO(C:Addr)(f:Str)(i j:Nat)(fv:FS->Out Rv):FS->SO:=λfs=>SO.of (fv fs) λr fs=>match r,AH fs i,fs[j]? with|.t t,some (.ins C' gs os),some (some (.val y))=>if C'=C then(match A9 gs os f,HD y with|some (.l ks ts),some k=>if ks.length<big then .nx (putAt fs i (.ins C gs (Bw gs os f (.l (E2 ks ts k t).1 (E2 ks ts k t).2))))else .bad|_,_=>.bad)else .bad|_,_,_=>.bad
theorem R4{f}{y}(c:Cls X.K C)(n:A2 X.K C f)(i j:Nat)(he:FE X Z e fv)
  (h:∀{tv:TE},PE X e tv->PS X (.Assign [.Subscript (.Attribute (.Name x p1) f p2) (.Name y p3) p4] e pos) (XI (JbN X.K (Jz i) f) (Jz j) tv)) :
  GS X Z (.Assign [.Subscript (.Attribute (.Name x p1) f p2) (.Name y p3) p4] e pos) (CO C f i j fv):=by
 refine Ct (h he) λD U H ao => ?_
 obtain⟨F,B,fs,ok,s⟩:= ao;refine⟨F,B,fs,ok,Cq s λr aj F1 H1 u l q s1=>?_⟩;split at s1
 .rename_i t C' gs os y' e2 e3;split at s1
  .rename_i hC;subst hC;split at s1
   .rename_i ks ts k e4 e5;split at s1
    .rename_i hl;have av:=q.ok;obtain⟨v,L2,a1,a2,a3,a4,a5⟩:=av.own e2;obtain⟨a,dx,ah,L3,rfl,hd,rfl,ro,rfl⟩:=a2;have nJ:=tN.mp a4;obtain⟨b,aG,b1,b2,b3,rfl,b5,b6⟩:=JE ro nJ.2 e4;obtain⟨L9,o9⟩:=id av;obtain⟨w,M1,M2,M3,e6,_,h1,_⟩:=o9.sl.pick e3;obtain⟨uy,rfl,ry,_⟩:=h1;have:=D7 e5 ry;subst this;have ie:a≠b:=λz=>nJ.1 (z▸b2)
     obtain⟨h1,h2⟩:=FN (by obtain⟨_,_,_,⟨_,q⟩,_⟩:=q;exact q) b5;have nb:=a3 b (sZ _ b2);have l1:Le F1 H1 F1 (upd H1 b (.l (putK aG k u))):=⟨λz f=>⟨f,Ap λq=>nb.1 (q▸f)⟩,λz f=>⟨f,Ap λq=>nb.2 (q▸f)⟩⟩
     obtain⟨bS,l'⟩:=a5 (.ins C' (ah.map (·.1)) (Bw (ah.map (·.1)) os f (.l (E2 (aG.map (·.1)) ts k t).1 (E2 (aG.map (·.1)) ts k t).2))) (upd H1 b (.l (putK aG k u))) (λz hz _=>Ap λq=>hz (by rw[q];exact sZ _ b2)) (by refine⟨a,dx,ah,L3,rfl,by rw[Ap ie];exact hd,rfl,b6 _ _ (λz _ hz=>Ap hz) l1 ?_,rfl⟩;exact⟨b,_,rfl,As,h1,h2.le l1,rfl⟩);exact⟨_,a1,a,C',dx,ah,.ref b,rfl,hd,c,n,b1,kV k,e6,b,_,rfl,NK.k b3 (by rw[sU]at hl;exact uD hl Fw),s1 F1 _ U l' bS⟩
    .exact s1.elim
   .exact s1.elim
  .exact s1.elim
 .exact s1.elim
variable{fa:FS->Out (List Rv)}{p:Pos}
theorem ZC(hm:X.mg "len"=none)(ha:FA X Z (e::es) fa)(hg:Gl X "len":=by rfl)(he:starEach (e::es) X.env=(false,eval e X.env)::starEach es X.env:=by rfl)(aD:(backTo pos (starEach es X.env)).any (·.1)=false:=by rfl):
  FE X Z (.Call (.Name "len" p) (e::es) [] pos) (Ai Bx fa):=EM (Dp.or ZX (Dp.or WQ WR)) (CU.orR KC (CU.orR KA NB)) hm PySem.boot_len ha hg (by decide) (by decide) he aD
theorem Wu(hm:X.mg "min"=none)(ha:FA X Z (e::es) fa)(hc:X.calm=true:=by rfl)(hg:Gl X "min":=by rfl)(he:starEach (e::es) X.env=(false,eval e X.env)::starEach es X.env:=by rfl)(aD:(backTo pos (starEach es X.env)).any (·.1)=false:=by rfl):
  FE X Z (.Call (.Name "min" p) (e::es) [] pos) (Ai IW fa):=EM WN (P8 hc) hm boot_min ha hg (by decide) (by decide) he aD
theorem Zq(hm:X.mg "sum"=none)(ha:FA X Z (e::es) fa)(hc:X.calm=true:=by rfl)(hg:Gl X "sum":=by rfl)(he:starEach (e::es) X.env=(false,eval e X.env)::starEach es X.env:=by rfl)(aD:(backTo pos (starEach es X.env)).any (·.1)=false:=by rfl):
  FE X Z (.Call (.Name "sum" p) (e::es) [] pos) (Ai T3 fa):=EM ZW (SV hc) hm boot_sum ha hg (by decide) (by decide) he aD
theorem ZL(hm:X.mg "all"=none)(ha:FA X Z (e::es) fa)(hc:X.calm=true:=by rfl)(hg:Gl X "all":=by rfl)(he:starEach (e::es) X.env=(false,eval e X.env)::starEach es X.env:=by rfl)(aD:(backTo pos (starEach es X.env)).any (·.1)=false:=by rfl):
  FE X Z (.Call (.Name "all" p) (e::es) [] pos) (Ai Ze fa):=EM ZZ (SY hc) hm boot_all ha hg (by decide) (by decide) he aD
theorem Wx(hm:X.mg "list"=none)(ha:FA X Z (e::es) fa)(hc:X.calm=true:=by rfl)(hg:Gl X "list":=by rfl)(he:starEach (e::es) X.env=(false,eval e X.env)::starEach es X.env:=by rfl)(aD:(backTo pos (starEach es X.env)).any (·.1)=false:=by rfl):
  FE X Z (.Call (.Name "list" p) (e::es) [] pos) (Ai Cu fa):=GL (Dp.or WO SU) (CU.orR Kz (GY hc)) hm boot_list ha hg (by decide) (by decide) he aD
theorem Sr(hm:X.mg "tuple"=none)(ha:FA X Z (e::es) fa)(hg:Gl X "tuple":=by rfl)(he:starEach (e::es) X.env=(false,eval e X.env)::starEach es X.env:=by rfl)(aD:(backTo pos (starEach es X.env)).any (·.1)=false:=by rfl):
  FE X Z (.Call (.Name "tuple" p) (e::es) [] pos) (Ai BP fa):=GL SS Jg hm boot_tuple ha hg (by decide) (by decide) he aD
theorem Wy(hm:X.mg "int"=none)(ha:FA X Z (e::es) fa)(hg:Gl X "int":=by rfl)(he:starEach (e::es) X.env=(false,eval e X.env)::starEach es X.env:=by rfl)(aD:(backTo pos (starEach es X.env)).any (·.1)=false:=by rfl):
  FE X Z (.Call (.Name "int" p) (e::es) [] pos) (Ai Nh fa):=GL WS Qa hm boot_int ha hg (by decide) (by decide) he aD
noncomputable def Jaf(f:FS->Out Rv):FS->Out Rv:=λfs=>(f fs).bnd λr fs=>match Cs fs r with|some ts=>.ok (.nw (.lst ts.reverse)) fs|none=>.bad
theorem Nq(hc:X.calm=true)(iP:X.mg "list"=none)(fq:X.mg "reversed"=none)(ha:FE X Z a f)(iO:Gl X "list":=by rfl)(eE:Gl X "reversed":=by rfl)
  (he:starEach [(.Call (.Name "reversed" p2) [a] [] bf:Expr)] X.env=[(false,eval (.Call (.Name "reversed" p2) [a] [] bf) X.env)]:=by rfl) (gR:starEach [a] X.env=[(false,eval a X.env)]:=by rfl) :
  FE X Z (.Call (.Name "list" p1) [.Call (.Name "reversed" p2) [a] [] bf] [] fE) (Jaf f):=by
 refine AY (MZ hc iP fq ha iO eE he gR) λU H Q ao => ?_
 obtain⟨F,B,fs,ok,s⟩:= ao;refine⟨F,B,fs,ok,AJ s λr aj F1 H1 u l av rx s1=>?_⟩;split at s1
 next ts kW=>obtain⟨a,vs,rfl,hs,q⟩:=Bg av rx kW;exact⟨a,vs,rfl,hs,λd hd=>s1 F1 _ (.ref d) (AZ av hd) (RR.alloc av hd (CW As ((q.rev).le (AZ av hd))))⟩
 .exact s1.elim
noncomputable def JbV(f:FS->Out Rv):FS->Out Rv:=λfs=>(f fs).bnd λr fs=>match r with|.t (.int i)=>okT (.int (-i)) fs|_=>.bad
theorem Zu(ha:FE X Z a f):FE X Z (.UnaryOp .USub a pos) (JbV f):=by
 refine AY (JaR Xm ha) λU H Q ao => ?_
 obtain⟨F,B,fs,ok,s⟩:= ao;refine⟨F,B,fs,ok,AJ s λr aj F1 H1 u l av rx s1=>?_⟩;split at s1
 .exact⟨_,rx,s1 F1 H1 _ Le.refl (RR.of av rfl)⟩
 .exact s1.elim
def RP(K:Fg)(B:Nat->Option V)(U:St):Wd->Hp->FS->Option Int->Option Int->Prop:=λF H fs a b=>Okk K F B H fs U/\b=a
def tP(K:Fg)(Z:Xp)(f:FS->Out (Option Int)):TO:=λU H Q=>∃F B fs,Okk K F B H fs U/\sat Z B (RP K B U) F H (f fs) Q
def FP(X:Cx)(Z:Xp)(e:Option Expr)(f:FS->Out (Option Int)):Prop:=PO X e (tP X.K Z f)
theorem TB{e}(h:PO X e t)(i:∀U H Q,t' U H Q->t U H Q):PO X e t':=λae s U H Q I q=>h ae s U H Q I (i _ _ _ q)
noncomputable def noP:FS->Out (Option Int):=λfs=>.ok none fs
noncomputable def C5(f:FS->Out Rv):FS->Out (Option Int):=λfs=>(f fs).bnd λr fs=>match r with|.t (.int i)=>.ok (some i) fs|_=>.bad
noncomputable def Um(ts:List T)(lo hi:Option Int):List T:=(ts.drop (HT.sIx ts.length 0 lo)).take (HT.sIx ts.length ts.length hi-HT.sIx ts.length 0 lo)
theorem My(r:Al K F H ts vs):Al K F H (Um ts lo hi) (WL vs lo hi):=by unfold Um WL;rw[r.len];exact(r.drop _).take _
noncomputable def Xe:Rv->Option Int->Option Int->FS->Out Rv:=λx lo hi fs=>match Cs fs x with|some ts=>okT (.lst (Um ts lo hi)) fs|none=>match x with|.t (.tup ts)=>okT (.tup (Um ts lo hi)) fs|_=>.bad
noncomputable def slF(f:FS->Out Rv)(l h:FS->Out (Option Int)):FS->Out Rv:=λfs=>(f fs).bnd λx fs=>(l fs).bind λlo fs=>(h fs).bind λhi fs=>Xe x lo hi fs
variable{lo hi:Option Expr}{l h:FS->Out (Option Int)}{p2:Pos}
theorem Wm:FP X Z none noP:=TB U3 λU H Q ⟨F,B,fs,ok,s⟩=>s F H none Le.refl ⟨ok,rfl⟩
theorem Wl(he:FE X Z e f):FP X Z (some e) (C5 f):=by
 refine TB (U2 he) λU H Q ao => ?_
 obtain⟨F,B,fs,ok,s⟩:= ao;refine⟨F,B,fs,ok,AJ s λr aj F1 H1 u l av rx s1=>?_⟩;split at s1
 .exact⟨_,rx,s1 F1 H1 _ Le.refl ⟨av,rfl⟩⟩
 .exact s1.elim
theorem Jbo(he:FE X Z e f)(hl:FP X Z lo l)(hu:FP X Z hi h):FE X Z (.Subscript e (.Slice lo hi none p2) pos) (slF f l h):=by
 refine AY (Rc (SlR.or UK (SlR.or XC XD)) he hl hu) λU H Q ao => ?_
 obtain⟨F,B,fs,ok,s⟩:= ao;refine⟨F,B,fs,ok,AJ s λx aj F1 H1 u l1 av rx s1=>⟨F1,B,aj,av,AG s1 λlo aB F2 H2 nD l2 q2 s2=>?_⟩⟩;obtain⟨aR,rfl⟩:=q2;refine⟨F2,B,aB,aR,AG s2 λhi dY F3 H3 gC l3 q3 s3=>?_⟩;obtain⟨fD,rfl⟩:=q3;have nS:=(rx.le l2).le l3;unfold Xe at s3;split at s3
 next ts e=>obtain⟨a,vs,rfl,hs,r⟩:=Bg fD nS e;exact .inl ⟨a,vs,rfl,hs,λp hp=>s3 _ _ (.ref p) (A3 fD hp) (MV fD hp (My r))⟩
 .split at s3
  .rename_i ts _;obtain⟨a,vs,rfl,hs,r⟩:=BG nS rfl;by_cases hw:HT.sIx ts.length 0 nD=0/\HT.sIx ts.length ts.length gC=ts.length
   .refine .inr (.inr ⟨a,vs,rfl,hs,by rw[r.len];exact hw,s3 F3 H3 _ Le.refl (RR.of fD ?_)⟩);have e:Um ts nD gC=ts:=by unfold Um;rw[hw.1,hw.2];simp
    rwa[e]
   .exact .inr (.inl ⟨a,vs,rfl,hs,by rw[r.len];exact hw,λp hp=>s3 _ _ (.ref p) (A3 fD hp) (E1 fD hp (My r))⟩)
  .exact s3.elim
noncomputable def QQ:T->Option (List T)
 |.lst ts=>some ts
 |.zU ts=>some ts
 |.tup ts=>some ts
 |_=>none
noncomputable def pairs:List T->List T->List T
 |x::xs,y::ys=>.tup [x,y]::pairs xs ys
 |_,_=>[]
theorem pairs_at:∀{xs ys:List T}{i:Nat}{t:T},(pairs xs ys)[i]?=some t->∃x y,xs[i]?=some x/\ys[i]?=some y/\t=.tup [x,y]
 | [],_,i,t,h=>by simp[pairs]at h
 |_::_,[],i,t,h=>by simp[pairs]at h
 |x::xs,y::ys,0,t,h=>by simp only[pairs,List.getElem?_cons_zero,Option.some.injEq]at h;exact⟨x,y,rfl,rfl,h.symm⟩
 |x::xs,y::ys,i+1,t,h=>by simp only[pairs]at h;simpa using pairs_at h
theorem pairs_len:∀{xs ys:List T}{i:Nat},(pairs xs ys).length<=i->xs.length<=i\/ys.length<=i
 | [],_,i,h=>.inl (by simp)
 |_::_,[],i,h=>.inr (by simp)
 |x::xs,y::ys,0,h=>by simp[pairs]at h
 |x::xs,y::ys,i+1,h=>by simp only[pairs,tM,Nat.add_le_add_iff_right]at h;simpa using pairs_len h
theorem Iw(r:Bf K F H t u)(e:QQ t=some ts):∃b a vs,u=.ref a/\Al K F H ts vs/\∀(F':Wd)(H':Hp),(∀a,F a->F' a/\H' a=H a)->SqB b K H' a vs:=by
 unfold QQ at e;split at e
 .cases e;obtain⟨a,vs,rfl,f,hs,r⟩:=r;exact⟨false,a,vs,rfl,r,λF' H' l=>SqL.of ((l a f).2.trans hs)⟩
 .cases e;obtain⟨a,vs,rfl,hs,r⟩:=r;exact⟨false,a,vs,rfl,r,λF' H' l=>(StL.lf l hs).sq⟩
 .cases e;obtain⟨a,vs,rfl,hs,r⟩:=r;exact⟨true,a,vs,rfl,r,λF' H' l=>SqT.of ((l a hs.2.1).2.trans hs.2.2)⟩
 .cases e
noncomputable def itZ(f g:FS->Out Rv):FS->Out (List T):=λfs=>(f fs).bnd λr fs=>(g fs).bnd λr' fs=>match r,r' with
 |.t x,.t y=>match QQ x,QQ y with|some xs,some ys=>.ok (pairs xs ys) fs|_,_=>.bad
 |_,_=>.bad
theorem VW(h1:∀(F':Wd)(H':Hp),(∀a,F a->F' a/\H' a=H a)->SqB b1 K H' a1 vs)(h2:∀(F':Wd)(H':Hp),(∀a,F a->F' a/\H' a=H a)->SqB b2 K H' a2 ws)
  (r1:Al K F H xs vs) (r2:Al K F H ys ws):JOk K F H (Itz K b1 a1 b2 a2) (pairs xs ys):=by
 intro F' H' l ⟨B,fs,U,ok⟩ i;refine⟨λt et=>?_,λhl=>⟨vs,ws,h1 F' H' l,h2 F' H' l,by rw[r1.len,r2.len];exact pairs_len hl⟩⟩;obtain⟨x,y,ex,ey,rfl⟩:=pairs_at et;obtain⟨v,ev,rv⟩:=(Al.lf l r1).at ex;obtain⟨w,ew,dI⟩:=(Al.lf l r2).at ey;refine⟨⟨vs,ws,v,w,h1 F' H' l,h2 F' H' l,ev,ew⟩,λz gx hy=>?_⟩;obtain⟨T,vx,vy,hn,rfl,rfl,g1,g2⟩:=hy;have e1:=g1 vs (h1 F' H' l);have e2:=g2 ws (h2 F' H' l);rw[ev]at e1;rw[ew]at e2;cases e1;cases e2;refine⟨Qo F' T,⟨A3 ok hn,λB fs U k=>k.alloc hn⟩,?_⟩;exact⟨T,[v,w],rfl,⟨rfl,.inr rfl,As⟩,by exact⟨v,[w],rfl,rv.le (A3 ok hn),w,[],rfl,dI.le (A3 ok hn),rfl⟩⟩
theorem Zm{fa}(hm:X.mg "zip"=none)(ha:FE X Z a fa)(hb:FE X Z b fb)(hg:Gl X "zip":=by rfl)
  (hs:starEach [a,b] X.env=[(false,eval a X.env),(false,eval b X.env)]:=by rfl) (bx:starEach [b] X.env=[(false,eval b X.env)]:=by rfl):FI X Z (.Tuple fj k0 cg) (.Call (.Name "zip" p) [a,b] [] pos) (itZ fa fb):=by
 refine JP (X7 hg hm (Ds ha (Ds hb HL bx) (by rw[hs,bx])) hs bx) λU H Q ao=>?_
 obtain⟨F,B,fs,ok,s⟩:= ao;refine⟨F,B,fs,ok,AJ s λr aj F1 H1 u l1 av rx s1=>⟨F1,B,aj,av,AJ s1 λr' aB F2 H2 u' l2 aR ry s2=>?_⟩⟩;split at s2
 .rename_i x y;split at s2
  next xs ys e1 e2=>obtain⟨b1,a1,vs,rfl,q1,h1⟩:=Iw (Bf.le l2 rx) e1;obtain⟨b2,a2,ws,rfl,q2,h2⟩:=Iw ry e2;exact⟨b1,a1,b2,a2,rfl,⟨vs,h1 F2 H2 λ_ f=>⟨f,rfl⟩⟩,⟨ws,h2 F2 H2 λ_ f=>⟨f,rfl⟩⟩,s2 F2 H2 _ Le.refl ⟨aR,VW h1 h2 q1 q2⟩⟩
  .exact s2.elim
 .exact s2.elim
noncomputable def orM(g g':Rv->List Rv->FS->Out Rv):Rv->List Rv->FS->Out Rv:=λx rs fs=>match g x rs fs with|.bad=>g' x rs fs|o=>o
theorem MtF.or{g}{r'}{r}{g'}(h:MtF K Z r g)(h':MtF K Z r' g'):MtF K Z (Jah r r') (orM g g'):=by intro F B H U fs x rs u vs Q ok rx q s;unfold orM at s;cases e:g x rs fs with|ok a t=>rw[e]at s;exact .inl (h F B H U fs x rs u vs Q ok rx q (by rw[e];exact s))|exc c t=>rw[e]at s;exact .inl (h F B H U fs x rs u vs Q ok rx q (by rw[e];exact s))|bad=>rw[e]at s;exact .inr (h' F B H U fs x rs u vs Q ok rx q s)
noncomputable def Nj:Rv->List Rv->FS->Out Rv
 |.n i,[.t (.tup us)],fs=>match AH fs i with|some (.lst ts)=>if ts.length+us.length<=big then .ok (.t .v) (putAt fs i (.lst (ts++us)))else .bad|_=>.bad
 |_,_,_=>.bad
theorem VN:MtF K Z (QY K) Nj:=by
 intro F B H U fs x rs u vs Q ok rx q s;unfold Nj at s;split at s
 .rename_i i ws;obtain⟨v,rfl,qq⟩:=Bh q;have q:=qq;split at s
  .rename_i ts e;split at s
   next hl=>obtain⟨a,us,rfl,hs,r,k⟩:=ok.list rx e;obtain⟨b,zs,rfl,hb,rz⟩:=q;obtain⟨bS,l⟩:=k _ _ (r.app rz);exact⟨a,b,us,zs,rfl,rfl,hs,hb.sq,by rw[r.len,rz.len];exact tY hl D1,s F _ _ l (RR.of bS rfl)⟩
   .exact s.elim
  .exact s.elim
 .exact s.elim
noncomputable def Ni:=orM Jam Nj
theorem VM:MtF K Z (Jah Iz (QY K)) Ni:=MtF.or YH VN
theorem VH:MtR X "list.extend" (Jah Iz (QY X.K)):=MtR.orR OJ VI
variable{f:Expr}{fk fd:FS->Out Rv}
noncomputable def Ge:T->Option (List T)
 |.tup ts=>some ts
 |_=>none
theorem QG(e:Ge t=some ts):t=.tup ts:=by cases t<;>first|(cases e;rfl)|cases e
noncomputable def Js(f:T->T->Option Bool):List T->List T->Option Bool
 |x::xs,y::ys=>(f x y).bind λb=>(Js f xs ys).map (b&&·)
 |_,_=>some true
noncomputable def eqT:Nat->T->T->Option Bool
 |0,x,y=>(plV x).bind λu=>(plV y).map (eqV u)
 |n+1,x,y=>match Ge x with
  |some xs=>match Ge y with|some ys=>(Js (eqT n) xs ys).map (·&&xs.length==ys.length)|none=>(plV y).map λ_=>false
  |none=>match Ge y with
   |some _=>(plV x).map λ_=>false
   |none=>(plV x).bind λu=>(plV y).map (eqV u)
noncomputable def eAt(f:T->T->Option Bool)(xs ys:List T)(j:Nat):Bool:=(f (xs.getD j .v) (ys.getD j .v)).getD false
theorem Dx{f}:∀{xs ys:List T}{b:Bool},Js f xs ys=some b->b=(List.range (min xs.length ys.length)).all (eAt f xs ys)
 | [],_,_,e=>by cases e;simp
 |_::_,[],_,e=>by cases e;simp
 |x::xs,y::ys,b,e=>by
  simp only[Js,tV,tq]at e;obtain⟨c,e1,d,e2,rfl⟩:=e;rw[tM,tM,Nat.succ_min_succ,List.range_succ_eq_map,List.all_cons,List.all_map,(Dx e2)];have h0:eAt f (x::xs) (y::ys) 0=c:=by simp[eAt,e1]
  rw[h0];congr 1
theorem LB{f}:∀{xs ys:List T}{b:Bool},Js f xs ys=some b->∀(j:Nat)(x y:T),xs[j]?=some x->ys[j]?=some y->f x y=some (eAt f xs ys j)
 | [],_,_,e=>by intro j x y h;simp at h
 |_::_,[],_,e=>by intro j x y _ h;simp at h
 |x::xs,y::ys,b,e=>by simp only[Js,tV,tq]at e;obtain⟨c,e1,d,e2,rfl⟩:=e;intro j x' y' h1 h2;cases j with|zero =>simp only[List.getElem?_cons_zero,Option.some.injEq]at h1 h2;subst h1 h2;simp[eAt,e1]|succ j =>have:=LB e2 _ _ _ h1 h2;rw[this];simp[eAt]
theorem SE(h:Fe v=true):eqV v v=true:=by cases v<;>first|rfl|(simp[eqV];done)|(simp[Fe]at h)
theorem TC{x}{b}(rx:Bf K F H x v)(ry:Bf K F H y v)(e:((plV x).bind λu=>(plV y).map (eqV u))=some b):b=true:=by simp only[tV,tq]at e;obtain⟨u,e1,w,e2,rfl⟩:=e;have h1:=BY e1 rx;have h2:=BY e2 ry;subst h1 h2;exact SE (CY e1)
theorem JN{a}{x}(e:plV x=some u)(r:Bf K F H x v):v≠.ref a:=by have h1:=BY e r;subst h1;have:=CY e;intro h;subst h;cases this
theorem Df(e:Ge t=some ts)(r:Bf K F H t v):∃a vs,v=.ref a/\StT K F H a vs/\Al K F H ts vs:=by cases QG e;simpa only[Bf]using r
theorem Mt:∀{n:Nat}{x y:T}{v:V}{b:Bool},eqT n x y=some b->Bf K F H x v->Bf K F H y v->b=true
 |0,x,y,v,b,e,rx,ry=>TC rx ry e
 |n+1,x,y,v,b,e,rx,ry=>by
  unfold eqT at e;cases e1:Ge x with
  |none =>rw[e1]at e;cases e2:Ge y with|none=>rw[e2]at e;exact TC rx ry e|some ys =>rw[e2]at e;obtain⟨a,vs,rfl,_⟩:=Df e2 ry;obtain⟨u,e3,_⟩:=tq.mp e;exact absurd rfl (JN e3 rx)
  |some xs =>
   rw[e1]at e;obtain⟨a,vs,rfl,sx,ke⟩:=Df e1 rx;cases e2:Ge y with
   |none =>rw[e2]at e;obtain⟨u,e3,_⟩:=tq.mp e;exact absurd rfl (JN e3 ry)
   |some ys =>
    rw[e2]at e;obtain⟨a',eQ,ea,sy,kf⟩:=Df e2 ry;cases ea;have hv:vs=eQ:=by have:=sx.2.2.symm.trans sy.2.2;injection this with this;injection this
    subst hv;obtain⟨c,e3,rfl⟩:=tq.mp e;have hl:xs.length=ys.length:=by rw[<- ke.len,<- kf.len]
    rw[tW];refine⟨?_,by simp[hl]⟩;rw[Dx e3,ur];intro j hj;rw[uG]at hj;have h1:j<xs.length:=by lia
    have h2:j<ys.length:=by lia
    have g1:=sV h1;have g2:=sV h2;obtain⟨v1,q1,r1⟩:=ke.at g1;obtain⟨v2,q2,r2⟩:=kf.at g2;have:=by rw[q1]at q2;injection q2
    subst this;exact Mt (LB e3 _ _ _ g1 g2) r1 r2
variable{ae:List (Addr×Obj)}{s:Shared}
theorem Ms{l}{u}{y}(hl:s.heap.IsTuple l items)(hu:A.units<cLine)(ry:RelV y u)(fy:Fe y=true):
  SeqAt.EqAt A s (.ref l) u false/\SeqAt.EqAt A s u (.ref l) false/\SeqAt.RcAt A s (.ref l) u false/\SeqAt.RcAt A s u (.ref l) false:=by
 cases y with|v=>cases ry;exact⟨.tuple_none hl hu,.none_tuple hl hu,.tuple_none hl hu,.none_tuple hl hu⟩|o b=>cases ry;exact⟨.tuple_bool _ hl hu,.bool_tuple _ hl hu,.tuple_bool _ hl hu,.bool_tuple _ hl hu⟩|int b=>obtain⟨t,rfl⟩:=ry;exact⟨.tuple_int _ _ hl hu,.int_tuple _ _ hl hu,.tuple_int _ _ hl hu,.int_tuple _ _ hl hu⟩|str b=>obtain⟨t,rfl⟩:=ry;exact⟨.tuple_str _ _ hl hu,.str_tuple _ _ hl hu,.tuple_str _ _ hl hu,.str_tuple _ _ hl hu⟩|_=>cases fy
theorem LZ{u}{w}{x}{b}(rx:Bf X.K F H x v)(ry:Bf X.K F H y w)(qx:RelV v u)(qy:RelV w u')(e:((plV x).bind λu=>(plV y).map (eqV u))=some b):SeqAt.EqAt A s u u' b:=by simp only[tV,tq]at e;obtain⟨p,e1,q,e2,rfl⟩:=e;have h1:=BY e1 rx;have h2:=BY e2 ry;subst h1 h2;exact Uj qx qy (CY e1) (CY e2)
theorem items_eqAt{f}{b}(e:Js f xs ys=some b)(rx:Al X.K F H xs vs)(ry:Al X.K F H ys ws)(qx:Vals vs us)(qy:Vals ws us')
  (ih:∀{x y:T}{v w:V}{u u':Value}{b:Bool},f x y=some b->Bf X.K F H x v->Bf X.K F H y w->RelV v u->RelV w u'->SeqAt.EqAt A s u u' b) :
  ∀j (h1:j<us.toArray.size) (h2:j<us'.toArray.size),SeqAt.EqAt A s us.toArray[j] us'.toArray[j] (eAt f xs ys j):=by
 intro j h1 h2;have l1:=rx.len;have l2:=ry.len;have l3:=qx.length;have l4:=qy.length;rw[sX]at h1 h2;have g1:xs[j]?=some (xs[j]'(by lia)):=sV (by lia);have g2:ys[j]?=some (ys[j]'(by lia)):=sV (by lia);obtain⟨v,q1,r1⟩:=rx.at g1;obtain⟨w,q2,r2⟩:=ry.at g2;obtain⟨u,p1,o1⟩:=qx.get q1;obtain⟨u',p2,o2⟩:=qy.get q2;rw[sV h1]at p1;rw[sV h2]at p2;injection p1 with p1;injection p2 with p2;rw[show us.toArray[j]=us[j] by simp,show us'.toArray[j]=us'[j] by simp,p1,p2];exact ih (LB e _ _ _ g1 g2) r1 r2 o1 o2
theorem Kn(I:Inv X ae U H s):∀{n:Nat}{A:Around}{x y:T}{v w:V}{u u':Value}{b:Bool},A.units+n<cLine->eqT n x y=some b->Bf X.K F H x v->Bf X.K F H y w->RelV v u->RelV w u'->SeqAt.EqAt A s u u' b
 |0,A,x,y,v,w,u,u',b,hu,e,rx,ry,qx,qy=>LZ rx ry qx qy e
 |n+1,A,x,y,v,w,u,u',b,hu,e,rx,ry,qx,qy=>by
  have e0:=e;unfold eqT at e;cases e1:Ge x with
  |none =>rw[e1]at e;cases e2:Ge y with|none=>rw[e2]at e;exact LZ rx ry qx qy e|some ys =>rw[e2]at e;obtain⟨a,vs,rfl,st,_⟩:=Df e2 ry;obtain⟨p,e3,rfl⟩:=tq.mp e;have h1:=BY e3 rx;subst h1;cases qy;obtain⟨ak,_,ht,_⟩:=I.tuple st.sq;exact(Ms ht (by lia) qx (CY e3)).2.1
  |some xs =>
   rw[e1]at e;obtain⟨a,vs,rfl,sx,ke⟩:=Df e1 rx;cases qx;obtain⟨ak,vx,ht,_⟩:=I.tuple sx.sq;cases e2:Ge y with
   |none =>rw[e2]at e;obtain⟨p,e3,rfl⟩:=tq.mp e;have h1:=BY e3 ry;subst h1;exact(Ms ht (by lia) qy (CY e3)).1
   |some ys =>
    rw[e2]at e;obtain⟨a',eQ,rfl,sy,kf⟩:=Df e2 ry;cases qy;obtain⟨aS,gq,gh,_⟩:=I.tuple sy.sq;by_cases ie:a=a'
    .subst ie;rw[Mt e0 rx ry];exact SeqAt.EqAt.same _
    .obtain⟨c,e3,rfl⟩:=tq.mp e;have l1:ak.length=xs.length:=by rw[<- vx.length,ke.len]
     have l2:aS.length=ys.length:=by rw[<- gq.length,kf.len]
     have:=SeqAt.RcAt.tuples ht gh (by lia) (items_eqAt e3 ke kf vx gq (λh r1 r2 o1 o2=>Kn I (A:=A.in1) (by show A.units+1+n<_;lia) h r1 r2 o1 o2));rw[sX,sX,l1,l2,<- Dx e3]at this;exact SeqAt.EqAt.of_refs ie this
noncomputable def eqB(neg:Bool)(xs ys:List T)(fs:FS):Out Rv:=match Js (eqT 60) xs ys with|some b=>okT (.o (if neg then !(b&&xs.length==ys.length)else(b&&xs.length==ys.length))) fs|none=>.bad
noncomputable def Jan(neg:Bool):Rv->Rv->FS->Out Rv:=λx y fs=>match K3 x with
 |some xs=>match K3 y with|some ys=>eqB neg xs ys fs|none=>.bad
 |none=>match Cs fs x with
  |some xs=>match Cs fs y with|some ys=>eqB neg xs ys fs|none=>.bad
  |none=>.bad
def EqS(X:Cx)(neg:Bool)(H:Hp)(x y:V)(b:Bool):Prop:=∀(ae:List (Addr×Obj))(U:St)(s:Shared)(u w:Value),Inv X ae U H s->RelV x u->RelV y w ->
 if neg then SeqAt.RcNeAt X.A s u w (!b)else SeqAt.RcAt X.A s u w b
def Jag(X:Cx)(neg:Bool):R2:=λx y H Q=>∃b,EqS X neg H x y b/\Q (.o (if neg then !b else b)) H
theorem Yt:OpR X (compareOp .Eq) (Jag X false):=by intro ae s U H x y v u Q I rx ry h;obtain⟨b,e,q⟩:=h;exact(e ae U s v u I rx ry) X.prog X.w X.xe _ ⟨.o b,H,I,rfl,q⟩
theorem Yr:OpR X (compareOp .NotEq) (Jag X true):=by intro ae s U H x y v u Q I rx ry h;obtain⟨b,e,q⟩:=h;exact(e ae U s v u I rx ry) X.prog X.w X.xe _ ⟨.o (!b),H,I,rfl,q⟩
theorem WD{a}{b}(hu:X.A.units+61<cLine)(e:Js (eqT 60) xs ys=some b)(sx:SqT X.K H a vs)(sy:SqT X.K H a' ws)(rx:Al X.K F H xs vs)(ry:Al X.K F H ys ws):
  EqS X neg H (.ref a) (.ref a') (b&&xs.length==ys.length):=by
 intro ae U s u w I qx qy;cases qx;cases qy;obtain⟨ak,vx,ht,_⟩:=I.tuple sx;obtain⟨aS,gq,gh,_⟩:=I.tuple sy;have l1:ak.length=xs.length:=by rw[<- vx.length,rx.len]
 have l2:aS.length=ys.length:=by rw[<- gq.length,ry.len]
 have he:=items_eqAt e rx ry vx gq (λh r1 r2 o1 o2=>Kn I (A:=X.A.in1) (by show X.A.units+1+60<_;lia) h r1 r2 o1 o2);cases neg with|false =>have:=SeqAt.RcAt.tuples ht gh (by lia) he;rwa[sX,sX,l1,l2,<- Dx e]at this|true =>have:=SeqAt.RcNeAt.tuples ht gh (by lia) he;rwa[sX,sX,l1,l2,<- Dx e]at this
theorem WE{a}{b}(hu:X.A.units+61<cLine)(e:Js (eqT 60) xs ys=some b)(sx:SqL X.K H a vs)(sy:SqL X.K H a' ws)(rx:Al X.K F H xs vs)(ry:Al X.K F H ys ws):
  EqS X neg H (.ref a) (.ref a') (b&&xs.length==ys.length):=by
 intro ae U s u w I qx qy;cases qx;cases qy;obtain⟨ak,vx,ht,_⟩:=I.list sx;obtain⟨aS,gq,gh,_⟩:=I.list sy;have l1:ak.length=xs.length:=by rw[<- vx.length,rx.len]
 have l2:aS.length=ys.length:=by rw[<- gq.length,ry.len]
 have he:=items_eqAt e rx ry vx gq (λh r1 r2 o1 o2=>Kn I (A:=X.A.in1) (by show X.A.units+1+60<_;lia) h r1 r2 o1 o2);by_cases hl:xs.length=ys.length
 .have hs:ak.toArray.size=aS.toArray.size:=by rw[sX,sX];lia
  have hb:(b&&xs.length==ys.length)=(List.range ak.toArray.size).all (eAt (eqT 60) xs ys):=by rw[Dx e,hl,Nat.min_self,sX,l1,hl];simp
  rw[hb];cases neg with|false=>exact SeqAt.RcAt.lists ht.isList gh.isList hs (by lia) he|true=>exact SeqAt.RcNeAt.lists ht.isList gh.isList hs (by lia) he
 .have hs:(ak.toArray.size !=aS.toArray.size)=true:=by rw[sX,sX,bne_iff_ne];lia
  have hb:(b&&xs.length==ys.length)=false:=by simp[hl]
  rw[hb];cases neg with|false=>exact SeqAt.RcAt.lists_lengths ht.isList gh.isList hs (by lia)|true=>exact SeqAt.RcNeAt.lists_lengths ht.isList gh.isList hs (by lia)
theorem YD(neg:Bool)(hu:X.A.units+61<cLine):OpF X.K Z (Jag X neg) (Jan neg):=by
 intro F B H U fs x y u w Q ok rx ry s;unfold Jan at s;cases e1:K3 x with
 |some xs =>rw[e1]at s;cases e2:K3 y with|none=>rw[e2]at s;exact s.elim|some ys =>rw[e2]at s;obtain⟨a,vs,rfl,sx,r1⟩:=BG rx e1;obtain⟨a',ws,rfl,sy,r2⟩:=BG ry e2;simp only[eqB]at s;cases e3:Js (eqT 60) xs ys with|none=>rw[e3]at s;exact s.elim|some b =>rw[e3]at s;exact⟨_,WD hu e3 sx sy r1 r2,s F H _ Le.refl (RR.of ok rfl)⟩
 |none =>rw[e1]at s;cases e2:Cs fs x with|none=>rw[e2]at s;exact s.elim|some xs =>rw[e2]at s;cases e3:Cs fs y with|none=>rw[e3]at s;exact s.elim|some ys =>rw[e3]at s;obtain⟨a,vs,rfl,sx,r1⟩:=Bg ok rx e2;obtain⟨a',ws,rfl,sy,r2⟩:=Bg ok ry e3;simp only[eqB]at s;cases e4:Js (eqT 60) xs ys with|none=>rw[e4]at s;exact s.elim|some b =>rw[e4]at s;exact⟨_,WE hu e4 sx sy r1 r2,s F H _ Le.refl (RR.of ok rfl)⟩
variable{fa:FS->Out Rv}
noncomputable def Mm(fs:FS):Rv->Option Bool
 |.t t=>some (match t with|.v=>true|_=>false)
 |.n i=>match AH fs i with|some (.l _ _)=>some false|some (.lst _)=>some false|_=>none
 |.nw _=>none
noncomputable def T4(neg:Bool):Rv->Rv->FS->Out Rv:=λx y fs=>match y with
 |.t .v=>match Mm fs x with|some b=>okT (.o (if neg then !b else b)) fs|none=>.bad
 |_=>.bad
theorem RI{b}{x}(ok:Okk K F B H fs U)(rx:Eh K F H U x u)(e:Mm fs x=some b):decide (u=V.v)=b:=by
 cases x with
 |t t =>have rx:Bf K F H t u:=rx;cases t with|v=>cases e;cases rx;rfl|o=>cases e;cases rx;rfl|int=>cases e;cases rx;rfl|str=>cases e;cases rx;rfl|ins=>cases e;simp only[Bf]at rx;obtain⟨a,dx,vs,rfl,_⟩:=rx;rfl|_=>cases e;simp only[Bf]at rx;obtain⟨a,vs,rfl,_⟩:=rx;rfl
 |nw o=>cases e
 |n i =>
  have e2:U[i]?=some (some u):=rx;simp only[Mm]at e;split at e
  .rename_i eo;cases e;obtain⟨v,L2,e1,q,_⟩:=ok.own eo;rw[e1]at e2;have e3:v=u:=by simpa using e2
   subst e3;obtain⟨a,ah,rfl,_⟩:=q;rfl
  .rename_i eo;cases e;obtain⟨v,L2,e1,q,_⟩:=ok.own eo;rw[e1]at e2;have e3:v=u:=by simpa using e2
   subst e3;obtain⟨a,ah,rfl,_⟩:=q;rfl
  .cases e
theorem TQ:OpF K Z (λx y H Q=>y=.v/\Q (.o (decide (x=.v))) H) (T4 false):=by
 intro F B H U fs x y u w Q ok rx ry s;unfold T4 at s;split at s
 .split at s
  next b e=>refine⟨ry,?_⟩;rw[(RI ok rx e)];exact s F H _ Le.refl (RR.of ok rfl)
  .exact s.elim
 .exact s.elim
theorem Ub(ha:FE X Z a fa)(hb:FE X Z b fb):FE X Z (.Compare a [.Is] [b] pos) (Ag (T4 false) fa fb):=Kk TQ TM ha hb (DP _)
theorem T6(ha:FE X Z a fa)(hb:FE X Z b fb):FT X Z (.Compare a [.Is] [b] pos) (asB (Ag (T4 false) fa fb)):=Ek TQ TM ha hb (DP _)
theorem JbX(hr:DJ k A):A.units+61<cLine:=by have:=hr.units;lia
variable{f:FS->Out Rv}{fa:FS->Out (List Rv)}{p1 fE bf:Pos}
theorem Okk.frzF(h:Okk K F B H fs U)(e:U[i]?=some (some u))(es:fs[i]?=some (some (.own (.l ks ts)))):
  ∃a ah,u=.ref a/\H a=some (.l ah)/\ah.map (·.1)=ks/\∀o,Le F H (MJ F [a]) (upd H a (.frz o (.l ah)))/\Okk K (MJ F [a]) B (upd H a (.frz o (.l ah))) (fs.set i (some (.val (.dF ks ts)))) U/\Bf K (MJ F [a]) (upd H a (.frz o (.l ah))) (.dF ks ts) (.ref a):=by
 obtain⟨L,o1⟩:=h;obtain⟨v,L1,L2,L3,e1,rfl,h1,h2⟩:=o1.sl.pick es;obtain⟨w,rfl,q2⟩:=h1;rw[e1]at e;have eu:w=u:=by simpa using e
 subst eu;have q3:=q2;obtain⟨a,ah,rfl,hd,rfl,q,rfl⟩:=q3;refine⟨a,ah,rfl,hd,rfl,λob=>?_⟩;have dg:=o1.nd;have na:∀b∈L1++L3,b≠a:=λb hb z=>by
  subst z;rw[sT]at dg;rcases tE.mp hb with m|m
  .exact dg.2.2 b m b (by simp) rfl
  .exact(sT.mp dg.2.1).2.2 b (by simp) b m rfl
 have l2:Le F H (MJ F [a]) (upd H a (.frz ob (.l ah))):=⟨λb f=>⟨.inl f,Ap λz=>o1.nf b (by subst z;simp) f⟩,λb f=>⟨f,Ap λz=>o1.pl b (by subst z;simp) f⟩⟩
 have r2:Bf K (MJ F [a]) (upd H a (.frz ob (.l ah))) (.dF (ah.map (·.1)) ts) (.ref a):=by exact⟨a,ah,rfl,.inr (by simp),⟨ob,As⟩,rfl,q.le l2⟩
 refine⟨l2,⟨L1++([]++L3),?_⟩,r2⟩;have h3:=h2 (MJ F [a]) (upd H a (.frz ob (.l ah))) (some (.val (.dF (ah.map (·.1)) ts))) (some (.ref a)) [] l2 (λb hb=>Ap (na b hb)) ⟨.ref a,rfl,r2,rfl⟩;rw[BL e1]at h3;refine⟨h3,CG dg tJ (λ_ m=>nomatch m),λb m z=>?_,λb z=>?_,?_,λb z=>?_,λb z=>?_,λb m=>o1.pl b ?_⟩
 .have m':b∈L1\/b∈L3:=by simpa using m
  rcases z with z|z
  .exact o1.nf b (by rcases m' with m|m<;>simp[m]) z
  .exact na b (by rcases m' with m|m<;>simp[m]) (by simpa using z)
 .rcases z with z|z
  .rw[Ap λy=>o1.nf b (by subst y;simp) z];exact o1.fd b z
  .have:b=a:=by simpa using z
   subst this;rw[As];exact λy=>nomatch y
 .have:=FF.put (i:=i) (s:=some (.val (.dF (ah.map (·.1)) ts))) (v:=some (.ref a)) o1.bo (λo eo=>by cases eo) o1.sl.len;rwa[BL e1]at this
 .rw[Ap λy=>o1.pl b (by subst y;simp) z];exact o1.pd b z
 .rcases z with z|z
  .exact o1.pf b z
  .have:b=a:=by simpa using z
   subst this;exact o1.pl b (by simp)
 .have m':b∈L1\/b∈L3:=by simpa using m
  rcases m' with m|m<;>simp[m]
def EZ(K:Fg)(Z:Xp):XE:=λcv U H=>∃F B fs c C,Dl K c=some C/\cv=.ref C/\Okk K F B H fs U/\Z.p F B H c fs
def Lks(X:Cx)(Z:Xp):Prop:=Lk X (EZ X.K Z)
theorem Lks.no:Lks X Xp.no:=λ_ _ _ _ _ _ _ ⟨_,_,_,_,_,_,_,_,_,_,_,⟨_,_,_,_,_,_,_,_,z⟩⟩=>z.elim
structure LkD(X:Cx)(Z:Xp):Prop where
 d:Qr X
 k:∀e s,XW X (EZ X.K Z) e s->X.xe e s
 own:PassesOwn (model X.prog X.w) X.A X.env X.xe
theorem LkD.lk(l:LkD X Z):Lks X Z:=Lk.of l.d.ex l.k
noncomputable def Zd(K:Fg)(E:XK):Xp:=⟨λF B H c fs=>∀C,Dl K c=some C->∀F' H' au,Le F H F' H'->Okk K F' B H' fs au->E (.ref C) none H',λh l C hC F' H' au l' k=>h C hC F' H' au (l.trans l') k⟩
def spX(K:Fg)(p:Nat)(Fn:FS->Out Rv):Sp:=λvs H Q E=>vs.length=p/\∃F dk,Okk K F (Bof (vs.map some)) H dk (vs.map some)/\match Fn dk with|.ok r τ=>∀F' H' u au,Le F H F' H'->RR K (Bof (vs.map some)) au F' H' τ r u->Q u H'|.exc c τ=>∀C,Dl K c=some C->∀F' H' au,Le F H F' H'->Okk K F' (Bof (vs.map some)) H' τ au->E (.ref C) none H'|.bad=>False
def GS0(X:Cx)(Z:Xp)(st:Stmt)(g:FS->SO):Prop:=PS0 X st (tSt X.K Z g)
def Jav(X:Cx)(Z:Xp)(kg:List Stmt)(g:FS->SO):Prop:=Te X kg (tSt X.K Z g)
variable{g h:FS->SO}
theorem GS.zero(q:GS X Z st g):GS0 X Z st g:=PS.zero q
theorem GSs.zero(q:GSs X Z rest g):Jav X Z rest g:=PSs.zero q
theorem GD(h1:GS0 X Z st g)(h2:Jav X Z rest h):Jav X Z (st::rest) (Av g h):=by
 intro s0 U H D I q;refine Of h1 h2 s0 U H D I ?_;obtain⟨F,B,fs,ok,s⟩:=q;refine⟨F,B,fs,ok,?_⟩;unfold Av at s;cases e:g fs with
 |nx aj =>rw[e]at s;exact λF1 H1 fG l k=>⟨F1,B,aj,k,FK.le s l⟩
 |ret r aj=>rwa[e]at s
 |brk aj=>rwa[e]at s
 |cnt aj=>rwa[e]at s
 |exc c aj=>rwa[e]at s
 |bad=>rwa[e]at s
theorem Kg{f}{fd}(Fu:Fun K x qual st f fd)(S:Jp N ps (Bz st))(p n:Nat)(hp:ps.length=p)(hn:N.length=p+n)
  (hb:∀aV (A:Around) outer (s:Shared) H E E' (Z:Xp),DJ k (A.deeper (envOfC qual (Bz st) s.heap.objs.size f aV))->LkD ((Nz (CX1 P w) P w K mg base N qual (Bz st) f aV A outer s H E).Gb E') Z ->
   Jav ((Nz (CX1 P w) P w K mg base N qual (Bz st) f aV A outer s H E).Gb E') Z (Et st) g):EW P w K mg base (CX1 P w) (k+1) f fd ps (spX K p (Bo n g)):=by
 refine Fu.ok0 S (λvs H Q E h=>by rw[h.1,hp]) (λaV A outer s H vs Q E hr h=>⟨_,hb aV A outer s H E _ (Zd K E) hr ⟨⟨rfl,rfl,rfl,rfl⟩,λe s q=>?_,XW.own ZU⟩,?_⟩)
 .refine XW.imp (XW.Gb q) λc U H z=>?_
  obtain⟨F,B,fs,c,C,hC,rfl,ok,z⟩:=z;exact z C hC F H U Le.refl ok
 obtain⟨hl,F,dk,⟨L,ok⟩,h⟩:=h;have es:L2.start N vs=vs.map some++List.replicate n none:=by unfold L2.start;rw[hl,hn,Nat.add_sub_cancel_left]
 rw[es];refine⟨F,Bof (vs.map some),dk++List.replicate n none,⟨L,ok.more n⟩,?_⟩;unfold Bo at h;cases e:g (dk++List.replicate n none)with
 |nx τ =>rw[e]at h;intro F' H' au l k;exact h F' H' .v (au.take dk.length) l (RR.take (RR.of (r:=.t .v) k rfl) _ (λi z=>nomatch z))
 |ret r τ =>
  rw[e]at h;intro F' H' au u l k;cases r with
  |t t=>exact h F' H' u (au.take dk.length) l (RR.take k _ (λi z=>nomatch z))
  |nw o=>exact h F' H' u (au.take dk.length) l (RR.take k _ (λi z=>nomatch z))
  |n i =>
   dsimp only at h;split at h
   .rename_i r' kK e2;split at e2
    next o eo=>cases e2;exact h F' H' u (au.take dk.length) l (RR.take (RR.mv k eo) _ (λi z=>nomatch z))
    .cases e2
   .rename_i c kK e2;split at e2
    .cases e2
    .cases e2
   .exact h.elim
 |brk τ=>rw[e]at h;exact h.elim
 |cnt τ=>rw[e]at h;exact h.elim
 |exc c τ =>rw[e]at h;intro C hC F' H' au l k;exact h C hC F' H' (au.take dk.length) l (RR.take (RR.of (r:=.t .v) k rfl) _ (λi z=>nomatch z)).ok
 |bad=>rwa[e]at h
noncomputable def El(Fn:FS->Out Rv)(rs:List Rv)(fs:FS):Out Rv :=
 if(C8 fs (rs.map Bj)).Nodup then(match Fn (B0 fs (rs.map Bj))with|.ok (.t t) τ=>(match D2 (rs.map Bj) τ fs with|some ar=>.ok (.t t) ar|none=>.bad)|.ok (.nw o) τ=>(match D2 (rs.map Bj) τ fs with|some ar=>.ok (.nw o) ar|none=>.bad)|.exc c τ=>(match D2 (rs.map Bj) τ fs with|some ar=>.exc c ar|none=>.bad)|_=>.bad)else .bad
noncomputable def Ak(p:Nat)(Fn:FS->Out Rv):List Rv->FS->Out Rv:=λrs fs=>if rs.length=p then El Fn rs fs else .bad
theorem GZ(q:RAn K B U F H fs rs vs)(s:sat Z B (RR K B U) F H (El Fn rs fs) Q):spX K rs.length Fn vs H Q λc _ H'=>EZ K Z c U H':=by
 unfold El at s;split at s
 .rename_i nd;obtain⟨L9,μ,ok,fB,hl,hi⟩:=O9 q;obtain⟨Pp,p1,p2,p3,p4⟩:=lend ok hl hi nd fB;refine⟨q.len,⟨F.f,Pp⟩,B0 fs (rs.map Bj),p2,?_⟩;split at s
  .rename_i t τ e;rw[e];split at s
   next ar eb=>intro F' H' u au l k;obtain⟨Li,L',o1,⟨_,r⟩,_⟩:=k;obtain⟨le,L,o2,_⟩:=p4 F' H' τ au Li ar l o1 eb;exact s ⟨F'.f,F.p⟩ H' u le (RR.of ⟨L,o2⟩ (Bf.wp r))
   .exact s.elim
  .rename_i o τ e;rw[e];split at s
   .rename_i ar eb;intro F' H' u au l k;obtain⟨Li,L',o1,r,nd,nf⟩:=k;obtain⟨le,L,o2,sub⟩:=p4 F' H' τ au Li ar l o1 eb;refine s ⟨F'.f,F.p⟩ H' u le ⟨L,L',o2,A8.wp r,?_,λa m=>⟨(nf a m).1,λp=>(nf a m).2 (l.p a (p1 a p)).1⟩⟩;rw[sT]at nd ⊢;refine⟨o2.nd,nd.2.1,λa ha b hb e=>?_⟩;rcases sub a ha with z|z
    .exact nd.2.2 a z b hb e
    .exact(nf b hb).2 (l.p b (e▸z)).1
   .exact s.elim
  .rename_i c τ e;rw[e];split at s
   next ar eb=>intro C hC F' H' au l k;obtain⟨Li,o1⟩:=k;obtain⟨le,L,o2,_⟩:=p4 F' H' τ au Li ar l o1 eb;exact⟨⟨F'.f,F.p⟩,B,ar,c,C,hC,rfl,⟨L,o2⟩,Z.mono s le⟩
   .exact s.elim
  .exact s.elim
 .exact s.elim
variable{p:Nat}{np:Pos}
theorem Py(G:FnAt X.prog X.w X.K X.mg X.base (CX1 X.prog X.w) x k ps (spX X.K p Fn))(hr:DJ k X.A)(lk:Lks X Z)(ha:FAn X Z (e::es) fa)(hg:Gl X x:=by rfl)(bh:(x==("__debug__":Str))=false:=by decide)
  (he:starEach (e::es) X.env=(false,eval e X.env)::starEach es X.env:=by rfl) (aD:(backTo pos (starEach es X.env)).any (·.1)=false:=by rfl):FE X Z (.Call (.Name x pp) (e::es) [] pos) (Ai (Ak p Fn) fa):=by
 refine AY (Yh G hr lk ha hg bh he aD) λU H Q ao => ?_
 obtain⟨F,B,fs,ok,s⟩:= ao;refine⟨F,B,fs,ok,AG s λrs aj F1 H1 us l q s1=>?_⟩;unfold Ak at s1;split at s1
 next hp=>rw[<- hp];exact GZ q s1
 .exact s1.elim
structure Jb4(K:Fg)(mg:Str->Option Value)(x:Str):Prop where
 ex:∃C,mg x=some (.ref C)/\Dl K x=some C/\excIn K C Xh "ValueError.__new__"=true
noncomputable def JH(c:Str)(fa:FS->Out (List Rv)):FS->SO:=λfs=>SO.of (fa fs) λrs fs=>if rs.length<=1000 then .exc c fs else .bad
theorem RY(c:Jb4 X.K X.mg x)(l:LkD X Z)(hc:X.calm=true)(ha:FA X Z (e::es) fa)(hg:Gl X x:=by rfl)(bh:(x==("__debug__":Str))=false:=by decide)
  (he:starEach (e::es) X.env=(false,eval e X.env)::starEach es X.env:=by rfl) (aD:(backTo ax (starEach es X.env)).any (·.1)=false:=by rfl) :
  GS X Z (.Raise (some (.Call (.Name x np) (e::es) [] ax)) none pos) (JH x fa):=by
 obtain⟨C,h1,h2,h3⟩:=c.ex;refine Ct (Q3 ⟨h1,h3⟩ l.d.ex hc l.k ha hg bh he aD) λD U H ao => ?_
 obtain⟨F,B,fs,ok,s⟩:= ao;refine⟨F,B,fs,ok,Cq s λrs aj F1 H1 us l q s1=>?_⟩;split at s1
 next hl=>exact⟨by rw[q.2.len];exact hl,F1,B,aj,x,C,h2,rfl,q.1,s1⟩
 .exact s1.elim
noncomputable def Xc(i:Nat)(gF:Str->Bool)(h:FS->SO)(c:Str)(fs:FS):SO:=if gF c=true then(match MT i (.t (.zT c)) fs with|some fs=>(match h fs with|.nx fs=>(match fs[i]? with|some (some (.val _))=>.nx (fs.set i none)|_=>.bad)|.ret (.t t) fs=>.ret (.t t) fs|_=>.bad)|none=>.bad)else .bad
noncomputable def Xb(i:Nat)(gF:Str->Bool)(g h:FS->SO):FS->SO:=λfs=>match g fs with|.exc c fs=>Xc i gF h c fs|o=>o
theorem Okk.forget(h:Okk K F B H fs U)(e:fs[i]?=some (some (.val t))):Okk K F B H (fs.set i none) (U.set i none):=by
 obtain⟨L,ok⟩:=h;obtain⟨v,L1,L2,L3,e1,rfl,h1,h2⟩:=ok.sl.pick e;have e2:L2=[]:=by obtain⟨u,rfl,q,z⟩:=h1;exact z
 subst e2;exact⟨L1++([]++L3),h2 F H none none [] Le.refl (λ_ _=>rfl) rfl,ok.nd,ok.nf,ok.fd,FF.put ok.bo (λo eo=>by cases eo) ok.sl.len,ok.pd,ok.pf,ok.pl⟩
noncomputable def Ztry(K:Fg)(Z:Xp)(i:Nat)(gF:Str->Bool)(h:FS->SO)(D:Ends):Xp:=⟨λF B H c fs=>FK K Z B F H (Xc i gF h c fs) D,λq l=>FK.le q l⟩
theorem V9{i:Nat}{n:Str}{eF:Pos}{bD:List Stmt}{cX:Stmt}(gF:Str->Bool)(i:Nat)(l:LkD X Z)(hC:X.mg x=some (.ref C))(hN:X.N.Nodup)(hk:∀c C',gF c=true->Dl X.K c=some C'->exmOne X.K (.ref C') (.ref C)=some true)
  (hb:∀E' Z',LkD (X.Gb E') Z'->GSs (X.Gb E') Z' body g) (hs:∀a,GSs (X.hand a) Xp.no (cX::bD) h) (hi:X.N[i]?=some n:=by rfl) (hl:X.env.scope.names.lookup n=some .local:=by rfl) (hg:Gl X x:=by rfl) (bh:(x==("__debug__":Str))=false:=by decide) :
  GS0 X Z (.Try body [.ExceptHandler (some (.Name x np)) (some n) (cX::bD) eF] [] [] pos) (Xb i gF g h):=by
 have key:=UZ (np:=np) (pos:=pos) (eF:=eF) (body:=body) (cX:=cX) (bD:=bD) (th:=tSt X.K Xp.no h) (tb:=λD=>tSt X.K (Ztry X.K Z i gF h D) g) l.d hC hN (λD=>?_) hs hi hl hg bh
 .intro s0 U H D I q;refine key s0 U H D I ?_;obtain⟨F,B,fs,ok,s⟩:=q;refine⟨F,B,fs,ok,?_⟩;unfold Xb at s;cases e:g fs with|nx aj=>rwa[e]at s|ret r aj=>rwa[e]at s|brk aj=>rwa[e]at s|cnt aj=>rwa[e]at s|exc c aj=>rwa[e]at s|bad=>rwa[e]at s
 .refine hb _ _ ⟨⟨l.d.pn,l.d.ex,l.d.st,l.d.fr⟩,λe s q=>XW.imp (XW.Gb q) λcv U H z=>?_,XW.own l.d⟩;obtain⟨F,B,fs,c,C',mV,rfl,ok,z⟩:=z;have z:FK X.K Z B F H (Xc i gF h c fs) D:=z;unfold Xc at z;split at z
  .rename_i ku;refine⟨hk c C' ku mV,λa ha=>?_⟩;split at z
   .rename_i aB e2;have je:Le F H (Qo F a) (upd H a (exO (.ref C') a)):=A3 ok ha;refine⟨Qo F a,B,aB,(K2 (RR.of (r:=.t (.zT c)) (u:=.ref a) (Okk.alloc ok ha) (by exact⟨a,C',rfl,.inr rfl,As,mV⟩)) e2),?_⟩;cases eh:h aB with
    |nx dY =>
     rw[eh]at z;dsimp only at z;split at z
     next t et=>exact λF' H' au l k=>z F' H' _ (je.trans l) (k.forget et)
     .exact z.elim
    |ret r dY =>rw[eh]at z;cases r with|t t =>intro F' H' au u l k;exact z F' H' au u (je.trans l) k|nw o=>exact z.elim|n j=>exact z.elim
    |brk dY=>rw[eh]at z;exact z.elim
    |cnt dY=>rw[eh]at z;exact z.elim
    |exc c dY=>rwa[eh]at z
    |bad=>rwa[eh]at z
   .exact z.elim
  .exact z.elim
noncomputable def WA(K:Fg)(ds:List Str)(tab:Str->Str->Bool)(c:Str):Bool:=match Dl K c with
 |some C=>excIn K C Xh "ValueError.__new__"&&(findIn K (.ref C) "__getattribute__"==some (some (.builtin "BaseException.__getattribute__")))&&(findIn K (.ref C) "__getattr__"==some none) &&
  (findIn K (.ref C) "__class__"==some (some (.builtin "object.__class__")))&&(PySem.W.specialIn K (.builtin "object.__class__") "__get__"==some (some (.builtin "getset_descriptor.__get__")))&&(PySem.W.takesIn K (.builtin "object.__class__")==some true) &&
  (mroIn K C (.type "object")==some true)&&(mroIn K C (.type "BaseException")==some true)&&(clsIn K C).isSome&&(kitOne K (.ref C) (.type "ValueError")==some true) &&
  ds.all λd=>match Dl K d with|some D=>(kitOne K (.ref C) (.ref D)==some (tab c d))&&(!tab c d||exmOne K (.ref C) (.ref D)==some true)|none=>false
 |none=>false
noncomputable def ZR(K:Fg)(rs ds:List Str)(tab:Str->Str->Bool):Bool:=rs.all (WA K ds tab)&&ds.all λd=>(Dl K d).isSome
structure KU(K:Fg)(mg:Str->Option Value)(rs ds:List Str)(tab:Str->Str->Bool):Prop where
 k:∀c∈rs,∀C,Dl K c=some C->PySem.W.ExK K C/\(clsIn K C).isSome=true
 own:∀c∈rs,∀d∈ds,∀C D,Dl K c=some C->Dl K d=some D->kitOne K (.ref C) (.ref D)=some (tab c d)/\(tab c d=true->exmOne K (.ref C) (.ref D)=some true)
 ve:∀c∈rs,∀C,Dl K c=some C->kitOne K (.ref C) (.type "ValueError")=some true
 at_:∀c∈rs,∃C,mg c=some (.ref C)/\Dl K c=some C/\excIn K C Xh "ValueError.__new__"=true
 yx:∀d∈ds,∃D,mg d=some (.ref D)/\Dl K d=some D
theorem Up{c}{h}(X:K.In h)(G:h.Ns mainGlobals mg)(e:Dl K c=some C):mg c=some (.ref C):=by
 unfold Dl at e;split at e
 next D q=>cases e;exact mg_of X G q
 .cases e
theorem KU.of{h}{rs}(X:K.In h)(G:h.Ns mainGlobals mg)(e:ZR K rs ds tab=true):KU K mg rs ds tab:=by
 unfold ZR at e;rw[tW]at e;obtain⟨e1,e2⟩:=e;have one:∀c∈rs,∀C,Dl K c=some C->excIn K C Xh "ValueError.__new__"=true/\PySem.W.ExK K C/\(clsIn K C).isSome=true/\kitOne K (.ref C) (.type "ValueError")=some true /\
   ∀d∈ds,∀D,Dl K d=some D->kitOne K (.ref C) (.ref D)=some (tab c d)/\(tab c d=true->exmOne K (.ref C) (.ref D)=some true):=λc hc C hC=>by
  have q:=ur.mp e1 c hc;unfold WA at q;rw[hC]at q;simp only[tW,beq_iff_eq]at q;obtain⟨⟨⟨⟨⟨⟨⟨⟨⟨⟨q1,q2⟩,q3⟩,q4⟩,q5⟩,q6⟩,q7⟩,q8⟩,q9⟩,rG⟩,rH⟩:=q;refine⟨q1,⟨q2,q3,q4,q5,q6,q7,q8⟩,q9,rG,λd hd D hD=>?_⟩;have z:=ur.mp rH d hd;rw[hD]at z;simp only[tW,beq_iff_eq]at z;refine⟨z.1,λht=>?_⟩;have z2:=z.2;rw[ht]at z2;simpa using z2
 refine⟨λc hc C hC=>⟨(one c hc C hC).2.1,(one c hc C hC).2.2.1⟩,λc hc d hd C D hC hD=>(one c hc C hC).2.2.2.2 d hd D hD,λc hc C hC=>(one c hc C hC).2.2.2.1,λc hc=>?_,λd hd=>?_⟩
 .have q:=ur.mp e1 c hc;unfold WA at q;cases hC:Dl K c with|none=>rw[hC]at q;cases q|some C=>exact⟨C,Up X G hC,rfl,(one c hc C hC).1⟩
 .obtain⟨D,hD⟩:=uN.mp (ur.mp e2 d hd);exact⟨D,Up X G hD,hD⟩
theorem KU.t1{c}{rs}(t:KU K mg rs ds tab)(h:c∈rs):Jb4 K mg c:=⟨t.at_ c h⟩
noncomputable def isX(cs:List Str)(tab:Str->Str->Bool)(d:Str)(f:FS->Out Rv):FS->Out Rv:=λfs=>(f fs).bnd λr fs=>match r with|.t (.zT c)=>if cs.contains c=true then okT (.o (tab c d)) fs else .bad|_=>.bad
variable{p:Pos}{cs ds:List Str}{tab:Str->Str->Bool}
theorem ZD(t:KU X.K X.mg cs ds tab)(hm:X.mg "isinstance"=none)(hx:x∈ds)(ha:FE X Z a f)(hg:Gl X "isinstance":=by rfl)(eE:Gl X x:=by rfl)(bh:(x==("__debug__":Str))=false:=by decide)
  (hs:starEach [a,.Name x p2] X.env=(false,eval a X.env)::starEach [.Name x p2] X.env:=by rfl) (bx:starEach [.Name x p2] X.env=[(false,eval (.Name x p2) X.env)]:=by rfl) (aD:(backTo pos (starEach [.Name x p2] X.env)).any (·.1)=false:=by rfl) :
  FE X Z (.Call (.Name "isinstance" p) [a,.Name x p2] [] pos) (isX cs tab x f):=by
 obtain⟨D,h1,h2⟩:=t.yx x hx;refine AY (IE Ig hg hm boot_isinstance (Ds ha (Ds (λae s U H Q I h=>E7 I eE h1 ⟨.ref D,H,I,rfl,h⟩ bh) HL bx) hs) (by decide) (by decide) hs aD) λU H Q ao=>?_
 obtain⟨F,B,fs,ok,s⟩:= ao;refine⟨F,B,fs,ok,AJ s λr aj F1 H1 u l1 av rx s1=>?_⟩;split at s1
 .rename_i c;split at s1
  .rename_i hc;have hc:=by simpa using hc
   obtain⟨b,C,rfl,fb,hb,hC⟩:=rx;exact⟨b,C,.ref D,.ref D,_,rfl,(λu z=>z),hb,(t.k c hc C hC).1,(t.k c hc C hC).2,(t.own c hc x hx C D hC h2).1,s1 F1 H1 _ Le.refl (RR.of av rfl)⟩
  .exact s1.elim
 .exact s1.elim
noncomputable def isV(cs:List Str)(f:FS->Out Rv):FS->Out Rv:=λfs=>(f fs).bnd λr fs=>match r with|.t (.zT c)=>if cs.contains c=true then okT (.o true) fs else .bad|_=>.bad
theorem ZE(t:KU X.K X.mg cs ds tab)(hm:X.mg "isinstance"=none)(fq:X.mg "ValueError"=none)(ha:FE X Z a f)(hg:Gl X "isinstance":=by rfl)(eE:Gl X "ValueError":=by rfl)
  (hs:starEach [a,.Name "ValueError" p2] X.env=(false,eval a X.env)::starEach [.Name "ValueError" p2] X.env:=by rfl) (bx:starEach [.Name "ValueError" p2] X.env=[(false,eval (.Name "ValueError" p2) X.env)]:=by rfl) (aD:(backTo pos (starEach [.Name "ValueError" p2] X.env)).any (·.1)=false:=by rfl) :
  FE X Z (.Call (.Name "isinstance" p) [a,.Name "ValueError" p2] [] pos) (isV cs f):=by
 refine AY (IE Ig hg hm boot_isinstance (Ds ha (Ds (Vi (v:=.ty "ValueError") eE fq PyProof.Rows.Boot.«ValueError» rfl) HL bx) hs) (by decide) (by decide) hs aD) λU H Q ao=>?_
 obtain⟨F,B,fs,ok,s⟩:= ao;refine⟨F,B,fs,ok,AJ s λr aj F1 H1 u l1 av rx s1=>?_⟩;split at s1
 .rename_i c;split at s1
  .rename_i hc;have hc:=by simpa using hc
   obtain⟨b,C,rfl,fb,hb,hC⟩:=rx;exact⟨b,C,.ty "ValueError",.type "ValueError",_,rfl,(λu z=>z),hb,(t.k c hc C hC).1,(t.k c hc C hC).2,t.ve c hc C hC,s1 F1 H1 _ Le.refl (RR.of av rfl)⟩
  .exact s1.elim
 .exact s1.elim
theorem R6{rs}(t:KU X.K X.mg rs ds tab)(hx:x∈ds)(i:Nat)(l:LkD X Z)(hN:X.N.Nodup)
  (hb:∀E' Z',LkD (X.Gb E') Z'->GSs (X.Gb E') Z' body g) (hs:∀a,GSs (X.hand a) Xp.no (cX::bD) h) (hi:X.N[i]?=some n:=by rfl) (hl:X.env.scope.names.lookup n=some .local:=by rfl) (hg:Gl X x:=by rfl) (bh:(x==("__debug__":Str))=false:=by decide) :
  GS0 X Z (.Try body [.ExceptHandler (some (.Name x np)) (some n) (cX::bD) eF] [] [] pos) (Xb i (λc=>rs.contains c&&tab c x) g h):=by
 obtain⟨C,h1,h2⟩:=t.yx x hx;refine V9 (i:=i) _ i l h1 hN (λc C' ho hc=>?_) hb hs hi hl hg bh;rw[tW]at ho;exact(t.own c (by simpa using ho.1) x hx C' C hc h2).2 ho.2
noncomputable def Jao:Rv->List Rv->FS->Out Rv
 |x,[.t (.o true)],fs=>match(Cs fs x).bind Dn with|some bs=>okT (.int ((bs.countP id:Nat):Int)) fs|none=>.bad
 |_,_,_=>.bad
noncomputable def Jal:Rv->List Rv->FS->Out Rv
 |x,[.t (.o true)],fs=>match(Cs fs x).bind Dn with
  |some bs=>match bs.findIdx? id with|some j=>okT (.int ((j:Nat):Int)) fs|none=>.bad
  |none=>.bad
 |_,_,_=>.bad
theorem Rt:MtF K Z (λx vs H Q=>∃(l:Addr)(bs:List Bool),x=.ref l/\vs=[.o true]/\SqL K H l (bs.map V.o)/\Q (.int ((bs.countP id:Nat):Int)) H) Jao:=by
 intro F B H U fs x rs u vs Q ok rx q s;unfold Jao at s;split at s
 .obtain⟨v,rfl,qq⟩:=Bh q;subst(by simpa only[Eh,Bf]using qq);split at s
  next bs e=>rw[tV]at e;obtain⟨ts,e1,e2⟩:=e;obtain⟨a,us,rfl,hs,r⟩:=Bg ok rx e1;rw[EU e2]at r;rw[Al.bls r]at hs;exact⟨a,bs,rfl,rfl,hs,s F H _ Le.refl (RR.of ok rfl)⟩
  .exact s.elim
 .exact s.elim
theorem Rr:MtF K Z (λx vs H Q=>∃(l:Addr)(bs:List Bool)(j:Nat),x=.ref l/\vs=[.o true]/\SqL K H l (bs.map V.o)/\bs[j]?=some true/\(∀m,m<j->bs[m]?=some false)/\Q (.int ((j:Nat):Int)) H) Jal:=by
 intro F B H U fs x rs u vs Q ok rx q s;unfold Jal at s;split at s
 .obtain⟨v,rfl,qq⟩:=Bh q;subst(by simpa only[Eh,Bf]using qq);split at s
  .rename_i bs e;rw[tV]at e;obtain⟨ts,e1,e2⟩:=e;obtain⟨a,us,rfl,hs,r⟩:=Bg ok rx e1;rw[EU e2]at r;rw[Al.bls r]at hs;split at s
   next j ej=>obtain⟨hj,h1,h2⟩:=List.findIdx?_eq_some_iff_getElem.mp ej;refine⟨a,bs,j,rfl,rfl,hs,by rw[sV hj];exact congrArg some h1,λm hm=>?_,s F H _ Le.refl (RR.of ok rfl)⟩;have:=h2 m hm;rw[sV (uD hm hj)];simpa using this
   .exact s.elim
  .exact s.elim
 .exact s.elim
end FL
namespace L2
open PySem PySem.Spec PyProof.Rows
end L2
namespace FL
open PySem PySem.Spec L2
theorem XB(h:spF K p Fn vs H Q E):spX K p Fn vs H Q E':=by obtain⟨h1,F,dk,ok,h⟩:=h;refine⟨h1,F,dk,ok,?_⟩;cases e:Fn dk with|ok r τ=>rwa[e]at h|exc c τ=>rw[e]at h;exact h.elim|bad=>rwa[e]at h
variable{X:Cx}{Z:Xp}{x m a:Str}{k p j:Nat}{ps:List Str}{Fn fo f:FS->Out Rv}{e o v:Expr}{es:List Expr}{fa:FS->Out (List Rv)}{pp pos aw np ax cp fp jp:Pos}{C:Addr}
noncomputable def BH(C:Addr)(m:Str)(p:Nat)(Fn:FS->Out Rv)(fo:FS->Out Rv)(fa:FS->Out (List Rv)):FS->Out Rv:=λfs=>(fo fs).bnd λx fs=>if DT C m fs x=true then(fa fs).bind λrs fs=>Ak p Fn (x::rs) fs else .bad
theorem Zw(G:W6 X.prog X.w X.K X.mg X.base (CX1 X.prog X.w) C m k ps (spX X.K p Fn))(hr:DJ k X.A)(lk:Lks X Z)(ho:FE X Z o fo)(ha:FAn X Z (e::es) fa)
  (bL:starEach (e::es) X.env=(false,eval e X.env)::starEach es X.env:=by rfl) (aD:(backTo pos (starEach es X.env)).any (·.1)=false:=by rfl)
  (ht:eval (.Call (.Attribute o m aw) (e::es) [] pos) X.env=(do
   let ov <- eval o X.env
   standAt aw.atName
   let(f,first) <- holding [ov] (getMethod ov m pl)
   callWith pos f first (backTo pos (starEach (e::es) X.env)) (backToKw pos (keywordEach [] X.env))):=by rfl) :
  FE X Z (.Call (.Attribute o m aw) (e::es) [] pos) (BH C m p Fn fo fa):=by
 refine AY (TJ G hr lk ho ha bL aD ht) λU H Q ao => ?_
 obtain⟨F,B,fs,ok,s⟩:= ao;refine⟨F,B,fs,ok,AJ s λr aj F1 H1 u l av rx s1=>?_⟩;split at s1
 .rename_i hi;obtain⟨a,dx,ah,rfl,hd,hn⟩:=Mn av rx hi;refine⟨a,dx,ah,rfl,hd,hn,F1,B,aj,av,AG s1 λrs aB F2 H2 us l2 q s2=>?_⟩;unfold Ak at s2;split at s2
  next hp=>rw[<- hp];obtain⟨L9,M9,o9,q9,rm,rq⟩:=q;refine GZ ⟨L9,M9,o9,⟨_,us,[],M9,rfl,?_,q9,rfl⟩,rm,rq⟩ s2;have kb:=rx.le l2;cases r with|t t=>exact⟨rfl,kb⟩|nw o=>exact kb.elim|n i=>exact⟨rfl,kb⟩
  .exact s2.elim
 .exact s1.elim
theorem Wt(G:W6 X.prog X.w X.K X.mg X.base (CX1 X.prog X.w) C m k ps (spX X.K p Fn))(hr:DJ k X.A)(ho:FE X Z o fo)
  (h:∀{ta:TE},PE X o ta->PE X (.Call (.Attribute o m aw) [] [] pos) (UC C m (spX X.K p Fn) [] E0 ta Xr)):FE X Z (.Call (.Attribute o m aw) [] [] pos) (Hv C m p Fn fo Ah):=by
 refine AY (h ho) λU H Q ao => ?_
 obtain⟨F,B,fs,ok,s⟩:= ao;refine⟨F,B,fs,ok,AJ s λr aj F1 H1 u l av rx s1=>?_⟩;split at s1
 .rename_i hi;obtain⟨a,dx,ah,rfl,hd,hn⟩:=Mn av rx hi;refine⟨a,dx,ah,rfl,hd,hn,?_⟩;have s2:sat Z B (RR X.K B U) F1 H1 (Qc p Fn [r] aj) Q:=s1;unfold Qc at s2;split at s2
  next hp=>rw[<- hp];obtain⟨L9,o9⟩:=av;refine XB (E:=E0) (S0 ⟨L9,[],o9,⟨_,[],[],[],rfl,?_,⟨rfl,rfl⟩,rfl⟩,by simpa using o9.nd,(λ_ m=>nomatch m)⟩ s2);cases r with|t t=>exact⟨rfl,rx⟩|nw o=>exact rx.elim|n i=>exact⟨rfl,rx⟩
  .exact s2.elim
 .exact s1.elim
theorem Zy(G:Jau X.prog X.w X.K X.mg X.base (CX1 X.prog X.w) x C k ps (spX X.K p Fn))(hr:DJ (k+1) X.A)(ha:FAn X Z (e::es) fa)(hg:Gl X x:=by rfl)(bh:(x==("__debug__":Str))=false:=by decide)
  (he:starEach (e::es) X.env=(false,eval e X.env)::starEach es X.env:=by rfl) (aD:(backTo pos (starEach es X.env)).any (·.1)=false:=by rfl):FE X Z (.Call (.Name x pp) (e::es) [] pos) (Ai (E6 C p Fn) fa):=by
 refine AY (JaU G hr Yk ha hg bh he aD) λU H Q ao => ?_
 obtain⟨F,B,fs,ok,s⟩:= ao;refine⟨F,B,fs,ok,AG s λrs aj F1 H1 us l q s1=>?_⟩;intro a dx h1 h2 h3;rw[ug];exact XB (E:=E0) (Rz q s1 h1 h2 h3)
theorem Zi{a b:Expr}{fa fb:FS->Out Rv}(hu:X.A.units+61<cLine)(ha:FE X Z a fa)(hb:FE X Z b fb):FT X Z (.Compare a [.NotEq] [b] pos) (asB (Ag (Jan true) fa fb)):=Ek (YD true hu) Yr ha hb (DP _)
variable{K:Fg}{B:Nat->Option V}{F F':Wd}{H H':Hp}{U:St}{fs:FS}{i:Nat}{ob:FO}
theorem AK.app:∀{os:List FO}{o:FO}{vs:List V}{v:V}{L1 L2:List Addr},AK K F H os vs L1->A8 K F H o v L2->AK K F H (os++[o]) (vs++[v]) (L1++L2)
 | [],o,vs,v,L1,L2,h,g=>by
  obtain⟨rfl,rfl⟩:=(show vs=[]/\L1=[] by simpa only[AK]using h)
  exact⟨v,[],L2,[],rfl,g,⟨rfl,rfl⟩,by simp⟩
 |x::os,o,vs,v,L1,L2,h,g=>by obtain⟨w,r,M1,M2,rfl,h1,h2,rfl⟩:=h;exact⟨w,r++[v],M1,M2++L2,rfl,h1,AK.app h2 g,by simp⟩
variable{p1 p2 p ap:Pos}
variable{q1 q2:Pos}
noncomputable def Zc:List Rv->FS->Out Rv
 | [x],fs=>match(Cs fs x).bind Dn with|some ns=>okT (.o (ns.any id)) fs|none=>.bad
 |_,_=>.bad
theorem ZY:Dp K Z (λxs H Q=>∃(l:Addr)(bs:List Bool),xs=[.ref l]/\SqL K H l (bs.map V.o)/\Q (.o (bs.any id)) H) Zc:=by
 intro F B H U fs rs vs Q ok q s;unfold Zc at s;split at s
 .obtain⟨v,rfl,qq⟩:=Bh q;split at s
  next ns e=>rw[tV]at e;obtain⟨ts,e1,e2⟩:=e;obtain⟨a,us,rfl,hs,r⟩:=Bg ok qq e1;rw[EU e2]at r;rw[Al.bls r]at hs;exact⟨a,ns,rfl,hs,s F H _ Le.refl (RR.of ok rfl)⟩
  .exact s.elim
 .exact s.elim
variable{a:Expr}{bc:Pos}
theorem ZK(hm:X.mg "any"=none)(ha:FA X Z (e::es) fa)(hc:X.calm=true:=by rfl)(hg:Gl X "any":=by rfl)(he:starEach (e::es) X.env=(false,eval e X.env)::starEach es X.env:=by rfl)(aD:(backTo pos (starEach es X.env)).any (·.1)=false:=by rfl):
  FE X Z (.Call (.Name "any" p) (e::es) [] pos) (Ai Zc fa):=EM ZY (SX hc) hm boot_any ha hg (by decide) (by decide) he aD
variable{v1 v2:Expr}{gs:List (FS->Out Rv)}
variable{ts:List Str}
end FL
namespace FL
open PySem PySem.Spec L2 PyProof.Rows
variable{X:Cx}{Z:Xp}{a b:Expr}{x:Str}{tab:List (Str×List Str)}{fa fb:FS->Out Rv}{p p2 pos:Pos}
end FL
namespace FL
open PySem PySem.Spec L2
variable{K:Fg}{F F':Wd}{H H':Hp}{U:St}
variable{X:Cx}{Z:Xp}{es:List Expr}{g:FS->Out (List Rv)}{pos:Pos}
variable{N:List Str}{sc:Scope}{tg aA dD:Expr}{fi:FS->Out (List T)}{gt:T->FS->Option FS}{fe:FS->Out Rv}
noncomputable def Z3:T->Bool
 |.v=>true
 |.o _=>true
 |.int _=>true
 |.str _=>true
 |_=>false
theorem Bf.atom:∀{t:T}{v:V},Z3 t=true->Bf K F H t v->Bf K F' H t v/\∀b,v≠.ref b
 |.v,_,_,h=>by cases h;exact⟨rfl,λ_=>nofun⟩
 |.o _,_,_,h=>by cases h;exact⟨rfl,λ_=>nofun⟩
 |.int _,_,_,h=>by cases h;exact⟨rfl,λ_=>nofun⟩
 |.str _,_,_,h=>by cases h;exact⟨rfl,λ_=>nofun⟩
 |.tup _,_,e,_=>by cases e
 |.lst _,_,e,_=>by cases e
 |.zU _,_,e,_=>by cases e
 |.l _ _,_,e,_=>by cases e
 |.dT _ _,_,e,_=>by cases e
 |.ins _ _ _,_,e,_=>by cases e
 |.dF _ _,_,e,_=>by cases e
 |.zT _,_,e,_=>by cases e
variable{B:Nat->Option V}
variable{fs:FS}{i:Nat}{L:List Addr}
variable{a b h:Str}{k:Nat}{pa pb tp ph p1 p2 p3 p4 p5 p6 p7 p8:Pos}{kg:List Stmt}{g:FS->SO}
variable{x:Str}{p:Nat}{ps:List Str}{Fn:FS->Out Rv}{e:Expr}{fa:FS->Out (List Rv)}{pp:Pos}{C:Addr}
variable{i0 ir ia j:Nat}{os:List FO}{aa:Int}{κ:T}{rs:List T}{a0 t b:Addr}{vs:List V}{M:List Addr}{sQ:V}
variable{c:Expr}{A A':List Stmt}{st:Stmt}{fc:FS->Out Bool}{f:FS->Out Rv}{h:FS->SO}
variable{a b:Expr}{fa fb:FS->Out Rv}{fl:FS->Out (List Rv)}{p:Pos}
variable{a a2:Str}{v w:Expr}{g:FS->Out Rv}{j2:Nat}{np ax cp fp kQ qg jp:Pos}
variable{a:Expr}
variable{ae:List (Addr×Obj)}{s:Shared}
theorem Lw{f}:∀{ah:List (Str×V)}{os:List FO}{L:List Addr},AK K F H os (ah.map (·.2)) L->A9 (ah.map (·.1)) os f=some o ->
  ∃v L1 A Z,ah.lookup f=some v/\A8 K F H o v L1/\L=A++(L1++Z)/\∀H' o' eS,(∀a∈A++Z,H' a=H a)->Le F H F H'->A8 K F H' o' v eS->AK K F H' (Bw (ah.map (·.1)) os f o') (ah.map (·.2)) (A++(eS++Z))
 | [],os,L,r,e=>by cases os<;>simp[A9]at e
 |(g,x)::ah,os,L,r,e=>by
  cases os with
  |nil=>simp[A9]at e
  |cons o1 os =>
   obtain⟨v,w,L1,L2,ee,r1,r2,rfl⟩:=r;cases ee;simp only[sW,A9]at e;rw[ud];cases hb:f==g with
   |true =>rw[hb]at e;cases e;refine⟨x,L1,[],L2,rfl,r1,rfl,λH' o' eS k l ro=>?_⟩;simp only[sW,Bw,hb,AK];exact⟨x,_,eS,L2,rfl,ro,AK.le l (λa m=>k a (by simpa using m)) r2,rfl⟩
   |false =>
    rw[hb]at e;obtain⟨v,M,A,Z,h1,h2,rfl,h3⟩:=Lw r2 (by simpa using e);refine⟨v,M,L1++A,Z,h1,h2,by simp,λH' o' eS k l ro=>?_⟩;have:=h3 H' o' eS (λa m=>k a (by
     rcases tE.mp m with m|m
     .simp[m]
     .simp[m])) l ro
    simp only[sW,Bw,hb];exact⟨x,_,L1,_,rfl,r1.le l λa m=>k a (by simp[m]),this,by simp⟩
theorem Okk.fld{f}(ok:Okk K F B H fs U)(e:AH fs i=some (.ins C gs os))(ef:A9 gs os f=some o):
  ∃a dx ah v L1,U[i]?=some (some (.ref a))/\H a=some (.ins C dx ah)/\ah.map (·.1)=gs/\ah.lookup f=some v/\A8 K F H o v L1/\a∉L1/\(∀b∈L1,¬F b/\¬F.p b)/\L1.Nodup /\
   ∀o' H',(∀b,b∉L1->H b≠none->H' b=H b)->A8 K F H' o' v L1->Okk K F B H' (putAt fs i (.ins C gs (Bw gs os f o'))) U/\Le F H F H':=by
 obtain⟨v,L2,a1,a2,a3,a4,a5⟩:=ok.own e;have d2:=A8.def a2;obtain⟨a,dx,ah,L3,rfl,hd,rfl,ro,rfl⟩:=a2;obtain⟨v,L1,A,Z,e1,r1,rfl,bk⟩:=Lw ro ef;have nd:=tN.mp a4;have i4:=sT.mp nd.2;have j4:=sT.mp i4.2.1;have m1:∀b∈L1,b∈a::(A++(L1++Z)):=λb m=>by simp[m]
 refine⟨a,dx,ah,v,L1,a1,hd,rfl,e1,r1,λm=>nd.1 (by simp[m]),λb m=>a3 b (m1 b m),j4.1,λo' H' k jg=>?_⟩;have q:=bk H' o' L1 (λb m=>k b (λm1=>by
   rcases tE.mp m with m|m
   .exact i4.2.2 b m b (tH _ m1) rfl
   .exact j4.2.2 b m1 b m rfl) (d2 b (by
   rcases tE.mp m with m|m
   .simp[m]
   .simp[m]))) (by
  obtain⟨L,o9⟩:=ok;exact⟨λb f=>⟨f,k b (λm=>(a3 b (m1 b m)).1 f) (o9.fd b f)⟩,λb f=>⟨f,k b (λm=>(a3 b (m1 b m)).2 f) (o9.pd b f)⟩⟩) jg
 exact a5 _ H' (λb hb hn=>k b (λm=>hb (m1 b m)) hn) (by exact⟨a,dx,ah,_,rfl,by rw[k a (λm=>nd.1 (by simp[m])) (d2 a (by simp))];exact hd,rfl,q,rfl⟩)
variable{f:Str}{aw:Pos}
noncomputable def Hl(C:Addr)(f:Str)(i:Nat):FS->Out Rv:=λfs=>match AH fs i with|some (.ins C' gs os)=>if C'=C then(match A9 gs os f with|some (.la p ts)=>(match ts.getLast? with|some t=>.ok (.t t) (putAt fs i (.ins C gs (Bw gs os f (.la p ts.dropLast))))|none=>.bad)|_=>.bad)else .bad|_=>.bad
theorem Ss(c:Cls X.K C)(n:A2 X.K C f)(i:Nat)(hx:PE X (.Name x p1) (Jz i))(fU:attributeBase (.Name x p1) f X.env (eval (.Name x p1) X.env)=eval (.Name x p1) X.env:=by rfl)
  (aO:attributeBase (.Attribute (.Name x p1) f p2) "pop" X.env (eval (.Attribute (.Name x p1) f p2) X.env)=eval (.Attribute (.Name x p1) f p2) X.env:=by rfl) (aP:(aw.endLine==ax.line)=true:=by rfl) :
  FE X Z (.Call (.Attribute (.Attribute (.Name x p1) f p2) "pop" aw) [] [] ax) (Hl C f i):=by
 refine AY (Yi plainAttrs_list PySem.F.slot_list_pop PySem.F.type_list_pop VF (Fp (f:=f) hx fU) aO aP) λU H Q ao=>?_
 obtain⟨F,B,fs,ok,s⟩:= ao;unfold Hl at s;split at s
 .rename_i C' gs os eo;split at s
  .rename_i hC;subst hC;split at s
   .rename_i p ts ef;split at s
    .rename_i t et;obtain⟨a,dx,ah,v,L1,a1,hd,rfl,e1,r1,na,nf,_,bk⟩:=ok.fld eo ef;obtain⟨vs,rfl,hp,rt,rfl⟩:=r1;obtain⟨z,ez,rz,rd⟩:=Al.last rt et;obtain⟨bS,l'⟩:=bk (.la p ts.dropLast) (upd H p (.lst vs.dropLast)) (λb hb _=>Ap λq=>hb (by simp[q])) (by
      simp only[A8];have l2:Le F H F (upd H p (.lst vs.dropLast)):=⟨λb f=>⟨f,Ap λq=>(nf p (by simp)).1 (q▸f)⟩,λb f=>⟨f,Ap λq=>(nf p (by simp)).2 (q▸f)⟩⟩
      exact⟨_,trivial,As,rd.le l2,trivial⟩)
     exact⟨_,a1,a,C',dx,ah,.ref p,rfl,hd,c,n,e1,.inl ⟨rfl,vs,SqL.of hp⟩,p,_,z,rfl,rfl,(by rwa[<- ez]),s F _ z l' (RR.of bS (rz.le l'))⟩
    .exact s.elim
   .exact s.elim
  .exact s.elim
 .exact s.elim
noncomputable def DI(C:Addr)(f:Str)(i:Nat)(fe:FS->Out Rv):FS->Out Rv:=λfs=>match AH fs i with
 |some (.ins C' gs os)=>if C'=C then(match A9 gs os f with
  |some (.la p _)=>(fe fs).bnd λr aj=>(match r,AH aj i with|.t t,some (.ins C2 jt kH)=>if C2=C then(match A9 jt kH f with|some (.la p2 dq)=>if p2=p/\dq.length<big then .ok (.t .v) (putAt aj i (.ins C jt (Bw jt kH f (.la p (dq++[t])))))else .bad|_=>.bad)else .bad|_,_=>.bad)
  |_=>.bad)else .bad
 |_=>.bad
theorem Sz(c:Cls X.K C)(n:A2 X.K C f)(i:Nat)(hx:PE X (.Name x p1) (Jz i))(he:FE X Z e fe)(fU:attributeBase (.Name x p1) f X.env (eval (.Name x p1) X.env)=eval (.Name x p1) X.env:=by rfl)
  (aO:attributeBase (.Attribute (.Name x p1) f p2) "append" X.env (eval (.Attribute (.Name x p1) f p2) X.env)=eval (.Attribute (.Name x p1) f p2) X.env:=by rfl)
  (eC:((backTo ax (starEach [e] X.env)).all (λx=>!x.1)&&(backToKw ax (keywordEach [] X.env)).all (λx=>x.1.isSome)
  &&decide (([e]:List Expr).length+([]:List Keyword).length+(if([]:List Keyword).isEmpty then 0 else 1)<30))=true:=by rfl)
  (aP:(aw.endLine==ax.line)=true:=by rfl) (hs:starEach [e] X.env=(false,eval e X.env)::starEach [] X.env:=by rfl) :
  FE X Z (.Call (.Attribute (.Attribute (.Name x p1) f p2) "append" aw) [e] [] ax) (DI C f i fe):=by
 refine AY (Vh plainAttrs_list PySem.F.slot_list_append PySem.F.type_list_append Gq (Fp (f:=f) hx fU) (Ds he HL hs) aO eC aP hs) λU H Q ao=>?_
 obtain⟨F,B,fs,ok,s⟩:= ao;unfold DI at s;split at s
 .rename_i C' gs os eo;split at s
  .rename_i hC;subst hC;split at s
   .rename_i p ts ef;obtain⟨a,dx,ah,v,L1,a1,hd,rfl,e1,r1,_⟩:=ok.fld eo ef;obtain⟨vs,rfl,hp,rt,rfl⟩:=r1;refine⟨_,a1,a,C',dx,ah,.ref p,rfl,hd,c,n,e1,.inl ⟨rfl,vs,SqL.of hp⟩,F,B,fs,ok,AJ s λr aj F1 H1 u l av rx s1=>?_⟩;split at s1
    .rename_i t C2 jt kH qe;split at s1
     .rename_i qk;subst qk;split at s1
      .rename_i p2 dq qb;split at s1
       .rename_i aD;obtain⟨rfl,hl⟩:=aD;obtain⟨a',i9,jX,v',eS,sk,dM,rfl,ib,rJ,na,nf,_,bk⟩:=av.fld qe qb;obtain⟨eQ,rfl,qP,nO,rfl⟩:=rJ;obtain⟨bS,l'⟩:=bk (.la p2 (dq++[t])) (upd H1 p2 (.lst (eQ++[u]))) (λb hb _=>Ap λq=>hb (by simp[q])) (by
         have l2:Le F1 H1 F1 (upd H1 p2 (.lst (eQ++[u]))):=⟨λb f=>⟨f,Ap λq=>(nf p2 (by simp)).1 (q▸f)⟩,λb f=>⟨f,Ap λq=>(nf p2 (by simp)).2 (q▸f)⟩⟩
         simp only[A8];exact⟨_,trivial,As,(nO.le l2).app (Al.one (Bf.le l2 rx)),trivial⟩)
        exact⟨p2,eQ,u,rfl,rfl,qP,by rw[nO.len];exact uD hl Fw,s1 F1 _ .v l' (RR.of bS rfl)⟩
       .exact s1.elim
      .exact s1.elim
     .exact s1.elim
    .exact s1.elim
   .exact s.elim
  .exact s.elim
 .exact s.elim
noncomputable def MR(C:Addr)(f:Str)(i:Nat):FS->Out Bool:=λfs=>match AH fs i with|some (.ins C' gs os)=>if C'=C then(match A9 gs os f with|some (.la _ ts)=>.ok (!ts.isEmpty) fs|_=>.bad)else .bad|_=>.bad
theorem Sj(c:Cls X.K C)(n:A2 X.K C f)(i:Nat)(hx:PE X (.Name x p1) (Jz i))(fU:attributeBase (.Name x p1) f X.env (eval (.Name x p1) X.env)=eval (.Name x p1) X.env:=by rfl)
  (he:∀aW,isTrue (.Attribute (.Name x p1) f p2) X.env aW=(do let v <- aW;standAt (Expr.Attribute (.Name x p1) f p2).pos;holding [v] (truthy v))):FT X Z (.Attribute (.Name x p1) f p2) (MR C f i):=by
 refine JJ (LX (Fp hx fU) he) λU H Q ao=>?_
 obtain⟨F,B,fs,ok,s⟩:= ao;unfold MR at s;split at s
 .rename_i C' gs os eo;split at s
  .rename_i hC;subst hC;split at s
   next p ts ef=>obtain⟨a,dx,ah,v,L1,a1,hd,rfl,e1,r1,_⟩:=ok.fld eo ef;obtain⟨vs,rfl,hp,rt,rfl⟩:=r1;refine⟨_,a1,a,C',dx,ah,.ref p,rfl,hd,c,n,e1,_,?_,s F H _ Le.refl ⟨ok,rfl⟩⟩;have lG:=rt.len;refine .inl ⟨vs,SqL.of hp,?_⟩;cases vs<;>cases ts<;>simp_all
   .exact s.elim
  .exact s.elim
 .exact s.elim
noncomputable def RG(C:Addr)(f:Str)(i:Nat):FS->Out Rv:=λfs=>match AH fs i with|some (.ins C' gs os)=>if C'=C then(match A9 gs os f with|some (.la _ (t::_))=>okT t fs|_=>.bad)else .bad|_=>.bad
theorem Su(c:Cls X.K C)(n:A2 X.K C f)(i:Nat)(hx:PE X (.Name x p1) (Jz i))(hs:Jn (.Constant (.int 0) j ax))(fU:attributeBase (.Name x p1) f X.env (eval (.Name x p1) X.env)=eval (.Name x p1) X.env:=by rfl):
  FE X Z (.Subscript (.Attribute (.Name x p1) f p2) (.Constant (.int 0) j ax) pos) (RG C f i):=by
 refine AY (Yg O1 (Fp hx fU) L5 hs) λU H Q ao=>?_
 obtain⟨F,B,fs,ok,s⟩:= ao;unfold RG at s;split at s
 .rename_i C' gs os eo;split at s
  .rename_i hC;subst hC;split at s
   next p t ts ef=>obtain⟨a,dx,ah,v,L1,a1,hd,rfl,e1,r1,_⟩:=ok.fld eo ef;obtain⟨vs,rfl,hp,⟨w,r,rfl,dI,_⟩,rfl⟩:=r1;exact⟨_,a1,a,C',dx,ah,.ref p,rfl,hd,c,n,e1,p,w::r,0,w,rfl,rfl,SqL.of hp,DA rfl,s F H w Le.refl (RR.of ok dI)⟩
   .exact s.elim
  .exact s.elim
 .exact s.elim
noncomputable def N0(C:Addr)(f:Str)(i:Nat)(k:Int):FS->SO:=λfs=>match AH fs i with|some (.ins C' gs os)=>if C'=C/\gs.length<900 then(match A9 gs os f with|some (.val (.int n))=>(match C7 gs os f (.val (.int (n-k)))with|some p=>.nx (putAt fs i (.ins C p.1 p.2))|none=>.bad)|_=>.bad)else .bad|_=>.bad
theorem RW(c:Cls X.K C)(n:A2 X.K C f)(i:Nat)(hx:PE X (.Name x p1) (Jz i)):
  GS X Z (.AugAssign (.Attribute (.Name x p1) f p2) .Sub (.Constant (.int k) j ax) pos) (N0 C f i k):=by
 refine Ct (Og hx L5 YX) λD U H ao=>?_
 obtain⟨F,B,fs,ok,s⟩:= ao;unfold N0 at s;split at s
 .rename_i C' gs os eo;split at s
  .rename_i hC;obtain⟨rfl,hl⟩:=hC;split at s
   .rename_i m ef;split at s
    .rename_i p ep;obtain⟨a0,jn,gZ,v0,si,b1,bd,bk,be,br,_⟩:=ok.fld eo ef;obtain⟨v,L2,L',a1,a2,a3,a4,a5,a6⟩:=RR.put (r:=.t (.int (m-k))) (RR.of ok rfl) eo;obtain⟨a,dx,ah,L3,rfl,hd,rfl,ro,rfl⟩:=a2;rw[a1]at b1;cases b1;rw[hd]at bd;cases bd;obtain⟨rfl,rfl⟩:=br;have e0:=a3.1;subst e0;have mi:A8 X.K F H (.val (.int (m-k))) (.int (m-k)) []:=by simp only[A8,Bf];exact⟨trivial,trivial⟩
     obtain⟨M,m1,m2,m3,m4⟩:=Gh mi ro (by rw[ep]);have jZ:a0∉M:=λz=>((tN.mp a4).1) (by
      rcases m3 a0 z with z|z
      .exact tH _ z
      .exact tB _ z)
     have l1:Le F H F (upd H a0 (.ins C' jn (E3 f (.int (m-k)) gZ))):=⟨λb f=>⟨f,Ap λz=>(a5 a0 (by simp)).1 (z▸f)⟩,λb f=>⟨f,Ap λz=>(a5 a0 (by simp)).2 (z▸f)⟩⟩
     obtain⟨bS,l'⟩:=a6 (.ins C' p.1 p.2) (upd H a0 (.ins C' jn (E3 f (.int (m-k)) gZ))) (a0::M) (λb hb _=>Ap λz=>hb (by rw[z];simp)) (by
      exact⟨a0,jn,_,M,rfl,As,m1,AK.le l1 (λb hb=>Ap λz=>jZ (z▸hb)) m2,rfl⟩) (tN.mpr ⟨jZ,m4 ((tN.mp a4).2)⟩) (λb hb=>by
      rcases tm.mp hb with z|z
      .exact .inl (by rw[z];simp)
      .rcases m3 b z with z|z
       .exact .inl (sZ _ z)
       .exact .inr z)
     exact⟨_,a1,a0,C',jn,gZ,.int m,rfl,hd,c,n,be,m,k,rfl,rfl,jn,gZ,hd,by rw[sU]at hl;lia,s F _ U l' bS⟩
    .exact s.elim
   .exact s.elim
  .exact s.elim
 .exact s.elim
noncomputable def Z5:FO->Option (List Key×List FO)
 |.l [] []=>some ([],[])
 |.dO ks os=>some (ks,os)
 |_=>none
theorem Tc{v}(e:Z5 o=some (ks,os))(r:A8 K F H o v L):
  ∃a ah L',v=.ref a/\H a=some (.l ah)/\ah.map (·.1)=ks/\AK K F H os (ah.map (·.2)) L'/\L=a::L':=by
 unfold Z5 at e;split at e
 .cases e;obtain⟨a,ah,rfl,hd,hk,_,rfl⟩:=r;have:=by simpa using hk
  subst this;exact⟨a,[],[],rfl,hd,rfl,⟨rfl,rfl⟩,rfl⟩
 .cases e;exact r
 .cases e
noncomputable def LD(C:Addr)(f:Str)(i jy:Nat):FS->SO:=λfs=>match AH fs i,fs[jy]? with|some (.ins C' gs os),some (some (.val y))=>if C'=C then(match A9 gs os f,HD y with|some o,some k=>(match Z5 o with|some (ks,ds)=>if ks.length<big/\(ks.any λq=>decide (q=k))=false then .nx (putAt fs i (.ins C gs (Bw gs os f (.dO (ks++[k]) (ds++[.l [] []])))))else .bad|none=>.bad)|_,_=>.bad)else .bad|_,_=>.bad
theorem QZ{v}{k:Key}(h:k∉ah.map (·.1)):putK ah k v=ah++[(k,v)]:=by unfold putK;rw[if_neg];intro z;obtain⟨q,hq,e⟩:=vd.mp z;exact h (t8.mpr ⟨q,hq,tX e⟩)
theorem R3(hu:X.A.units+1<cLine)(c:Cls X.K C)(n:A2 X.K C f)(i jy:Nat)(hx:PE X (.Name x p1) (Jz i))(hy:PE X (.Name y p3) (Jz jy))(fU:attributeBase (.Name x p1) f X.env (eval (.Name x p1) X.env)=eval (.Name x p1) X.env:=by rfl)
  (hs:swapsWith (.Dict [] [] p5) (some (.Subscript (.Attribute (.Name x p1) f p2) (.Name y p3) p4)) pos.line X.env=pure false:=by rfl) :
  GS X Z (.Assign [.Subscript (.Attribute (.Name x p1) f p2) (.Name y p3) p4] (.Dict [] [] p5) pos) (LD C f i jy):=by
 refine Ct (K6 hu (Fp hx fU) hy L7 hs) λD U H ao=>?_
 obtain⟨F,B,fs,ok,s⟩:= ao;unfold LD at s;split at s
 .rename_i C' gs os y' eo ey;split at s
  .rename_i hC;subst hC;split at s
   .rename_i o k ef ek;split at s
    .rename_i ks ds ed;split at s
     .rename_i hk;intro p hp;have q:RR X.K B U F (upd H p (.l [])) fs (.nw (.l [] [])) (.ref p):=RR.alloc ok hp (by exact⟨p,[],rfl,As,rfl,rfl,rfl⟩);obtain⟨v,L2,L',a1,a2,a3,a4,a5,a6⟩:=RR.put q eo;obtain⟨a,dx,ah,L3,rfl,hd,rfl,ro,rfl⟩:=a2;obtain⟨v1,M1,A,Zz,e1,r1,rfl,bk⟩:=Lw ro ef;obtain⟨b,aG,M2,rfl,bh,rfl,mj,rfl⟩:=Tc ed r1;have eL:L'=[p]:=by have a3:A8 X.K F (upd H p (.l [])) (.l [] []) (.ref p) L':=a3;obtain⟨_,_,z,_,_,_,rfl⟩:=a3;cases z;rfl
      subst eL;obtain⟨L9,o9⟩:=id q.ok;obtain⟨w,N1,N2,N3,e6,_,h1,_⟩:=o9.sl.pick ey;obtain⟨uy,rfl,ry,_⟩:=h1;have:=D7 ek ry;subst this;have nb:=a5 b (by simp);have mb:b∈a::(A++((b::M2)++Zz)):=by simp
      have iB:=sT.mp a4;have dg:=tN.mp iB.1;have i4:=sT.mp dg.2;have j4:=sT.mp i4.2.1;have l1:Le F (upd H p (.l [])) F (upd (upd H p (.l [])) b (.l (aG++[(k,.ref p)]))):=⟨λz f=>⟨f,Ap λq=>nb.1 (q▸f)⟩,λz f=>⟨f,Ap λq=>nb.2 (q▸f)⟩⟩
      have rK:A8 X.K F (upd (upd H p (.l [])) b (.l (aG++[(k,.ref p)]))) (.dO (aG.map (·.1)++[k]) (ds++[.l [] []])) (.ref b) (b::(M2++[p])):=by refine⟨b,aG++[(k,.ref p)],M2++[p],rfl,As,by simp,?_,rfl⟩;rw[tL];refine AK.app (AK.le l1 (λz m=>Ap λq=>(tN.mp j4.1).1 (q▸m)) mj) ?_;exact⟨p,[],rfl,by rw[Ap (λz=>iB.2.2 b mb p (by simp) z.symm)];exact As,rfl,rfl,rfl⟩
      obtain⟨bS,l'⟩:=a6 (.ins C' (ah.map (·.1)) (Bw (ah.map (·.1)) os f (.dO (aG.map (·.1)++[k]) (ds++[.l [] []])))) (upd (upd H p (.l [])) b (.l (aG++[(k,.ref p)]))) (a::(A++((b::(M2++[p]))++Zz))) (λz hz _=>Ap λq=>hz (by rwa[q])) (by
       exact⟨a,dx,ah,_,rfl,by rw[Ap (λz=>dg.1 (by rw[z];simp))];exact hd,rfl,(bk (upd (upd H p (.l [])) b (.l (aG++[(k,.ref p)]))) _ _ (λz m=>Ap λq=>by
       subst q;rcases tE.mp m with m|m
       .exact i4.2.2 z m z (by simp) rfl
       .exact j4.2.2 z (by simp) z m rfl) l1 rK),rfl⟩) (by
       have pm:(a::(A++((b::(M2++[p]))++Zz))).Perm ((a::(A++((b::M2)++Zz)))++[p]):=by simp only[uL,t9];refine List.Perm.cons _ (List.Perm.append_left _ (List.Perm.cons _ (List.Perm.append_left _ ?_)));exact(List.perm_append_comm (l₁:=[p]))
       exact pm.nodup_iff.mpr a4) (λz hz=>by
       simp only[tm,tE,uL,or_false]at hz ⊢;rcases hz with h|h|h|(h|h)|h
       .exact .inl (.inl h)
       .exact .inl (.inr (.inl h))
       .exact .inl (.inr (.inr (.inl h)))
       .exact .inl (.inr (.inr (.inr (.inl h))))
       .exact .inr h
       .exact .inl (.inr (.inr (.inr (.inr h)))))
      refine⟨_,a1,a,C',dx,ah,.ref b,rfl,hd,c,n,e1,kV k,e6,b,_,rfl,NK.k bh (by have:=hk.1;rw[sU]at this;exact uD this Fw),?_⟩;rw[QZ (λm=>by have:=List.any_eq_false.mp hk.2 k m;simp at this)];exact s F _ U ((AZ ok hp).trans l') bS
     .exact s.elim
    .exact s.elim
   .exact s.elim
  .exact s.elim
 .exact s.elim
noncomputable def itI(f:FS->Out Rv):FS->Out (List T):=λfs=>(f fs).bnd λr fs=>match r with|.t (.dF ks ts)=>.ok (pairs (ks.map VT) ts) fs|_=>.bad
noncomputable def Ja9(f:FS->Out Rv):FS->Out (List T):=λfs=>(f fs).bnd λr fs=>match r with|.t (.tup ts)=>.ok ts.reverse fs|_=>.bad
noncomputable def fzW(f:FS->Out Rv):FS->Out Rv:=λfs=>(f fs).bnd λr fs=>match r with|.n i=>(match fs[i]? with|some (some (.own (.l ks ts)))=>.ok (.t (.dF ks ts)) (fs.set i (some (.val (.dF ks ts))))|_=>.bad)|.t t=>.ok (.t t) fs|.nw _=>.bad
noncomputable def SK(k1 k2:Str)(i j:Nat):FS->Out Rv:=λfs=>match fs[i]?,fs[j]? with|some (some (.val t)),some (some (.val t'))=>.ok (.nw (.l [.inr k1,.inr k2] [t,t'])) fs|_,_=>.bad
noncomputable def Ny(fa:FS->Out (List Rv)):FS->Out Rv:=λfs=>(fa fs).bind λrs fs=>match rs with| [.t x,.t y]=>(match QQ x,QQ y with|some xs,some ys=>(match Hj xs with|some ks=>if ks.Nodup/\ks.length=ys.length then .ok (.nw (.l ks ys)) fs else .bad|none=>.bad)|_,_=>.bad)|_=>.bad
noncomputable def Wa:Rv->Rv->FS->Out Rv:=gI λi j fs=>if 0<=j/\j<=1000000/\i.natAbs<2^64 then okT (.int (i*2^j.toNat)) fs else .bad
noncomputable def Pj:Rv->Rv->FS->Out Rv
 |.t (.tup [t]),.t (.int i),fs=>if i=1 then okT (.tup [t]) fs else if i=2 then okT (.tup [t,t]) fs else .bad
 |_,_,_=>.bad
noncomputable def maxD(d:Int)(fa:FS->Out (List Rv)):FS->Out Rv:=λfs=>(fa fs).bind λrs fs=>match rs with| [x]=>(match(Cs fs x).bind BW with|some ns=>okT (.int (mxD d ns)) fs|none=>.bad)|_=>.bad
noncomputable def TZ(x:T):List T->Option Bool
 | []=>some false
 |y::ys=>(eqT 9 y x).bind λb=>(TZ x ys).map (b||·)
noncomputable def Kc:Rv->Rv->FS->Out Rv:=λx y fs=>match x with|.t x=>(match(Cs fs y).bind (TZ x)with|some b=>okT (.o !b) fs|none=>.bad)|_=>.bad
noncomputable def Nk:Rv->Rv->FS->Out Rv:=λx y fs=>match K3 x,K3 y with|some xs,some ys=>(match Js (eqT 180) xs ys with|some b=>okT (.o (b&&xs.length==ys.length)) fs|none=>.bad)|_,_=>.bad
noncomputable def C4(fs:FS):FS:=fs.map λs=>match s with|some (.val t)=>some (.val t)|_=>none
noncomputable def ID(j:Nat)(f:FS->Out Rv):FS->Out Rv:=λfs=>match AH fs j with|some o=>(match f ((C4 fs).set j (some (.val (toT o))))with|.ok (.t t) _=>if Z3 t=true then .ok (.t t) fs else .bad|_=>.bad)|none=>.bad
noncomputable def Io:List Key->List FO->Key->Option FO
 |k::ks,o::os,j=>if k=j then some o else Io ks os j
 |_,_,_=>none
noncomputable def Iv:List Key->List FO->Key->FO->List FO
 |k::ks,o::os,j,x=>if k=j then x::os else o::Iv ks os j x
 |_,os,_,_=>os
noncomputable def dput2(C:Addr)(f:Str)(i jy jz:Nat)(fv:FS->Out Rv):FS->SO:=λfs=>SO.of (fv fs) λr fs=>match r,AH fs i,fs[jy]?,fs[jz]? with|.t t,some (.ins C' gs os),some (some (.val y)),some (some (.val z))=>if C'=C then(match A9 gs os f,HD y,HD z with|some (.dO ks ds),some k,some k2=>(match Io ks ds k with|some (.l eX dq)=>if eX.length<big then .nx (putAt fs i (.ins C gs (Bw gs os f (.dO ks (Iv ks ds k (.l (E2 eX dq k2 t).1 (E2 eX dq k2 t).2))))))else .bad|_=>.bad)|_,_,_=>.bad)else .bad|_,_,_,_=>.bad
noncomputable def Mg(A:Nat->Addr):Nat->List FO->List FO
 |_,[]=>[]
 |i,.lst ts::os=>.la (A i) ts::Mg A (i+1) os
 |i,o::os=>o::Mg A (i+1) os
open Classical in
noncomputable def newMeth(C:Addr)(m:Str)(p:Nat)(Fn:FS->Out Rv)(fo:FS->Out Rv)(fa:FS->Out (List Rv)):FS->Out Rv:=λfs=>(fo fs).bind λr fs=>match r with
 |.nw (.ins C' gs os)=>if C'=C/\gs.any (·==m)=false then(fa fs).bind λrs fs =>if ∀A,Ak p Fn (.nw (.ins C gs (Mg A 0 os))::rs) fs=Ak p Fn (.nw (.ins C gs (Mg (λi=>i) 0 os))::rs) fs then Ak p Fn (.nw (.ins C gs (Mg (λi=>i) 0 os))::rs) fs else .bad
  else .bad
 |_=>.bad
end FL
namespace L2
open PySem PySem.Spec
def JaG(td:TE):TE:=λU H Q=>td U H λx H1=>Q x H1\/∃a ah,x=.ref a/\H1 a=some (.l ah)/\∀o,Q (.ref a) (upd H1 a (.frz o (.l ah)))
theorem Vc(h:PE X e td):PE X e (JaG td):=by
 intro ae s U H Q I q;refine thn (h ae s U H _ I q) λv s1 ao=>?_
 obtain⟨x,H1,I1,r1,q⟩:= ao;rcases q with q|⟨a,ah,ex,hq,q⟩
 .exact⟨x,H1,I1,r1,q⟩
 .subst ex;cases r1;obtain⟨o,I2⟩:=I1.freeze hq;exact⟨.ref a,_,I2,rfl,q o⟩
end L2
namespace FL
open PySem PySem.Spec L2
variable{X:Cx}{Z:Xp}{tg l o a b e:Expr}{f fa fb:FS->Out Rv}{g:FS->Out (List Rv)}{p1 p2 pos fE bf aw ax cg kp cp:Pos}{fj:List Expr}{k0 j:Nat}{d:Int}
theorem Sq(ho:FE X Z o f)(aO:attributeBase o "items" X.env (eval o X.env)=eval o X.env:=by rfl)(aP:(aw.endLine==ax.line)=true:=by rfl):
  FI X Z (.Tuple fj k0 cg) (.Call (.Attribute o "items" aw) [] [] ax) (itI f):=by
 refine JP (Ra ho aO aP) λU H Q ao => ?_
 obtain⟨F,B,fs,ok,s⟩:= ao;refine⟨F,B,fs,ok,AJ s λr aj F1 H1 u l av rx s1=>?_⟩;split at s1
 .rename_i ks ts;obtain⟨a,ah,rfl,ff,⟨ob,hd⟩,rfl,r⟩:=rx;refine⟨a,ob,ah,rfl,hd,s1 F1 H1 _ Le.refl ⟨av,λF' H' l ⟨B2,aB,gv,aR⟩ i=>?_⟩⟩;have dM:=(l a ff).2.trans hd;have hl:=r.len;rw[sU]at hl;refine⟨λt et=>?_,λb0=>⟨dM,?_⟩⟩
  .obtain⟨x,y,ex,ey,rfl⟩:=pairs_at et;rw[t7,tq]at ex;obtain⟨k,ek,rfl⟩:=ex;obtain⟨v,ev,rv⟩:=(Al.lf l r).at ey;rw[t7,tq]at ek ev;obtain⟨q,eq,rfl⟩:=ek;obtain⟨q2,eq2,rfl⟩:=ev;rw[eq]at eq2;cases eq2;refine⟨⟨dM,(tu.mp eq).1⟩,λx gx hy=>?_⟩;obtain⟨T,k',v',hn,rfl,rfl,e3⟩:=hy;rw[eq]at e3;cases e3;refine⟨Qo F' T,⟨A3 aR hn,λB fs U k=>k.alloc hn⟩,?_⟩;refine⟨T,_,rfl,⟨rfl,.inr rfl,As⟩,_,_,rfl,?_,_,_,rfl,rv.le (A3 aR hn),rfl⟩;cases k'<;>rfl
  .rcases pairs_len b0 with h|h
   .simpa using h
   .lia
 .exact s1.elim
theorem Wq(fq:X.mg "reversed"=none)(hl:FE X Z l f)(eE:Gl X "reversed":=by rfl)(gR:starEach [l] X.env=[(false,eval l X.env)]:=by rfl):
  FI X Z tg (.Call (.Name "reversed" p2) [l] [] bf) (Ja9 f):=by
 refine JP (U6 fq hl eE gR) λU H Q ao => ?_
 obtain⟨F,B,fs,ok,s⟩:= ao;refine⟨F,B,fs,ok,AJ s λr aj F1 H1 u l av rx s1=>?_⟩;split at s1
 .rename_i ts;obtain⟨a,vs,rfl,hs,r⟩:=rx;refine⟨a,vs,rfl,hs.sq,s1 F1 H1 _ Le.refl ⟨av,λF' H' l _ i=>?_⟩⟩;have aZ:SqT X.K H' a vs:=SqT.of ((l a hs.2.1).2.trans hs.2.2);have hl:=r.len;refine⟨λt et=>?_,λb0=>by show vs.length<=i;rwa[hl,<- uU]⟩;have hi:=by have:=(tu.mp et).1;simpa using this
  rw[List.getElem?_reverse hi]at et;obtain⟨v,ev,rv⟩:=(Al.lf l r).at et;rw[<- hl]at ev;refine⟨⟨by lia,vs,v,aZ,ev⟩,λx gx hy=>stays hy.1 ?_⟩;have:=hy.2 vs aZ;rw[ev]at this;cases this;exact rv
 .exact s1.elim
theorem ZF(h:FE X Z e f):FE X Z e (fzW f):=by
 refine AY (Vc h) λU H Q ao => ?_
 obtain⟨F,B,fs,ok,s⟩:= ao;refine⟨F,B,fs,ok,AJ s λr aj F1 H1 u l av rx s1=>?_⟩;split at s1
 .rename_i i;split at s1
  next ks ts es=>obtain⟨a,ah,rfl,hd,rfl,k⟩:=av.frzF rx es;refine .inr ⟨a,ah,rfl,hd,λo=>?_⟩;obtain⟨l2,aR,r2⟩:=k o;exact s1 _ _ (.ref a) l2 (RR.of aR r2)
  .exact s1.elim
 .exact .inl (s1 F1 H1 u Le.refl (RR.of av rx))
 .exact s1.elim
theorem Oc{ks:List Key}(r:Al K F H ys vs)(h:ks.length=ys.length):(ks.zip vs).map (·.1)=ks/\(ks.zip vs).map (·.2)=vs:=by have hl:=r.len;exact⟨List.map_fst_zip (by lia),List.map_snd_zip (by lia)⟩
theorem Nr(hc:X.calm=true)(iP:X.mg "dict"=none)(fq:X.mg "zip"=none)(ha:FA X Z [a,b] g)(iO:Gl X "dict":=by rfl)(eE:Gl X "zip":=by rfl)
  (he:starEach [(.Call (.Name "zip" p2) [a,b] [] bf:Expr)] X.env=[(false,eval (.Call (.Name "zip" p2) [a,b] [] bf) X.env)]:=by rfl) (hs:starEach [a,b] X.env=[(false,eval a X.env),(false,eval b X.env)]:=by rfl) (bx:starEach [b] X.env=[(false,eval b X.env)]:=by rfl) :
  FE X Z (.Call (.Name "dict" p1) [.Call (.Name "zip" p2) [a,b] [] bf] [] fE) (Ny g):=by
 refine AY (M0 hc iP fq ha iO eE he hs bx) λU H Q ao => ?_
 obtain⟨F,B,fs,ok,s⟩:= ao;refine⟨F,B,fs,ok,AG s λrs aj F1 H1 us l q s1=>?_⟩;split at s1
 .rename_i x y;split at s1
  .rename_i xs ys e1 e2;split at s1
   .rename_i ks ek;split at s1
    next hk=>obtain⟨av,u,w,rfl,rx,u2,w2,rfl,ry,rfl⟩:=q;obtain⟨b1,a1,vs,rfl,q1,h1⟩:=Iw rx e1;obtain⟨b2,a2,ws,rfl,q2,h2⟩:=Iw ry e2;have ev:=ED ek q1;subst ev;obtain⟨z1,z2⟩:=Oc q2 hk.2;refine⟨b1,a1,b2,a2,ks,ws,rfl,h1 F1 H1 λ_ f=>⟨f,rfl⟩,h2 F1 H1 λ_ f=>⟨f,rfl⟩,hk.1,by rw[q2.len];exact hk.2,λd hd=>?_⟩;refine s1 F1 _ (.ref d) (AZ av hd) (RR.alloc av hd ?_);exact⟨d,ks.zip ws,rfl,As,z1,by rw[z2];exact q2.le (AZ av hd),rfl⟩
    .exact s1.elim
   .exact s1.elim
  .exact s1.elim
 .exact s1.elim
theorem Wv(hc:X.calm=true)(hm:X.mg "max"=none)(ha:FA X Z [a] g)(hg:Gl X "max":=by rfl)(he:starEach [a] X.env=[(false,eval a X.env)]:=by rfl):
  FE X Z (.Call (.Name "max" p1) [a] [⟨some "default",.Constant (.int d) j cp,kp⟩] pos) (maxD d g):=by
 refine AY (Va hc hm ha hg he) λU H Q ao => ?_
 obtain⟨F,B,fs,ok,s⟩:= ao;refine⟨F,B,fs,ok,AG s λrs aj F1 H1 us l q s1=>?_⟩;split at s1
 .rename_i x;split at s1
  next ns en=>obtain⟨av,u,w,rfl,rx,rfl⟩:=q;rw[tV]at en;obtain⟨ts,e1,e2⟩:=en;obtain⟨l,vs,rfl,hq,r⟩:=Bg av rx e1;have:=He e2;subst this;have:=Al.ints r;subst this;exact⟨l,ns,rfl,hq,s1 F1 H1 _ Le.refl (RR.of av rfl)⟩
  .exact s1.elim
 .exact s1.elim
theorem Vr:OpF X.K Z (λx y H Q=>∃a v,x=.ref a/\SqT X.K H a [v]/\((y=.int 1/\Q (.ref a) H)\/(y=.int 2/\∀p,H p=none->Q (.ref p) (upd H p (.tup [v,v]))))) Pj:=by
 intro F B H U fs x y u w Q ok rx ry s;unfold Pj at s;split at s
 .rename_i t i;have ey:=ry;have rQ:=rx;obtain⟨a,vs,rfl,hs,v,r,rfl,rv,rfl⟩:=rx;refine⟨a,v,rfl,hs.sq,?_⟩;split at s
  next hi=>subst hi;exact .inl ⟨ey,s F H _ Le.refl (RR.of ok rQ)⟩
  .split at s
   next hi=>subst hi;refine .inr ⟨ey,λp hp=>s (Qo F p) (upd H p (.tup [v,v])) (.ref p) (A3 ok hp) (RR.of (ok.alloc hp) ?_)⟩;have nQ:=Bf.le (A3 (o:=.tup [v,v]) ok hp) rv;exact⟨p,[v,v],rfl,⟨rfl,.inr rfl,As⟩,v,_,rfl,nQ,v,_,rfl,nQ,rfl⟩
   .exact s.elim
 .exact s.elim
theorem Ws(ha:FE X Z a fa)(hb:FE X Z b fb):FE X Z (.BinOp a .Mult b pos) (Ag Pj fa fb):=Lx Vr Ou ha hb
variable{pe kQ:Pos}{j1 j2:Nat}{x1 x2 k1 k2:Str}
theorem YA:OpF K Z (rI Jb5 λi j=>.int (i*2^j.toNat)) Wa:=by
 intro F B H U fs x y u w Q ok rx ry s;unfold Wa gI at s;split at s
 .rename_i i j;dsimp only at s;split at s
  next h=>exact⟨i,j,rx,ry,h,s F H _ Le.refl (RR.of ok rfl)⟩
  .exact s.elim
 .exact s.elim
theorem Zt(ha:FE X Z a fa)(hb:FE X Z b fb):FE X Z (.BinOp a .LShift b pos) (Ag Wa fa fb):=Lx YA Yq ha hb
theorem Sw(i j:Nat)(hk:k1≠k2)(hx:PE X (.Name x1 p1) (Jz i))(hy:PE X (.Name x2 p2) (Jz j)):
  FE X Z (.Dict [some (.Constant (.str k1) j1 pe),some (.Constant (.str k2) j2 kQ)] [.Name x1 p1,.Name x2 p2] pos) (SK k1 k2 i j):=by
 refine AY (Vd (LY Oo hx (LY Oo hy U1)) rfl rfl (by simp) (by simp)) λU H Q ao=>?_
 obtain⟨F,B,fs,ok,s⟩:= ao;unfold SK at s;split at s
 .rename_i t t' e1 e2;obtain⟨L,o⟩:=id ok;obtain⟨v,_,_,_,g1,_,h1,_⟩:=o.sl.pick e1;obtain⟨u,rfl,q1,_⟩:=h1;obtain⟨v',_,_,_,g2,_,h2,_⟩:=o.sl.pick e2;obtain⟨u',rfl,q2,_⟩:=h2;intro p hp;refine⟨u,g1,u',g2,As,[(.inr k1,u),(.inr k2,u')],rfl,by simp,?_⟩;have em:Gs [] [((.inr k1:Key),u),((.inr k2:Key),u')]=[((.inr k1:Key),u),((.inr k2:Key),u')]:=by
   have:¬(Sum.inr k1:Key)=.inr k2:=λz=>hk (Sum.inr.inj z)
   simp[Gs,putK,this]
  have eu:upd (upd H p (.l [])) p (.l [((.inr k1:Key),u),((.inr k2:Key),u')])=upd H p (.l [((.inr k1:Key),u),((.inr k2:Key),u')]):=by
   funext b;by_cases hb:b=p
   .rw[hb,As,As]
   .rw[Ap hb,Ap hb,Ap hb]
  rw[em,eu];have l0:Le F H F (upd H p (.l [((.inr k1:Key),u),((.inr k2:Key),u')])):=AZ ok hp;refine s F _ (.ref p) l0 (RR.alloc ok hp ?_);exact⟨p,_,rfl,As,rfl,⟨u,_,rfl,q1.le l0,u',_,rfl,q2.le l0,rfl⟩,rfl⟩
 .exact s.elim
def JbK(X:Cx)(H:Hp)(x y:V)(b:Bool):Prop:=∀(ae:List (Addr×Obj))(U:St)(s:Shared)(u w:Value),Inv X ae U H s->RelV x u->RelV y w->∀(Q:Value->Shared->Prop),Q (.bool !b) s->wpAny (model X.prog X.w) X.A (compareOp .NotIn u w) Q X.xe s
theorem Vl:OpR X (compareOp .NotIn) (λx y H Q=>∃b,JbK X H x y b/\Q (.o !b) H):=by intro ae s U H x y v u Q I rx ry ⟨b,h,q⟩;exact h ae U s v u I rx ry _ ⟨.o !b,H,I,rfl,q⟩
theorem Pb:∀{ys:List T}{b:Bool},TZ x ys=some b->(∀(i:Nat)(y:T),ys[i]?=some y->∃c,eqT 9 y x=some c)/\(b=true↔∃(i:Nat)(y:T),ys[i]?=some y/\eqT 9 y x=some true)
 | [],b,e=>by cases e;exact⟨λi y h=>by simp at h,by simp⟩
 |y::ys,b,e=>by
  simp only[TZ,tV,tq]at e;obtain⟨c,e1,d,e2,rfl⟩:=e;obtain⟨h1,h2⟩:=Pb e2;refine⟨λi z h=>?_,?_⟩
  .cases i with|zero=>simp at h;subst h;exact⟨c,e1⟩|succ i=>exact h1 i z (by simpa using h)
  .rw[uQ,h2];constructor
   .rintro(h|⟨i,z,h,h'⟩)
    .exact⟨0,y,rfl,by rw[e1,h]⟩
    .exact⟨i+1,z,by simpa using h,h'⟩
   .rintro⟨i,z,h,h'⟩
    cases i with|zero=>simp at h;subst h;rw[e1]at h';cases h';exact .inl rfl|succ i=>exact .inr ⟨i,z,by simpa using h,h'⟩
open Classical in
theorem Rm{b:Bool}(hu:X.A.units+61<cLine)(e:TZ x ys=some b)(rx:Bf X.K F H x v)(sy:SqL X.K H p vs)(ry:Al X.K F H ys vs):JbK X H v (.ref p) b:=by
 intro ae U s u w I qx qy Q q;cases qy;obtain⟨ak,vy,pl,hz⟩:=I.list sy;obtain⟨h1,h2⟩:=Pb e;have key:∀(i:Nat)(z:T),ys[i]?=some z->∃w',ak[i]?=some w'/\∀c,eqT 9 z x=some c->SeqAt.EqAt X.A.in1 s w' u c:=λi z iZ=>by obtain⟨v1,e1,r1⟩:=ry.at iZ;obtain⟨w1,e2,r2⟩:=vy.get e1;exact⟨w1,e2,λc hc=>Kn I (by show X.A.units+1+9<_;lia) hc r1 rx r2 qx⟩
 have ln:ak.length=ys.length:=by rw[<- vy.length,ry.len]
 let ee:Value->Bool:=λw'=>decide (∃(i:Nat)(z:T),ys[i]?=some z/\ak[i]?=some w'/\eqT 9 z x=some true)
 refine SeqAt.notIn_listAt ee pl.isList (λw' hw=>?_) ?_
 .have rg:w'∈ak:=by simpa using hw
  obtain⟨i,hi,ei⟩:=uV rg;have iH:ak[i]?=some w':=by rw[sV hi,ei]
  by_cases h:∃(i:Nat)(z:T),ys[i]?=some z/\ak[i]?=some w'/\eqT 9 z x=some true
  .obtain⟨i,z,g1,g2,g3⟩:=id h;obtain⟨w1,f1,f2⟩:=key i z g1;rw[g2]at f1;cases f1;rw[show ee w'=true from tQ h];exact f2 true g3
  .have gy:ys[i]?=some (ys[i]'(by lia)):=sV (by lia);obtain⟨c,ec⟩:=h1 i _ gy;obtain⟨w1,f1,f2⟩:=key i _ gy;rw[iH]at f1;cases f1;rw[show ee w'=false from tS h];cases c with|true=>exact(h ⟨i,_,gy,iH,ec⟩).elim|false=>exact f2 false ec
 .have:ak.toArray.any ee=b:=by
   rw[uC,h2];simp only[List.any_toArray,vd];constructor
   .rintro⟨w',_,h⟩
    obtain⟨i,z,g1,_,g3⟩:=tX h;exact⟨i,z,g1,g3⟩
   .rintro⟨i,z,g1,g3⟩
    obtain⟨w1,f1,_⟩:=key i z g1;exact⟨w1,uu f1,tQ ⟨i,z,g1,f1,g3⟩⟩
  rwa[this]
theorem Vq(hu:X.A.units+61<cLine):OpF X.K Z (λx y H Q=>∃b,JbK X H x y b/\Q (.o !b) H) Kc:=by
 intro F B H U fs x y u w Q ok rx ry s;unfold Kc at s;split at s
 .rename_i t;split at s
  next b e=>rw[tV]at e;obtain⟨ys,e1,e2⟩:=e;obtain⟨p,vs,rfl,hq,r⟩:=Bg ok ry e1;exact⟨b,Rm hu e2 rx hq r,s F H _ Le.refl (RR.of ok rfl)⟩
  .exact s.elim
 .exact s.elim
theorem Wk(hu:X.A.units+61<cLine)(ha:FE X Z a fa)(hb:FE X Z b fb)(hm:behindInMarks .NotIn b=false:=by rfl):FT X Z (.Compare a [.NotIn] [b] pos) (asB (Ag Kc fa fb)):=Ek (Vq hu) Vl ha hb hm
theorem Vv(hu:X.A.units+191<cLine):OpF X.K Z (Jag X false) Nk:=by
 intro F B H U fs x y u w Q ok rx ry s;unfold Nk at s;split at s
 .rename_i xs ys e1 e2;split at s
  .rename_i b e3;obtain⟨a,vs,rfl,sx,r1⟩:=BG rx e1;obtain⟨a',ws,rfl,sy,r2⟩:=BG ry e2;refine⟨_,λae U s u w I qx qy=>?_,s F H _ Le.refl (RR.of ok rfl)⟩;cases qx;cases qy;obtain⟨ak,vx,ht,_⟩:=I.tuple sx;obtain⟨aS,gq,gh,_⟩:=I.tuple sy;have l1:ak.length=xs.length:=by rw[<- vx.length,r1.len]
   have l2:aS.length=ys.length:=by rw[<- gq.length,r2.len]
   have:=SeqAt.RcAt.tuples ht gh (by lia) (items_eqAt e3 r1 r2 vx gq (λh r1 r2 o1 o2=>Kn I (A:=X.A.in1) (by show X.A.units+1+180<_;lia) h r1 r2 o1 o2));rwa[sX,sX,l1,l2,<- Dx e3]at this
  .exact s.elim
 .exact s.elim
theorem Pz(hu:X.A.units+191<cLine)(ha:FE X Z a fa)(hb:FE X Z b fb):FE X Z (.Compare a [.Eq] [b] pos) (Ag Nk fa fb):=Kk (Vv hu) Yt ha hb (DP _)
theorem Y2(hr:DJ k A):A.units+191<cLine:=by have:=hr.un;lia
end FL
namespace FL
open PySem PySem.Spec L2
variable{K:Fg}{F:Wd}{H:Hp}
theorem AA.vals:∀{fs:FS}{U:St}{L:List Addr},AA K F H fs U L->AA K F H (C4 fs) U []
 | [],U,L,h=>by exact⟨h.1,rfl⟩
 |s::r,U,L,h=>by
  obtain⟨v,au,L1,L2,rfl,h1,h2,rfl⟩:=h.HB;have ih:=AA.vals h2
  match s,h1 with|Option.none,h1=>exact AA.cons (L1:=[]) (by exact rfl) ih|some (.val t),h1 =>obtain⟨u,rfl,q,_⟩:=h1;exact AA.cons (L1:=[]) (by exact⟨u,rfl,q,rfl⟩) ih|some (.own o),h1=>exact AA.cons (L1:=[]) (by exact rfl) ih|some (.bor o),h1=>exact AA.cons (L1:=[]) (by exact rfl) ih
theorem Wr(j:Nat)(he:FE X Z e f):FE X Z e (ID j f):=by
 refine AY he λU H Q ao=>?_
 obtain⟨F,B,fs,⟨L,ok⟩,s⟩:= ao;unfold ID at s;split at s
 .rename_i o eo;obtain⟨sl,es,ho⟩:∃sl,fs[j]?=some (some sl)/\(sl=.own o\/sl=.bor o):=by
   unfold AH at eo;split at eo
   next o' es=>cases eo;exact⟨_,es,.inl rfl⟩
   next o' es=>cases eo;exact⟨_,es,.inr rfl⟩
   .cases eo
  obtain⟨v,L1,Lj,L3,e1,rfl,h1,_⟩:=ok.sl.pick es;obtain⟨u,rfl,q⟩:∃u,v=some u/\A8 X.K F H o u Lj:=by
   rcases ho with rfl|rfl
   .exact h1
   .exact h1
  have nd:=ok.nd;have i8:∀a∈L1++L3,a∉Lj:=λa ha hb=>by
   rw[sT]at nd;rcases tE.mp ha with ha|ha
   .exact nd.2.2 a ha a (tH _ hb) rfl
   .exact(sT.mp nd.2.1).2.2 a hb a ha rfl
  have mL:∀a,a∈L1++(Lj++L3)->a∈L1++L3\/a∈Lj:=λa h=>by
   simp only[tE]at h ⊢;rcases h with h|h|h
   .exact .inl (.inl h)
   .exact .inr h
   .exact .inl (.inr h)
  have mO:∀a,a∈L1++L3->a∈L1++(Lj++L3):=λa h=>by rcases tE.mp h with h|h<;>simp[h]
  have lF:Le F H ⟨λa=>F a\/a∈Lj,F.p⟩ H:=⟨λa f=>⟨.inl f,rfl⟩,λa f=>⟨f,rfl⟩⟩
  have av:Ok X.K ⟨λa=>F a\/a∈Lj,λa=>F.p a\/a∈L1++L3⟩ B H ((C4 fs).set j (some (.val (toT o)))) U []:=by
   have h0:AA X.K ⟨λa=>F a\/a∈Lj,λa=>F.p a\/a∈L1++L3⟩ H (C4 fs) U []:=by have:=(AA.vals ok.sl).le lF (by simp);exact AA.wp this
   obtain⟨v',M1,M2,M3,z1,z2,z3,z4⟩:=h0.pick (by
   unfold C4;rw[t7,es];rcases ho with rfl|rfl<;>rfl);obtain⟨rfl,rfl,rfl⟩:=(by simpa using z2.symm)
   have z5:=z4 _ H (some (.val (toT o))) (some u) [] Le.refl (λ_ m=>nomatch m) ⟨u,rfl,(Bf.wp (A8.frz lF (λa m=>.inr m) q)),rfl⟩;rw[BL e1]at z5;refine⟨z5,tJ,(λ_ m=>nomatch m),λa f=>?_,λi ob e=>?_,λa f=>?_,λa f z=>?_,(λ_ m=>nomatch m)⟩
   .rcases f with f|f
    .exact ok.fd a f
    .exact A8.def q a f
   .exfalso;by_cases gS:j=i
    .subst gS;rw[uj (by unfold C4;rw[sU];exact((tu.mp es).1))]at e;cases e
    .rw[uk gS]at e;unfold C4 at e;rw[t7,tq]at e;obtain⟨x,_,ex⟩:=e;split at ex<;>cases ex
   .rcases f with f|f
    .exact ok.pd a f
    .exact ok.sl.def a (mO a f)
   .rcases f with f|f
    .rcases z with z|z
     .exact ok.pf a f z
     .exact ok.nf a (mO a z) f
    .rcases z with z|z
     .exact ok.pl a (by simp[f]) z
     .exact i8 a z f
  refine⟨_,B,_,⟨[],av⟩,?_⟩;cases ef:f ((C4 fs).set j (some (.val (toT o))))with
  |exc c τ=>rw[ef]at s;exact s.elim
  |bad=>rwa[ef]at s
  |ok r τ =>
   rw[ef]at s;cases r with
   |nw t=>exact s.elim
   |n t=>exact s.elim
   |t t =>
    dsimp only at s;split at s
    .rename_i ha;intro F2 H2 w l2 q2;obtain⟨_,_,_,⟨_,rv⟩,_⟩:=q2;have lq:Le F H F H2:=⟨λa f=>⟨f,(l2.f a (.inl f)).2⟩,λa f=>⟨f,(l2.p a (.inl f)).2⟩⟩
     refine s F H2 w lq (RR.of ⟨L1++(Lj++L3),ok.sl.le lq (λa m=>by
      rcases mL a m with m|m
      .exact(l2.p a (.inr m)).2
      .exact(l2.f a (.inr m)).2),ok.nd,ok.nf,λa f=>by rw[(lq.f a f).2];exact ok.fd a f,ok.bo,λa f=>by rw[(lq.p a f).2];exact ok.pd a f,ok.pf,ok.pl⟩ (Bf.atom ha rv).1)
    .exact s.elim
 .exact s.elim
theorem OW:∀{ah:List (Key×V)}{os:List FO}{L:List Addr},AK K F H os (ah.map (·.2)) L->Io (ah.map (·.1)) os k=some o ->
  ∃v L1 A Z,K0 ah k=some v/\A8 K F H o v L1/\L=A++(L1++Z)/\∀H' o' eS,(∀a∈A++Z,H' a=H a)->Le F H F H'->A8 K F H' o' v eS->AK K F H' (Iv (ah.map (·.1)) os k o') (ah.map (·.2)) (A++(eS++Z))
 | [],os,L,r,e=>by cases os<;>simp[Io]at e
 |(g,x)::ah,os,L,r,e=>by
  cases os with
  |nil=>simp[Io]at e
  |cons o1 os =>
   obtain⟨v,w,L1,L2,ee,r1,r2,rfl⟩:=r;cases ee;simp only[sW,Io]at e;by_cases hb:g=k
   .rw[if_pos hb]at e;cases e;refine⟨x,L1,[],L2,EB hb,r1,rfl,λH' o' eS kk l ro=>?_⟩;simp only[sW,Iv,hb,AK];exact⟨x,_,eS,L2,rfl,ro,AK.le l (λa m=>kk a (by simpa using m)) r2,rfl⟩
   .rw[if_neg hb]at e;obtain⟨v,M,A,Z,h1,h2,rfl,h3⟩:=OW r2 e;refine⟨v,M,L1++A,Z,by rw[EC hb];exact h1,h2,by simp,λH' o' eS kk l ro=>?_⟩;have:=h3 H' o' eS (λa m=>kk a (by
     rcases tE.mp m with m|m
     .simp[m]
     .simp[m])) l ro
    simp only[sW,Iv,hb,AK];exact⟨x,_,L1,_,rfl,r1.le l λa m=>kk a (by simp[m]),this,by simp⟩
variable{X:Cx}{Z:Xp}{x y z f:Str}{v:Expr}{fv:FS->Out Rv}{C:Addr}{p1 p2 p3 p4 p5 p6 pos:Pos}
theorem R5(hu:X.A.units+1<cLine)(c:Cls X.K C)(n:A2 X.K C f)(i jy jz:Nat)(hx:PE X (.Name x p1) (Jz i))(hy:PE X (.Name y p3) (Jz jy))(hz:PE X (.Name z p5) (Jz jz))(hv:FE X Z v fv)(fU:attributeBase (.Name x p1) f X.env (eval (.Name x p1) X.env)=eval (.Name x p1) X.env:=by rfl)
  (hs:swapsWith v (some (.Subscript (.Subscript (.Attribute (.Name x p1) f p2) (.Name y p3) p4) (.Name z p5) p6)) pos.line X.env=pure false:=by rfl) (hn:JbJ (.Name y p3):=by exact λ_ _=>rfl) :
  GS X Z (.Assign [.Subscript (.Subscript (.Attribute (.Name x p1) f p2) (.Name y p3) p4) (.Name z p5) p6] v pos) (dput2 C f i jy jz fv):=by
 refine Ct (K6 hu (Ve hu (Fp hx fU) hy hn) hz hv hs) λD U H ao => ?_
 obtain⟨F,B,fs,ok,s⟩:= ao;refine⟨F,B,fs,ok,Cq s λr aj F1 H1 u l q s1=>?_⟩;split at s1
 .rename_i t C' gs os yt zt eo ey ez;split at s1
  .rename_i hC;subst hC;split at s1
   .rename_i ks ds k k2 ef ek qd;split at s1
    .rename_i eX dq ed;split at s1
     .rename_i b0;have av:=q.ok;obtain⟨a,dx,ah,w,L1,a1,hd,rfl,e1,r1,na,nf,rn,bk⟩:=av.fld eo ef;obtain⟨b,aG,M2,rfl,bh,rfl,mj,rfl⟩:=r1;obtain⟨v2,N,A,Zz,e2,r2,rfl,oZ⟩:=OW mj ed;obtain⟨c2,c9,rfl,dJ,rfl,rM,rfl⟩:=r2;obtain⟨L9,o9⟩:=id av;have slot:∀{j:Nat}{t':T}{kk:Key},aj[j]?=some (some (.val t'))->HD t'=some kk->U[j]?=some (some (kV kk)):=λ{j t' kk} ej et=>by obtain⟨w,_,_,_,e6,_,h1,_⟩:=o9.sl.pick ej;obtain⟨uy,rfl,ry,_⟩:=h1;have:=D7 et ry;subst this;exact e6
      have nI:=tN.mp rn;have j5:=sT.mp nI.2;have fc:=nf c2 (by simp);have lq:Le F1 H1 F1 (upd H1 c2 (.l (putK c9 k2 u))):=⟨λa f=>⟨f,Ap λq=>fc.1 (q▸f)⟩,λa f=>⟨f,Ap λq=>fc.2 (q▸f)⟩⟩
      obtain⟨rE,rF⟩:=FN (by obtain⟨_,_,_,⟨_,rt⟩,_⟩:=q;exact rt) rM;have rL:A8 X.K F1 (upd H1 c2 (.l (putK c9 k2 u))) (.l (E2 (c9.map (·.1)) dq k2 t).1 (E2 (c9.map (·.1)) dq k2 t).2) (.ref c2) [c2]:=by exact⟨c2,putK c9 k2 u,rfl,As,rE,Al.le lq rF,rfl⟩
      have rO:=oZ (upd H1 c2 (.l (putK c9 k2 u))) _ _ (λa m=>Ap λq=>by
       subst q;rcases tE.mp m with m|m
       .exact j5.2.2 a m a (by simp) rfl
       .exact(sT.mp j5.2.1).2.2 a (by simp) a m rfl) lq rL
      obtain⟨bS,l'⟩:=bk (.dO (aG.map (·.1)) (Iv (aG.map (·.1)) ds k (.l (E2 (c9.map (·.1)) dq k2 t).1 (E2 (c9.map (·.1)) dq k2 t).2))) (upd H1 c2 (.l (putK c9 k2 u))) (λa hb _=>Ap λq=>hb (by rw[q];simp)) (by exact⟨b,aG,_,rfl,by rw[Ap (λzz=>nI.1 (by rw[zz];simp))];exact bh,rfl,rO,rfl⟩);exact⟨_,a1,a,C',dx,ah,.ref b,rfl,hd,c,n,e1,kV k,slot ey ek,b,.ref c2,rfl,by rw[<- e2];exact KW.k bh,kV k2,slot ez qd,c2,_,rfl,NK.k dJ (by rw[sU]at b0;exact uD b0 Fw),s1 F1 _ U l' bS⟩
     .exact s1.elim
    .exact s1.elim
   .exact s1.elim
  .exact s1.elim
 .exact s1.elim
theorem HP:∀{os:List FO}{j:Nat},(∀n,j<=n->A n=A' n)->Mg A j os=Mg A' j os
 | [],_,_=>by simp[Mg]
 |o::os,j,h=>by cases o<;>simp[Mg,(HP (os:=os) (j:=j+1) λn hn=>h n (by lia)),h j (tD _)]
theorem OT:∀{os:List FO}{vs:List V}{L:List Addr}(i:Nat),AK K F H os vs L->∃A,AK K F H (Mg A i os) vs L
 | [],vs,L,i,r=>⟨λ_=>0,by simpa[Mg]using r⟩
 |o::os,vs,L,i,r=>by
  obtain⟨v,w,L1,L2,rfl,r1,r2,rfl⟩:=r;obtain⟨A,rA⟩:=OT (i+1) r2;have same:∀a:Addr,Mg (λn=>if n=i then a else A n) (i+1) os=Mg A (i+1) os:=λa=>HP λn hn=>if_neg (by lia)
  cases o with|lst ts =>obtain⟨a,us,rfl,hd,rt,rfl⟩:=r1;refine⟨λn=>if n=i then a else A n,?_⟩;simp only[Mg,same,A8];exact⟨_,_,_,L2,rfl,⟨us,rfl,hd,rt,rfl⟩,rA,rfl⟩|_ =>refine⟨A,?_⟩;exact⟨_,_,_,L2,rfl,r1,rA,rfl⟩
variable{k p:Nat}{ps:List Str}{Fn fo:FS->Out Rv}{e o:Expr}{es:List Expr}{fa:FS->Out (List Rv)}{aw:Pos}{m:Str}
theorem Np(G:W6 X.prog X.w X.K X.mg X.base (CX1 X.prog X.w) C m k ps (spX X.K p Fn))(hr:DJ k X.A)(lk:Lks X Z)(ho:FE X Z o fo)(ha:FAn X Z (e::es) fa)
  (bL:starEach (e::es) X.env=(false,eval e X.env)::starEach es X.env:=by rfl) (aD:(backTo pos (starEach es X.env)).any (·.1)=false:=by rfl)
  (ht:eval (.Call (.Attribute o m aw) (e::es) [] pos) X.env=(do
   let ov <- eval o X.env
   standAt aw.atName
   let(f,first) <- holding [ov] (getMethod ov m pl)
   callWith pos f first (backTo pos (starEach (e::es) X.env)) (backToKw pos (keywordEach [] X.env))):=by rfl) :
  FE X Z (.Call (.Attribute o m aw) (e::es) [] pos) (newMeth C m p Fn fo fa):=by
 refine AY (TJ G hr lk ho ha bL aD ht) λU H Q ao => ?_
 obtain⟨F,B,fs,ok,s⟩:= ao;refine⟨F,B,fs,ok,AG s λr aj F1 H1 u l q s1=>?_⟩;split at s1
 .rename_i C' gs os;split at s1
  .rename_i hC;obtain⟨rfl,hm⟩:=hC;have q0:=q;obtain⟨L,L',_,ro,_,_⟩:=q0;have ro:A8 X.K F1 H1 (.ins C' gs os) u L':=ro;obtain⟨a,dx,ah,L3,rfl,hd,rfl,ro,rfl⟩:=ro;refine⟨a,dx,ah,rfl,hd,Gw hm,Mo q s1 λrs aB F2 H2 us _ ra s2=>?_⟩;split at s2
   .rename_i eA;obtain⟨L9,M,o9,rr,nd,fr⟩:=ra;obtain⟨v,w,L1,L2,ee,h1,h2,rfl⟩:=rr;cases ee;have h1:A8 X.K F2 H2 (.ins C' (ah.map (·.1)) os) (.ref a) L1:=h1;obtain⟨a',i9,jX,L4,ea,dM,ek,jg,rfl⟩:=h1;obtain⟨A,rA⟩:=OT 0 jg;rw[<- eA A]at s2;unfold Ak at s2;split at s2
    next hp=>rw[<- hp];refine GZ ⟨L9,_,o9,⟨.ref a,us,a'::L4,L2,rfl,?_,h2,rfl⟩,nd,fr⟩ s2;exact⟨a',i9,jX,L4,ea,dM,ek,rA,rfl⟩
    .exact s2.elim
   .exact s2.elim
  .exact s1.elim
 .exact s1.elim
end FL
namespace Sy
open PySem PySem.Spec L2 FL
abbrev xrs:List Str:=["BadCount","TooLong"]
abbrev xds:List Str:=["BadCount","BadKind","BadName","BadText","Groundless","NoFunction","NoKind","NoMaker","NoName","NoPlace","NoSaying","NotLess","NotShown","SayError","TooLong","Twice"]
noncomputable def D6(c d:Str):Bool:=c==d||d == "SayError"
noncomputable def top(i:Nat):Stmt:=PySem.Challenge.pw_stairsay_k22_too_long.main.body.getD i (.Pass ⟨0,0,0,0⟩)
structure Tx(K:Fg)(mg:Str->Option Value)(aq:Addr)(ag:Addr)(ai:Addr)(af:Addr):Prop where
 zh:mg "ValueError"=none
 yG:mg "all"=none
 yF:mg "any"=none
 yK:mg "dict"=none
 yE:mg "int"=none
 zG:mg "isinstance"=none
 yD:mg "len"=none
 yT:mg "list"=none
 yC:mg "max"=none
 yB:mg "min"=none
 yP:mg "range"=none
 zv:mg "reversed"=none
 yA:mg "sum"=none
 yO:mg "tuple"=none
 yN:mg "zip"=none
 yX:∃t,mg "LETTERS"=some (.str ("abcdefghijklmnopqrstuvwxyz":Str) t)
 zC:∃t,mg "MOST_ARGUMENTS"=some (.int 3 t)
 za:∃t,mg "MOST_DEEP"=some (.int 40 t)
 zF:∃t,mg "MOST_DEEP_CALLS"=some (.int 20 t)
 zg:∃t,mg "MOST_KINDS"=some (.int 4 t)
 zu:∃t,mg "MOST_LETTERS"=some (.int 12 t)
 zj:∃t,mg "MOST_MAKERS"=some (.int 4 t)
 zf:∃t,mg "MOST_PARTS"=some (.int 2 t)
 y1:∃t,mg "MOST_SIZE"=some (.int 300 t)
 zD:Cls K aq
 zQ:Cls K ag
 zd:Cls K ai
 zc:Cls K af
 zB:A2 K ag "heads"
 zW:A2 K ag "rows_by_function"
 zA:A2 K ag "stock"
 zR:A2 K aq "calls_left"
 zr:A2 K aq "program"
 zK:A2 K aq "waiting"
 zJ:A2 K aq "worths"
 zq:A2 K ai "heads"
 zN:A2 K ai "kinds_by_name"
 zw:A2 K ai "lessers"
 ze:A2 K ai "own"
 zp:A2 K ai "stock"
 zM:A2 K af "home_by_maker"
 zP:A2 K af "makers_by_kind"
 zO:A2 K af "parts_by_maker"
 xt:KU K mg xrs xds D6
noncomputable def F9:FS->SO :=
  (Av (AL 2 (gc (.str ("abcdefghijklmnopqrstuvwxyz":Str))))
  (Av (AL 3 (Ag CN (Ag Aw (Ag Aw (Ag CN (Ab 0) (Ab 0)) (Ab 0)) (gc (.int 1))) (gc (.int 982451653))))
  (Av (AL 4 (Ag Aw (gc (.int 1)) (Ag DE (Ab 3) (gc (.int 12)))))
  (Av (AL 5 (Ag DE (Ag GH (Ab 3) (gc (.int 12))) (Ab 4)))
  (Av (AL 6 (Cj false [none,some 2,some 3] (O4 (Ac (Ab 4) Ah)) (tgN 0) EX (Ag AB (Ab 1) (Ag DE (Ag Aw (Ag GH (Ab 2) (Ag Aw (Ab 0) (gc (.int 5)))) (Ag CN (Ab 0) (Ab 0))) (gc (.int 26))))))
  (Av (AL 7 (Ag AB (An Cw (Ac (gc (.int 1)) (Ac (gc (.int 3)) (Ac (gc (.int 5)) (Ac (gc (.int 7)) (Ac (gc (.int 9)) (Ac (gc (.int 11)) Ah))))))) (Ag DE (Ag GH (Ab 3) (gc (.int 144))) (gc (.int 6)))))
  (Av (AL 8 (An Er Ah))
  (Av (Dq (O4 (Ac (Ab 1) Ah)) (tgN 9) (Av (AL 10 (Ag AB (Ab 2) (Ag DE (Ag Aw (Ag GH (Ab 3) (gc (.int 864))) (Ag CN (Ab 9) (Ab 7))) (gc (.int 26)))))
  (ifS (asB (Ag (gEq false) (Ag DE (Ag GH (Ab 3) (gc (.int 900))) (gc (.int 3))) (gc (.int 1)))) (AE (BC Fv (Ab 8) (Ac (Ag CN (Ag AB (Ab 6) (gc (.int 0))) (Ag Aw (Ag DE (Ag Aw (Ab 9) (Ag GH (Ab 3) (gc (.int 7)))) (gc (.int 12))) (gc (.int 1)))) Ah))) (AE (BC Fv (Ab 8) (Ac (Ag Aw (Ag Aw (fz (IL GG (gc (.str ("":Str))) (Ac (slF (Ab 6) noP (C5 (Ab 5))) Ah))) (Ab 10)) (fz (IL GG (gc (.str ("":Str))) (Ac (slF (Ab 6) (C5 (Ag Aw (Ab 5) (gc (.int 1)))) noP) Ah)))) Ah))))))
  (retS (Ab 8))))))))))
noncomputable def Ee:FS->Out Rv:=Bo 9 (F9)
noncomputable def ET:FS->SO :=
  (Av (ifS (Fq (asB (chain gLe gLe (gc (.int 1)) (Ai Bx (Ac (Ab 0) Ah)) (gc (.int 12))))) (retS (gc (.o false))) nxS)
  (retS (Ai Ze (Ac (Cj false [none] (itU (fz (Ab 0))) (tgN 0) EX (Ag (DK false) (fz (Ab 0)) (gc (.str ("abcdefghijklmnopqrstuvwxyz":Str))))) Ah))))
noncomputable def A0:FS->Out Rv:=Bo 0 (ET)
noncomputable def CB:FS->SO :=
  (Av (ifS (Fq (asB (chain gLe gLe (gc (.int 1)) (Ai Bx (Ac (Ab 0) Ah)) (gc (.int 4))))) (JH "BadCount" (Ac (gc (.str ("a stock has one to four kinds":Str))) Ah)) nxS)
  (Av (AL 1 EK)
  (Dq (itU (fz (Ab 0))) (AW 2 (Af (tgN 2) (Af (tgN 3) AN))) (Av (ifS (Fq (Hh (fz (Ai (Ak 1 A0) (Ad (fz (Ab 2)) Ah))))) (λ_=>.bad) nxS)
  (Av (ifS (asB (Ag (DK false) (fz (Ab 2)) (Ab 1))) (λ_=>.bad) nxS)
  (Av (ifS (Fq (asB (chain gLe gLe (gc (.int 1)) (Ai Bx (Ac (Ab 3) Ah)) (gc (.int 4))))) (λ_=>.bad) nxS)
  (Dg (gc (.o true)) (Ab 1) (fz (Ab 2)))))))))
noncomputable def BR:FS->Out Rv:=Bo 3 (CB)
noncomputable def CA:FS->SO :=
  (Av (ifS (Fq (Hh (fz (Ai (Ak 1 A0) (Ad (fz (Ab 0)) Ah))))) (λ_=>.bad) nxS)
  (Av (ifS (asB (Ag (DK false) (fz (Ab 0)) (Ab 2))) (λ_=>.bad) nxS)
  (Av (ifS (asB (Ag gGt (Ai Bx (Ac (Ab 1) Ah)) (gc (.int 2)))) (λ_=>.bad) nxS)
  (Dq (itU (fz (Ab 1))) (tgN 4) (ifS (asB (Ag (DK true) (fz (Ab 4)) (Ab 3))) (λ_=>.bad) nxS)))))
noncomputable def Ba:FS->Out Rv:=Bo 1 (CA)
noncomputable def Ca:FS->SO :=
  (Dq (itU (fz (Ab 1))) (tgN 3) (ifS (asB (Ag (DK true) (fz (Ab 3)) (Ab 2))) (λ_=>.bad) nxS))
noncomputable def A7:FS->Out Rv:=Bo 1 (Ca)
noncomputable def B9:FS->SO :=
  (Av (AL 1 (Cj false [none,none] (itU (fz (Ab 0))) (AW 2 (Af (tgN 0) (Af (tgN 1) AN))) EX (fz (Ab 0))))
  (Av (AL 2 (An Er Ah))
  (Av (AL 3 EK)
  (Dq (itU (fz (Ab 0))) (AW 2 (Af (tgN 4) (Af (tgN 5) AN))) (Av (AL 6 (Ag AB (Ag AB (Ab 5) (gc (.int 0))) (gc (.int 0))))
  (Av (Dq (itU (fz (Ab 5))) (AW 2 (Af (tgN 7) (Af (tgN 8) AN))) (Av (AE (Ai (Ak 4 Ba) (Ad (fz (Ab 7)) (Ad (fz (Ab 8)) (Ad (Ab 3) (Ad (fz (Ab 1)) Ah))))))
  (Av (ifS (asB (Ag (gEq false) (Ab 7) (Ab 6))) (AE (Ai (Ak 3 A7) (Ad (fz (Ab 7)) (Ad (fz (Ab 8)) (Ad (Ab 2) Ah))))) nxS)
  (Dg (gc (.o true)) (Ab 3) (fz (Ab 7))))))
  (AE (BC Fv (Ab 2) (Ac (fz (Ab 4)) Ah)))))))))
noncomputable def BD:FS->Out Rv:=Bo 8 (B9)
noncomputable def C3(af:Addr):FS->SO :=
  (Av (AE (Ai (Ak 1 BR) (Ad (fz (Ab 1)) Ah)))
  (Av (AE (Ai (Ak 1 BD) (Ad (fz (Ab 1)) Ah)))
  (Av (HY af "makers_by_kind" 0 EK)
  (Av (HY af "parts_by_maker" 0 EK)
  (Av (HY af "home_by_maker" 0 EK)
  (Dq (itU (fz (Ab 1))) (AW 2 (Af (tgN 2) (Af (tgN 3) AN))) (Av (CO af "makers_by_kind" 0 2 (Cj false [none,none] (itU (fz (Ab 3))) (AW 2 (Af (tgN 0) (Af (tgN 1) AN))) EX (fz (Ab 0))))
  (Dq (itU (fz (Ab 3))) (AW 2 (Af (tgN 4) (Af (tgN 5) AN))) (Av (CO af "parts_by_maker" 0 4 (Ai BP (Ac (Ab 5) Ah)))
  (CO af "home_by_maker" 0 4 (fz (Ab 2))))))))))))
noncomputable def Ci(af:Addr):FS->Out Rv:=Bo 4 (C3 af)
noncomputable def Cb(af:Addr):FS->SO :=
  (Av (ifS (asB (Ag (DK true) (fz (Ab 1)) (CJ af "makers_by_kind" (Ab 0)))) (λ_=>.bad) nxS)
  (retS (Ai Cu (Ac (Ag AB (CJ af "makers_by_kind" (Ab 0)) (fz (Ab 1))) Ah))))
noncomputable def Az(af:Addr):FS->Out Rv:=Bo 0 (Cb af)
noncomputable def CF(af:Addr):FS->SO :=
  (retS (Ai Cu (Ac (CJ af "makers_by_kind" (Ab 0)) Ah)))
noncomputable def AR(af:Addr):FS->Out Rv:=Bo 0 (CF af)
noncomputable def Ii(af:Addr):FS->SO :=
  (retS (Ai Zc (Ac (Cj false [none,some 1,some 0] (itU (fz (Hv af "kinds" 1 (AR af) (fz (Ab 0)) Ah))) (tgN 0) EX (Ag (DK false) (fz (Ab 1)) (fz (BH af "makers" 2 (Az af) (fz (Ab 2)) (Ad (fz (Ab 0)) Ah))))) Ah)))
noncomputable def Dj(af:Addr):FS->Out Rv:=Bo 0 (Ii af)
noncomputable def D4(af:Addr):FS->SO :=
  (Av (Hi (fz (Ab 2)) (AW 5 (Af (tgN 3) (Af (tgN 4) (Af (tgN 5) (Af (tgN 6) (Af (tgN 7) AN)))))))
  (Av (ifS (Fq (Hh (fz (Ai (Ak 1 A0) (Ad (fz (Ab 3)) Ah))))) (λ_=>.bad) nxS)
  (Av (ifS (orT (asB (Ag (DK false) (fz (Ab 3)) (Ab 1))) (Hh (fz (Ai (Ak 2 (Dj af)) (Ad (fz (Ab 0)) (Ad (fz (Ab 3)) Ah)))))) (λ_=>.bad) nxS)
  (Av (ifS (Fq (asB (chain gLe gLe (gc (.int 1)) (Ai Bx (Ac (Ab 4) Ah)) (gc (.int 3))))) (λ_=>.bad) nxS)
  (Av (Dq (itU (fz (Ag Aw (fz (Ai Cu (Ac (Ab 4) Ah))) (An Cw (Ac (fz (Ab 5)) Ah))))) (tgN 8) (ifS (asB (Ag (DK true) (fz (Ab 8)) (fz (Hv af "kinds" 1 (AR af) (fz (Ab 0)) Ah)))) (λ_=>.bad) nxS))
  (Av (ifS (asB (Ag (gEq true) (Ai Bx (Ac (Ab 6) Ah)) (Ag Di (Ai Bx (Ac (Ab 4) Ah)) (gc (.int 1))))) (λ_=>.bad) nxS)
  (ifS (asB (Ag (gEq true) (Ai Bx (Ac (Ab 7) Ah)) (Ai Bx (Ac (fz (BH af "makers" 2 (Az af) (fz (Ab 0)) (Ad (Ag AB (Ab 4) (gc (.int 0))) Ah))) Ah)))) (λ_=>.bad) nxS)))))))
noncomputable def Cg(af:Addr):FS->Out Rv:=Bo 6 (D4 af)
noncomputable def CD(af:Addr):FS->SO :=
  (Av (ifS (asB (Ag (DK true) (fz (Ab 1)) (CJ af "parts_by_maker" (Ab 0)))) (λ_=>.bad) nxS)
  (retS (Ag AB (CJ af "parts_by_maker" (Ab 0)) (fz (Ab 1)))))
noncomputable def Bk(af:Addr):FS->Out Rv:=Bo 0 (CD af)
noncomputable def Dz:FS->SO :=
  (Av (AL 1 EK)
  (Dq (itU (fz (Ab 0))) (tgN 2) (Av (ifS (Fq (Hh (fz (Ai (Ak 1 A0) (Ad (fz (Ab 2)) Ah))))) (λ_=>.bad) nxS)
  (Av (ifS (asB (Ag (DK false) (fz (Ab 2)) (Ab 1))) (λ_=>.bad) nxS)
  (Dg (gc (.o true)) (Ab 1) (fz (Ab 2)))))))
noncomputable def Cy:FS->Out Rv:=Bo 2 (Dz)
noncomputable def Fx(af:Addr):FS->SO :=
  (Av (ifS (asB (Ag (DK true) (fz (Ab 1)) (CJ af "home_by_maker" (Ab 0)))) (λ_=>.bad) nxS)
  (retS (Ag AB (CJ af "home_by_maker" (Ab 0)) (fz (Ab 1)))))
noncomputable def C0(af:Addr):FS->Out Rv:=Bo 0 (Fx af)
noncomputable def D3(ai:Addr)(af:Addr):FS->SO :=
  (Av (ifS (asB (Ag (gEq false) (Ab 1) (gc (.str ("make":Str))))) (retS (An Ar (Ac (fz (BH af "parts" 2 (Bk af) (CJ ai "stock" (Ab 0)) (Ad (fz (Ab 2)) Ah))) (Ac (fz (BH af "home" 2 (C0 af) (CJ ai "stock" (Ab 0)) (Ad (fz (Ab 2)) Ah))) Ah)))) nxS)
  (Av (ifS (asB (Ag (DK true) (fz (Ab 2)) (CJ ai "heads" (Ab 0)))) (λ_=>.bad) nxS)
  (retS (Ag AB (CJ ai "heads" (Ab 0)) (fz (Ab 2))))))
noncomputable def Bt(ai:Addr)(af:Addr):FS->Out Rv:=Bo 0 (D3 ai af)
noncomputable def Hy(ai:Addr):FS->SO :=
  (Av (ifS (asB (Ag (DK true) (fz (Ab 1)) (CJ ai "kinds_by_name" (Ab 0)))) (λ_=>.bad) nxS)
  (retS (Ag AB (CJ ai "kinds_by_name" (Ab 0)) (fz (Ab 1)))))
noncomputable def B7(ai:Addr):FS->Out Rv:=Bo 0 (Hy ai)
noncomputable def Cz(ai:Addr)(af:Addr)(rec:FS->Out Rv):FS->SO :=
  (Av (ifS (asB (Ag (gEq false) (Ag AB (Ab 1) (gc (.int 0))) (gc (.str ("name":Str))))) (retS (Ai (Ak 2 (B7 ai)) (Ad (fz (Ab 0)) (Ad (Ag AB (Ab 1) (gc (.int 1))) Ah)))) nxS)
  (Av (Hi (fz (Ab 1)) (AW 3 (Af (tgN 2) (Af (tgN 3) (Af (tgN 4) AN)))))
  (Av (Hi (fz (Ai (Ak 3 (Bt ai af)) (Ad (fz (Ab 0)) (Ad (fz (Ab 2)) (Ad (fz (Ab 3)) Ah))))) (AW 2 (Af (tgN 5) (Af (tgN 6) AN))))
  (Av (ifS (asB (Ag (gEq true) (Ai Bx (Ac (Ab 4) Ah)) (Ai Bx (Ac (Ab 5) Ah)))) (λ_=>.bad) nxS)
  (Av (ifS (Qn (asB (Ag (gEq false) (Ab 2) (gc (.str ("call":Str))))) (Qn (asB (Ag (gEq false) (Ab 3) (CJ ai "own" (Ab 0)))) (asB (Ag Kc (Ag AB (Ab 4) (gc (.int 0))) (CJ ai "lessers" (Ab 0)))))) (λ_=>.bad) nxS)
  (Av (Dq (itZ (Ab 4) (Ab 5)) (AW 2 (Af (tgN 7) (Af (tgN 8) AN))) (ifS (asB (Ag (gEq true) (fz (Ai (Ak 2 rec) (Ad (fz (Ab 0)) (Ad (fz (Ab 7)) Ah)))) (Ab 8))) (λ_=>.bad) nxS))
  (retS (Ab 6))))))))
noncomputable def AQ(ai:Addr)(af:Addr):Nat->FS->Out Rv
 |0=>λ_=>.bad
 |n+1=>Bo 7 (Cz ai af (AQ ai af n))
noncomputable def D5(ai:Addr):FS->SO :=
  (Av (HY ai "stock" 0 (fz (Ab 1)))
  (Av (HY ai "heads" 0 (fz (Ab 2)))
  (Av (HY ai "kinds_by_name" 0 (fz (Ab 3)))
  (Av (HY ai "own" 0 (fz (Ab 4)))
  (HY ai "lessers" 0 (fz (Ab 5)))))))
noncomputable def BK(ai:Addr):FS->Out Rv:=Bo 0 (D5 ai)
noncomputable def Ew(ai:Addr)(af:Addr):FS->SO :=
  (Av (Hi (fz (Ab 2)) (AW 5 (Af (tgN 5) (Af (tgN 6) (Af (tgN 7) (Af (tgN 8) (Af (tgN 9) AN)))))))
  (Av (Hi (fz (Ab 4)) (AW 2 (Af (tgN 10) (Af (tgN 11) AN))))
  (Av (AL 12 (fz (BH af "parts" 2 (Bk af) (fz (Ab 0)) (Ad (fz (Ab 3)) Ah))))
  (Av (ifS (asB (Ag (gEq true) (Ai Bx (Ac (Ab 10) Ah)) (Ai Bx (Ac (Ab 12) Ah)))) (λ_=>.bad) nxS)
  (Av (AE (Ai (Ak 1 Cy) (Ad (fz (Ag Aw (fz (Ai Cu (Ac (Ab 10) Ah))) (fz (Ai Cu (Ac (Ab 8) Ah))))) Ah)))
  (Av (AL 13 (fz (Ny (Ac (fz (Ag Aw (fz (Ai Cu (Ac (Ab 10) Ah))) (fz (Ai Cu (Ac (Ab 8) Ah))))) (Ac (fz (Ag Aw (fz (Ai Cu (Ac (Ab 12) Ah))) (fz (Ai Cu (Ac (slF (Ab 6) (C5 (gc (.int 1))) noP) Ah))))) Ah)))))
  (Av (AL 14 (Cj false [none,some 13,some 6] (itU (fz (Ab 10))) (tgN 0) (asB (Ag (gEq false) (Ag AB (Ab 1) (fz (Ab 0))) (Ag AB (Ab 2) (gc (.int 0))))) (An Ar (Ac (gc (.str ("name":Str))) (Ac (fz (Ab 0)) Ah)))))
  (ifS (asB (Ag (gEq true) (fz (Ai (Ak 2 (AQ ai af 8)) (Ad (fz (Ai (E6 ai 6 (BK ai)) (Ad (fz (Ab 0)) (Ad (fz (Ab 1)) (Ad (fz (Ab 13)) (Ad (fz (Ab 5)) (Ad (fz (Ab 14)) Ah))))))) (Ad (fz (Ab 11)) Ah)))) (Ab 7))) (λ_=>.bad) nxS))))))))
noncomputable def B1(ai:Addr)(af:Addr):FS->Out Rv:=Bo 10 (Ew ai af)
noncomputable def Dd(ag:Addr)(ai:Addr)(af:Addr):FS->SO :=
  (Av (HY ag "stock" 0 (fz (Ab 1)))
  (Av (HY ag "heads" 0 EK)
  (Av (HY ag "rows_by_function" 0 EK)
  (Dq (itU (fz (Ab 2))) (tgN 3) (Av (AE (ID 0 (Ai (Ak 3 (Cg af)) (Ad (fz (Ab 1)) (Ad (CJ ag "heads" (Ab 0)) (Ad (fz (Ab 3)) Ah))))))
  (Av (Hi (fz (Ab 3)) (AW 5 (Af (tgN 4) (Af (tgN 5) (Af (tgN 6) (Af (tgN 7) (Af (tgN 8) AN)))))))
  (Av (CO ag "heads" 0 4 (An Ar (Ac (Ai BP (Ac (Ab 5) Ah)) (Ac (fz (Ab 6)) Ah))))
  (Av (LD ag "rows_by_function" 0 4)
  (Dq (itZ (fz (BH af "makers" 2 (Az af) (fz (Ab 1)) (Ad (Ag AB (Ab 5) (gc (.int 0))) Ah))) (Ab 8)) (AW 2 (Af (tgN 9) (Af (tgN 10) AN))) (Av (AE (ID 0 (Ai (Ak 5 (B1 ai af)) (Ad (fz (Ab 1)) (Ad (CJ ag "heads" (Ab 0)) (Ad (fz (Ab 3)) (Ad (fz (Ab 9)) (Ad (fz (Ab 10)) Ah))))))))
  (dput2 ag "rows_by_function" 0 4 9 (An Ar (Ac (Ag Aw (Ai BP (Ac (Ag AB (Ab 10) (gc (.int 0))) Ah)) (Ai BP (Ac (Ab 7) Ah))) (Ac (Ag AB (Ab 10) (gc (.int 1))) Ah))))))))))))))
noncomputable def BE(ag:Addr)(ai:Addr)(af:Addr):FS->Out Rv:=Bo 8 (Dd ag ai af)
noncomputable def WZ:FS->SO :=
  (Av (AL 4 (Ag AB (Ab 0) (gc (.int 3))))
  (Av (AL 5 (Ag AB (Ab 0) (gc (.int 4))))
  (Av (AL 6 (An Er Ah))
  (Av (Dq (itU (An Cw (Ac (fz (Ab 4)) (Ac (fz (Ab 5)) Ah)))) (tgN 7) (AE (BC Fv (Ab 6) (Ac (An Ar (Ac (gc (.str ("call":Str))) (Ac (fz (Ab 1)) (Ac (Ag Aw (An Ar (Ac (An Ar (Ac (gc (.str ("name":Str))) (Ac (fz (Ab 7)) Ah))) Ah)) (Ai BP (Ac (Cj false [none] (itU (fz (Ab 2))) (tgN 0) EX (An Ar (Ac (gc (.str ("name":Str))) (Ac (fz (Ab 0)) Ah)))) Ah))) Ah)))) Ah))))
  (Av (AL 8 (An Ar (Ac (gc (.str ("make":Str))) (Ac (Ag AB (Ab 0) (gc (.int 0))) (Ac (An Ar Ah) Ah)))))
  (Av (ifS (asB (Ag (Jan true) (Ab 2) (An Ar Ah))) (AL 8 (An Ar (Ac (gc (.str ("name":Str))) (Ac (Ag AB (Ab 2) (gc (.int 0))) Ah)))) nxS)
  (Av (ifS (asB (Ag (gEq false) (Ab 3) (gc (.int 0)))) (retS (An Ar (Ac (An Ar (Ac (An Ar Ah) (Ac (fz (Ab 8)) Ah))) (Ac (An Ar (Ac (An Ar (Ac (fz (Ab 4)) Ah)) (Ac (Ag AB (Ab 6) (gc (.int 0))) Ah))) (Ac (An Ar (Ac (An Ar (Ac (fz (Ab 4)) (Ac (fz (Ab 5)) Ah))) (Ac (Ag AB (Ab 6) (gc (.int 1))) Ah))) Ah))))) nxS)
  (Av (ifS (asB (Ag (gEq false) (Ab 3) (gc (.int 1)))) (Av (AL 9 (An Ar (Ac (gc (.str ("make":Str))) (Ac (Ag AB (Ab 0) (gc (.int 2))) (Ac (An Ar (Ac (Ag AB (Ab 6) (gc (.int 0))) (Ac (Ag AB (Ab 6) (gc (.int 0))) Ah))) Ah)))))
  (retS (An Ar (Ac (An Ar (Ac (An Ar Ah) (Ac (fz (Ab 8)) Ah))) (Ac (An Ar (Ac (An Ar (Ac (fz (Ab 4)) Ah)) (Ac (fz (Ab 9)) Ah))) (Ac (An Ar (Ac (An Ar (Ac (fz (Ab 4)) (Ac (fz (Ab 5)) Ah))) (Ac (fz (Ab 8)) Ah))) Ah)))))) nxS)
  (retS (An Ar (Ac (An Ar (Ac (An Ar Ah) (Ac (fz (Ab 8)) Ah))) (Ac (An Ar (Ac (An Ar (Ac (fz (Ab 4)) Ah)) (Ac (An Ar (Ac (gc (.str ("make":Str))) (Ac (Ag AB (Ab 0) (gc (.int 1))) (Ac (An Ar (Ac (Ag AB (Ab 6) (gc (.int 0))) Ah)) Ah)))) Ah))) (Ac (An Ar (Ac (An Ar (Ac (fz (Ab 4)) (Ac (fz (Ab 5)) Ah))) (Ac (Ag AB (Ab 6) (gc (.int 0))) Ah))) Ah)))))))))))))
noncomputable def Es:FS->Out Rv:=Bo 6 (WZ)
noncomputable def Ij(ag:Addr)(ai:Addr)(af:Addr):FS->SO :=
  (Av (AL 1 (Ag AB (Ab 0) (gc (.int 5))))
  (Av (AL 2 (fz (Ai (E6 af 2 (Ci af)) (Ad (An Cw (Ac (An Ar (Ac (fz (Ab 1)) (Ac (An Cw (Ac (An Ar (Ac (Ag AB (Ab 0) (gc (.int 0))) (Ac (An Ar Ah) Ah))) (Ac (An Ar (Ac (Ag AB (Ab 0) (gc (.int 1))) (Ac (An Ar (Ac (fz (Ab 1)) Ah)) Ah))) (Ac (An Ar (Ac (Ag AB (Ab 0) (gc (.int 2))) (Ac (An Ar (Ac (fz (Ab 1)) (Ac (fz (Ab 1)) Ah))) Ah))) Ah)))) Ah))) Ah)) Ah))))
  (Av (AL 3 (An Er Ah))
  (Av (Dq (O4 (Ac (gc (.int 3)) Ah)) (tgN 4) (Av (AL 5 (slF (An Ar (Ac (Ag AB (Ab 0) (gc (.int 5))) Ah)) noP (C5 (Ai Nh (Ac (Ag (gEq false) (Ab 4) (gc (.int 2))) Ah)))))
  (Av (AL 6 (Ag Pj (An Ar (Ac (fz (Ab 1)) Ah)) (Ag Aw (gc (.int 1)) (Ai Bx (Ac (Ab 5) Ah)))))
  (AE (BC Fv (Ab 3) (Ac (An Ar (Ac (Ag AB (Ab 0) (Ag Aw (gc (.int 6)) (Ab 4))) (Ac (fz (Ab 6)) (Ac (fz (Ab 1)) (Ac (fz (Ab 5)) (Ac (fz (Ai (Ak 4 Es) (Ad (fz (Ab 0)) (Ad (Ag AB (Ab 0) (Ag Aw (gc (.int 6)) (Ab 4))) (Ad (fz (Ab 5)) (Ad (fz (Ab 4)) Ah)))))) Ah)))))) Ah))))))
  (retS (Ai (E6 ag 3 (BE ag ai af)) (Ad (fz (Ab 2)) (Ad (fz (Ab 3)) Ah))))))))
noncomputable def Dk(ag:Addr)(ai:Addr)(af:Addr):FS->Out Rv:=Bo 6 (Ij ag ai af)
noncomputable def S9:FS->SO :=
  (Av (AL 3 (fz (Ab 2)))
  (Av (Dq (O4 (Ac (Ab 1) Ah)) (tgN 4) (AL 3 (An Ar (Ac (Ag AB (Ab 0) (gc (.int 1))) (Ac (An Ar (Ac (fz (Ab 3)) Ah)) Ah)))))
  (retS (Ab 3))))
noncomputable def B8:FS->Out Rv:=Bo 2 (S9)
noncomputable def Hd:FS->SO :=
  (Av (ifS (asB (Ag (gEq false) (Ab 0) (gc (.int 0)))) (retS (An Ar (Ac (Ag Aw (Ab 2) (gc (.int 1))) (Ac (Ag gLe (Ag Aw (Ab 2) (gc (.int 1))) (gc (.int 20))) (Ac (An Ar (Ac (Ag AB (Ab 1) (gc (.int 0))) (Ac (An Ar Ah) Ah))) Ah))))) nxS)
  (Av (ifS (asB (Ag (gEq false) (Ab 0) (gc (.int 1)))) (Av (AL 4 (An Ar (Ac (Ag AB (Ab 1) (gc (.int 0))) (Ac (An Ar Ah) Ah))))
  (Av (Dq (O4 (Ac (Ab 2) Ah)) (tgN 5) (AL 4 (An Ar (Ac (Ag AB (Ab 1) (gc (.int 2))) (Ac (An Ar (Ac (fz (Ab 4)) (Ac (fz (Ab 4)) Ah))) Ah)))))
  (retS (An Ar (Ac (Ag Di (Ag Wa (gc (.int 1)) (Ag Aw (Ab 2) (gc (.int 1)))) (gc (.int 1))) (Ac (gc (.o true)) (Ac (fz (Ab 4)) Ah))))))) nxS)
  (Av (ifS (asB (Ag (gEq false) (Ab 0) (gc (.int 2)))) (retS (An Ar (Ac (Ag Aw (Ab 2) (gc (.int 1))) (Ac (Us (Ag gLe (Ag Aw (Ab 2) (gc (.int 1))) (gc (.int 20))) (orV (Ag (gEq false) (Ab 2) (gc (.int 0))) (Ag gLe (Ag Aw (Ab 2) (Ab 3)) (gc (.int 40))))) (Ac (gc .v) Ah))))) nxS)
  (retS (An Ar (Ac (gc (.int 0)) (Ac (Ag gLe (Ag Aw (Ag Aw (gc (.int 1)) (Ab 2)) (Ab 3)) (gc (.int 300))) (Ac (gc .v) Ah))))))))
noncomputable def Bm:FS->Out Rv:=Bo 2 (Hd)
noncomputable def Eg:FS->SO :=
  (Av (ifS (asB (Ag gLt (Ab 1) (Ai Bx (Ac (Ab 0) Ah)))) (retS (Ag AB (Ab 0) (fz (Ab 1)))) nxS)
  (retS (gc (.int 0))))
noncomputable def Ax:FS->Out Rv:=Bo 0 (Eg)
noncomputable def LH(rec:FS->Out Rv):FS->SO :=
  (Av (ifS (asB (Ag gLt (Ab 1) (gc (.int 3)))) (retS (Ai (Ak 3 B8) (Ad (fz (Ab 0)) (Ad (Ag Di (Ab 1) (gc (.int 1))) (Ad (An Ar (Ac (Ag AB (Ab 0) (gc (.int 0))) (Ac (An Ar Ah) Ah))) Ah))))) nxS)
  (Av (AL 2 (Ag GH (Ag Di (Ab 1) (gc (.int 1))) (gc (.int 2))))
  (retS (An Ar (Ac (Ag AB (Ab 0) (gc (.int 2))) (Ac (An Ar (Ac (fz (Ai (Ak 2 rec) (Ad (fz (Ab 0)) (Ad (fz (Ab 2)) Ah)))) (Ac (fz (Ai (Ak 2 rec) (Ad (fz (Ab 0)) (Ad (Ag Di (Ag Di (Ab 1) (gc (.int 1))) (Ab 2)) Ah)))) Ah))) Ah))))))
noncomputable def BI:Nat->FS->Out Rv
 |0=>λ_=>.bad
 |n+1=>Bo 1 (LH (BI n))
noncomputable def Bv(aq:Addr):FS->SO :=
  (Av (AE (DI aq "waiting" 0 (An Ar (Ac (fz (Ab 1)) (Ac (fz (Ab 2)) (Ac (fz (Ab 3)) (Ac (gc (.o true)) Ah)))))))
  (Dq (Ja9 (Ag AB (Ab 1) (gc (.int 2)))) (tgN 4) (AE (DI aq "waiting" 0 (An Ar (Ac (fz (Ab 4)) (Ac (fz (Ab 2)) (Ac (fz (Ab 3)) (Ac (gc (.o false)) Ah)))))))))
noncomputable def A1(aq:Addr):FS->Out Rv:=Bo 1 (Bv aq)
noncomputable def Jl(ag:Addr):FS->SO :=
  (Av (ifS (asB (Ag (DK true) (fz (Ab 1)) (CJ ag "rows_by_function" (Ab 0)))) (λ_=>.bad) nxS)
  (Av (ifS (asB (Ag (DK true) (fz (Ab 2)) (Ag AB (CJ ag "rows_by_function" (Ab 0)) (fz (Ab 1))))) (λ_=>.bad) nxS)
  (retS (Ag AB (Ag AB (CJ ag "rows_by_function" (Ab 0)) (fz (Ab 1))) (fz (Ab 2))))))
noncomputable def Bl(ag:Addr):FS->Out Rv:=Bo 0 (Jl ag)
noncomputable def Hx:FS->SO :=
  (Av (AL 1 (An Er Ah))
  (Av (AL 2 (An Cw (Ac (fz (Ab 0)) Ah)))
  (Av (Cc (Hh (Ab 2)) (Av (AE (BC Fv (Ab 1) (Ac (Ai Bx (Ac (Ab 2) Ah)) Ah)))
  (Av (AL 3 (An Er Ah))
  (Av (Dq (itU (fz (Ab 2))) (AW 2 (Af (tgN 4) (Af (tgN 5) AN))) (AE (BC Ni (Ab 3) (Ac (fz (Ab 5)) Ah))))
  (AL 2 (fz (Ab 3)))))) 1000)
  (retS (Ab 1)))))
noncomputable def B6:FS->Out Rv:=Bo 5 (Hx)
noncomputable def KO:FS->SO :=
  (Av (AL 1 (fz (Ai (Ak 1 B6) (Ad (fz (Ab 0)) Ah))))
  (retS (An Ar (Ac (fz (Ab 0)) (Ac (Ai T3 (Ac (Ab 1) Ah)) (Ac (Ai Bx (Ac (Ab 1) Ah)) Ah))))))
noncomputable def BQ:FS->Out Rv:=Bo 1 (KO)
noncomputable def Bp(ag:Addr)(aq:Addr):FS->SO :=
  (Av (ifS (asB (Ag gLe (CJ aq "calls_left" (Ab 0)) (gc (.int 0)))) (JH "TooLong" (Ac (gc (.str ("there are too many calls":Str))) Ah)) nxS)
  (Av (ifS (asB (Ag gGt (Ab 3) (gc (.int 20)))) (JH "TooLong" (Ac (gc (.str ("a call is too deep":Str))) Ah)) nxS)
  (Av (N0 aq "calls_left" 0 1)
  (Av (Hi (Ag AB (Ag AB (Ab 2) (gc (.int 0))) (gc (.int 0))) (AW 2 (Af (tgN 4) (Af (tgN 5) AN))))
  (Av (Hi (fz (BH ag "row" 3 (Bl ag) (CJ aq "program" (Ab 0)) (Ad (fz (Ab 1)) (Ad (fz (Ab 4)) Ah)))) (AW 2 (Af (tgN 6) (Af (tgN 7) AN))))
  (Av (AL 8 (fz (Ag Aw (Cj false [none] (itU (fz (Ab 5))) (tgN 0) EX (fz (Ai (Ak 1 BQ) (Ad (fz (Ab 0)) Ah)))) (slF (Ab 2) (C5 (gc (.int 1))) noP))))
  (AE (DI aq "waiting" 0 (An Ar (Ac (fz (Ab 7)) (Ac (fz (Ny (Ac (Ab 6) (Ac (Ab 8) Ah)))) (Ac (Ag Aw (Ab 3) (gc (.int 1))) (Ac (gc (.o false)) Ah)))))))))))))
noncomputable def AV(ag:Addr)(aq:Addr):FS->Out Rv:=Bo 5 (Bp ag aq)
noncomputable def Qh:FS->SO :=
  (Av (AL 2 (Ag Aw (gc (.int 1)) (Ai T3 (Ac (Cj false [none] (itU (fz (Ab 1))) (tgN 0) EX (Ag AB (Ab 0) (gc (.int 1)))) Ah))))
  (Av (AL 3 (Ag Aw (gc (.int 1)) (maxD 0 (Ac (Cj false [none] (itU (fz (Ab 1))) (tgN 0) EX (Ag AB (Ab 0) (gc (.int 2)))) Ah))))
  (Av (ifS (orT (asB (Ag gGt (Ab 2) (gc (.int 300)))) (asB (Ag gGt (Ab 3) (gc (.int 40))))) (JH "TooLong" (Ac (gc (.str ("a thing is too great or too deep":Str))) Ah)) nxS)
  (retS (An Ar (Ac (An Ar (Ac (fz (Ab 0)) (Ac (Ai BP (Ac (Cj false [none] (itU (fz (Ab 1))) (tgN 0) EX (Ag AB (Ab 0) (gc (.int 0)))) Ah)) Ah))) (Ac (fz (Ab 2)) (Ac (fz (Ab 3)) Ah))))))))
noncomputable def Kl:FS->Out Rv:=Bo 2 (Qh)
noncomputable def Hc(aq:Addr):FS->SO :=
  (Av (AL 2 (An Er Ah))
  (Av (Dq (O4 (Ac (Ab 1) Ah)) (tgN 3) (AE (BC Fv (Ab 2) (Ac (fz (Hl aq "worths" 0)) Ah))))
  (retS (Jaf (Ab 2)))))
noncomputable def B3(aq:Addr):FS->Out Rv:=Bo 2 (Hc aq)
noncomputable def Hb(ag:Addr)(aq:Addr):FS->SO :=
  (Av (AE (DI aq "waiting" 0 (An Ar (Ac (fz (Ab 2)) (Ac (fz (Ab 1)) (Ac (gc (.int 1)) (Ac (gc (.o false)) Ah)))))))
  (Av (Cc (MR aq "waiting" 0) (Av (Hi (fz (Hl aq "waiting" 0)) (AW 4 (Af (tgN 3) (Af (tgN 4) (Af (tgN 5) (Af (tgN 6) AN))))))
  (ifS (asB (Ag (gEq false) (Ag AB (Ab 3) (gc (.int 0))) (gc (.str ("name":Str))))) (AE (DI aq "worths" 0 (Ag AB (Ab 4) (Ag AB (Ab 3) (gc (.int 1)))))) (ifS (Fq (Hh (Ab 6))) (AE (BH aq "await_arguments" 4 (A1 aq) (Ab 0) (Ad (fz (Ab 3)) (Ad (fz (Ab 4)) (Ad (fz (Ab 5)) Ah))))) (ifS (asB (Ag (gEq false) (Ag AB (Ab 3) (gc (.int 0))) (gc (.str ("make":Str))))) (AE (DI aq "worths" 0 (fz (Ai (Ak 2 Kl) (Ad (Ag AB (Ab 3) (gc (.int 1))) (Ad (fz (BH aq "taken" 2 (B3 aq) (Ab 0) (Ad (Ai Bx (Ac (Ag AB (Ab 3) (gc (.int 2))) Ah)) Ah))) Ah)))))) (AE (BH aq "await_body" 4 (AV ag aq) (Ab 0) (Ad (Ag AB (Ab 3) (gc (.int 1))) (Ad (fz (BH aq "taken" 2 (B3 aq) (Ab 0) (Ad (Ai Bx (Ac (Ag AB (Ab 3) (gc (.int 2))) Ah)) Ah))) (Ad (fz (Ab 5)) Ah))))))))) 4000)
  (retS (Ag AB (RG aq "worths" 0) (gc (.int 0))))))
noncomputable def Bu(ag:Addr)(aq:Addr):FS->Out Rv:=Bo 4 (Hb ag aq)
noncomputable def Fi(aq:Addr):FS->SO :=
  (Av (HY aq "program" 0 (fz (Ab 1)))
  (Av (HY aq "calls_left" 0 (fz (Ab 2)))
  (Av (HY aq "waiting" 0 (An Er Ah))
  (HY aq "worths" 0 (An Er Ah)))))
noncomputable def CK(aq:Addr):FS->Out Rv:=Bo 0 (Fi aq)
noncomputable def b_run(ag:Addr)(aq:Addr):FS->SO :=
  (Av (AL 4 EK)
  (Av (Dq (itI (Ab 1)) (AW 2 (Af (tgN 5) (Af (tgN 6) AN))) (Dg (fz (Ai (Ak 1 BQ) (Ad (fz (Ab 6)) Ah))) (Ab 4) (fz (Ab 5))))
  (retS (newMeth aq "worth" 3 (Bu ag aq) (Ai (E6 aq 3 (CK aq)) (Ad (fz (Ab 0)) (Ad (fz (Ab 3)) Ah))) (Ad (fz (Ab 4)) (Ad (fz (Ab 2)) Ah))))))
noncomputable def f_run(ag:Addr)(aq:Addr):FS->Out Rv:=Bo 3 (b_run ag aq)
noncomputable def NG:FS->SO :=
  (Av (AL 1 (An Cw (Ac (isX xrs D6 "BadName" (Ab 0)) (Ac (isX xrs D6 "Twice" (Ab 0)) (Ac (isX xrs D6 "BadCount" (Ab 0)) Ah)))))
  (Av (AL 1 (fz (Ag Aw (Ab 1) (An Cw (Ac (isX xrs D6 "NoKind" (Ab 0)) (Ac (isX xrs D6 "Groundless" (Ab 0)) (Ac (isX xrs D6 "NoMaker" (Ab 0)) Ah)))))))
  (Av (AL 1 (fz (Ag Aw (Ab 1) (An Cw (Ac (isX xrs D6 "NoName" (Ab 0)) (Ac (isX xrs D6 "NoFunction" (Ab 0)) (Ac (isX xrs D6 "NotLess" (Ab 0)) Ah)))))))
  (Av (AL 1 (fz (Ag Aw (Ab 1) (An Cw (Ac (isX xrs D6 "BadKind" (Ab 0)) (Ac (isX xrs D6 "TooLong" (Ab 0)) (Ac (isX xrs D6 "NoPlace" (Ab 0)) Ah)))))))
  (retS (Ag Aw (Ab 1) (An Cw (Ac (isX xrs D6 "NotShown" (Ab 0)) (Ac (isX xrs D6 "NoSaying" (Ab 0)) (Ac (isX xrs D6 "BadText" (Ab 0)) Ah))))))))))
noncomputable def CL:FS->Out Rv:=Bo 1 (NG)
noncomputable def S8:FS->SO :=
  (Av (ifS (orT (Fq (Hh (isV xrs (Ab 0)))) (asB (Ag (gEq true) (fz (BC Jao (fz (Ai (Ak 1 CL) (Ad (fz (Ab 0)) Ah))) (Ac (gc (.o true)) Ah))) (gc (.int 1))))) (retS (JbV (gc (.int 1)))) nxS)
  (retS (BC Jal (fz (Ai (Ak 1 CL) (Ad (fz (Ab 0)) Ah))) (Ac (gc (.o true)) Ah))))
noncomputable def Ed:FS->Out Rv:=Bo 0 (S8)
noncomputable def b_Lright(ag:Addr)(aq:Addr):FS->SO :=
  (Av (AL 5 (gc .v))
  (Av (AL 6 (gc .v))
  (Av (Xb 7 (λc=>xrs.contains c&&D6 c "SayError") (AL 6 (fz (Ai (Ak 4 (f_run ag aq)) (Ad (fz (Ab 0)) (Ad (fz (Ab 1)) (Ad (fz (Ab 2)) (Ad (fz (Ab 3)) Ah))))))) (AL 5 (fz (Ab 7))))
  (Av (ifS (asB (Ag (T4 false) (Ab 4) (gc .v))) (retS (Ag (gEq false) (fz (Ai (Ak 1 Ed) (Ad (fz (Ab 5)) Ah))) (gc (.int 10)))) nxS)
  (retS (Us (Ag (T4 false) (Ab 5) (gc .v)) (Ag Nk (Ab 6) (Ab 4))))))))
noncomputable def f_Lright(ag:Addr)(aq:Addr):FS->Out Rv:=Bo 3 (b_Lright ag aq)
noncomputable def b_law(ag:Addr)(aq:Addr)(ai:Addr)(af:Addr):FS->SO :=
  (Av (AL 1 (fz (Ai (Ak 2 Ee) (Ad (fz (Ai (Ak 2 Ax) (Ad (fz (Ab 0)) (Ad (gc (.int 0)) Ah)))) (Ad (gc (.int 9)) Ah)))))
  (Av (AL 2 (fz (Ai (Ak 1 (Dk ag ai af)) (Ad (fz (Ab 1)) Ah))))
  (Av (AL 3 (Ag DE (fz (Ai (Ak 2 Ax) (Ad (fz (Ab 0)) (Ad (gc (.int 1)) Ah)))) (gc (.int 4))))
  (Av (AL 4 (Ag AB (An Cw (Ac (Ag DE (fz (Ai (Ak 2 Ax) (Ad (fz (Ab 0)) (Ad (gc (.int 2)) Ah)))) (gc (.int 25))) (Ac (Ag DE (fz (Ai (Ak 2 Ax) (Ad (fz (Ab 0)) (Ad (gc (.int 2)) Ah)))) (gc (.int 8))) (Ac (Ag DE (fz (Ai (Ak 2 Ax) (Ad (fz (Ab 0)) (Ad (gc (.int 2)) Ah)))) (gc (.int 21))) Ah)))) (Ai IW (Ac (Ab 3) (Ac (gc (.int 2)) Ah)))))
  (Av (AL 5 (Ag Aw (gc (.int 18)) (Ag DE (fz (Ai (Ak 2 Ax) (Ad (fz (Ab 0)) (Ad (gc (.int 3)) Ah)))) (gc (.int 8)))))
  (Av (AL 6 (fz (Ai (Ak 3 B8) (Ad (fz (Ab 1)) (Ad (fz (Ab 4)) (Ad (An Ar (Ac (Ag AB (Ab 1) (gc (.int 0))) (Ac (An Ar Ah) Ah))) Ah))))))
  (Av (AL 7 (fz (Ai (Ak 3 B8) (Ad (fz (Ab 1)) (Ad (Ag Di (Ab 5) (gc (.int 1))) (Ad (An Ar (Ac (Ag AB (Ab 1) (gc (.int 0))) (Ac (An Ar Ah) Ah))) Ah))))))
  (Av (AL 8 (An Ar (Ac (gc (.str ("call":Str))) (Ac (Ag AB (Ab 1) (Ag Aw (gc (.int 6)) (Ai IW (Ac (Ab 3) (Ac (gc (.int 2)) Ah))))) (Ac (slF (An Ar (Ac (An Ar (Ac (gc (.str ("name":Str))) (Ac (gc (.str ("x":Str))) Ah))) (Ac (An Ar (Ac (gc (.str ("name":Str))) (Ac (gc (.str ("y":Str))) Ah))) Ah))) noP (C5 (Ag Aw (gc (.int 1)) (Ai Nh (Ac (Ag (gEq false) (Ab 3) (gc (.int 2))) Ah))))) Ah)))))
  (Av (ifS (asB (Ag (gEq false) (Ab 3) (gc (.int 3)))) (Av (AL 4 (Ag Aw (gc (.int 140)) (Ag DE (fz (Ai (Ak 2 Ax) (Ad (fz (Ab 0)) (Ad (gc (.int 2)) Ah)))) (gc (.int 18)))))
  (Av (AL 5 (Ag Aw (gc (.int 140)) (Ag DE (fz (Ai (Ak 2 Ax) (Ad (fz (Ab 0)) (Ad (gc (.int 3)) Ah)))) (gc (.int 18)))))
  (Av (AL 6 (fz (Ai (Ak 2 (BI 10)) (Ad (fz (Ab 1)) (Ad (fz (Ab 4)) Ah)))))
  (Av (AL 7 (fz (Ai (Ak 2 (BI 10)) (Ad (fz (Ab 1)) (Ad (fz (Ab 5)) Ah)))))
  (AL 8 (An Ar (Ac (gc (.str ("make":Str))) (Ac (Ag AB (Ab 1) (gc (.int 2))) (Ac (An Ar (Ac (An Ar (Ac (gc (.str ("name":Str))) (Ac (gc (.str ("x":Str))) Ah))) (Ac (An Ar (Ac (gc (.str ("name":Str))) (Ac (gc (.str ("y":Str))) Ah))) Ah))) Ah))))))))) nxS)
  (Av (Hi (fz (Ai (Ak 4 Bm) (Ad (fz (Ab 3)) (Ad (fz (Ab 1)) (Ad (fz (Ab 4)) (Ad (fz (Ab 5)) Ah)))))) (AW 3 (Af (tgN 9) (Af (tgN 10) (Af (tgN 11) AN)))))
  (Av (ifS (asB (Ag (gEq false) (Ab 3) (gc (.int 2)))) (AL 11 (fz (Ai (Ak 3 B8) (Ad (fz (Ab 1)) (Ad (fz (Ab 4)) (Ad (fz (Ab 7)) Ah)))))) nxS)
  (Av (ifS (asB (Ag (gEq false) (Ab 3) (gc (.int 3)))) (AL 11 (An Ar (Ac (Ag AB (Ab 1) (gc (.int 2))) (Ac (An Ar (Ac (fz (Ab 6)) (Ac (fz (Ab 7)) Ah))) Ah)))) nxS)
  (Av (AL 12 (SK "x" "y" 6 7))
  (Av (ifS (Fq (Hh (Ab 10))) (AL 11 (gc .v)) nxS)
  (Av (ifS (Fq (Hh (fz (Ai (Ak 5 (f_Lright ag aq)) (Ad (fz (Ab 2)) (Ad (fzW (Ab 12)) (Ad (fz (Ab 8)) (Ad (gc (.int 2000)) (Ad (fz (Ab 11)) Ah))))))))) (retS (gc (.o false))) nxS)
  (Av (ifS (Fq (Hh (fz (Ai (Ak 5 (f_Lright ag aq)) (Ad (fz (Ab 2)) (Ad (fzW (Ab 12)) (Ad (fz (Ab 8)) (Ad (fz (Ab 9)) (Ad (fz (Ab 11)) Ah))))))))) (retS (gc (.o false))) nxS)
  (retS (orV (Ag (gEq false) (Ab 9) (gc (.int 0))) (fz (Ai (Ak 5 (f_Lright ag aq)) (Ad (fz (Ab 2)) (Ad (fzW (Ab 12)) (Ad (fz (Ab 8)) (Ad (Ag Di (Ab 9) (gc (.int 1))) (Ad (gc .v) Ah)))))))))))))))))))))))))
noncomputable def f_law(ag:Addr)(aq:Addr)(ai:Addr)(af:Addr):FS->Out Rv:=Bo 12 (b_law ag aq ai af)
end Sy
namespace Nm
noncomputable def M(c:Int):Int:=(c*c+c+1)*982451653
noncomputable def W(c:Int):Int:=1+M c%12
noncomputable def At(c:Int):Int:=M c/12%W c
noncomputable def Ce(i:Int):Nat:=97+(i%26).toNat
noncomputable def base(c:Int)(j:Nat):Nat:=Ce (M c/((j:Int)+5)+(j:Int)*j)
noncomputable def stepI(c:Int):Nat:=(M c/144%6).toNat
noncomputable def step(c:Int):Int:=([1,3,5,7,9,11]:List Int).getD (stepI c) 1
noncomputable def one(c:Int)(k:Nat):Nat:=Ce (M c/864+(k:Int)*step c)
noncomputable def Kx(c:Int)(k:Nat):List Nat:=List.replicate (((k:Int)+M c/7)%12+1).toNat (base c 0)
noncomputable def Ib(c:Int)(k:Nat):List Nat:=(List.range (At c).toNat).map (base c)++[one c k]++(List.range ((W c).toNat-((At c).toNat+1))).map λj=>base c ((At c).toNat+1+j)
noncomputable def codes(c:Int)(k:Nat):List Nat:=if M c/900%3=1 then Kx c k else Ib c k
theorem Jab(c:Int):1<=W c:=by unfold W;omega
theorem JbH(c:Int):W c<=12:=by unfold W;omega
theorem Jac(c:Int):0<=At c:=Int.emod_nonneg _ (by have:=Jab c;omega)
theorem Jad(c:Int):At c<W c:=Int.emod_lt_of_pos _ (by have:=Jab c;omega)
theorem OQ(i:Int):97<=Ce i:=by unfold Ce;omega
theorem OR(i:Int):Ce i<=122:=by unfold Ce;omega
theorem QJ(c:Int):step c=1\/step c=3\/step c=5\/step c=7\/step c=9\/step c=11:=by
 have h:stepI c<6:=by unfold stepI;omega
 unfold step;generalize stepI c=i at h
 match i,h with|0,_=>simp|1,_=>simp|2,_=>simp|3,_=>simp|4,_=>simp|5,_=>simp
theorem one_inj(hk:k<12)(fY:k'<12)(h:one c k=one c k'):k=k':=by
 unfold one Ce at h;have h':=by omega
 generalize M c/864=m at h';rcases QJ c with e|e|e|e|e|e<;>rw[e]at h'<;>omega
theorem Ef(c:Int)(k:Nat):(Kx c k).length=(((k:Int)+M c/7)%12+1).toNat:=by unfold Kx;simp
theorem Ia(c:Int)(k:Nat):(Ib c k).length=(W c).toNat:=by unfold Ib;simp only[t5,sU,ux,List.length_singleton];have:=Jac c;have:=Jad c;omega
theorem SR(c:Int)(k:Nat):1<=(codes c k).length:=by
 unfold codes;split
 .rw[Ef];omega
 .rw[Ia];have:=Jab c;omega
theorem MA(c:Int)(k:Nat):(codes c k).length<=12:=by
 unfold codes;split
 .rw[Ef];omega
 .rw[Ia];have:=JbH c;omega
theorem Jd(c:Int)(k:Nat):∀x∈codes c k,97<=x/\x<=122:=by
 intro x hx;have key:∃i,x=Ce i:=by
  unfold codes at hx;split at hx
  .unfold Kx at hx;exact⟨_,(List.mem_replicate.mp hx).2⟩
  .unfold Ib at hx;rcases tE.mp hx with hx|hx
   .rcases tE.mp hx with hx|hx
    .obtain⟨j,_,rfl⟩:=t8.mp hx;exact⟨_,rfl⟩
    .rw[tK.mp hx];exact⟨_,rfl⟩
   .obtain⟨j,_,rfl⟩:=t8.mp hx;exact⟨_,rfl⟩
 obtain⟨i,rfl⟩:=key;exact⟨OQ i,OR i⟩
theorem P1(hk:k<12)(fY:k'<12)(h:codes c k=codes c k'):k=k':=by
 unfold codes at h;split at h
 .have e:=congrArg List.length h;rw[Ef,Ef]at e;omega
 .unfold Ib at h;rw[t9,t9]at h;have h1:=List.append_cancel_left h;exact one_inj hk fY (List.cons.inj h1).1
end Nm
namespace Sy
open PySem PySem.Spec L2 FL
theorem Cp(e:g fs=.nx ar):Av g h fs=h ar:=by unfold Av;rw[e]
abbrev vl(t:T):Option Sl:=some (.val t)
abbrev iv(i:Int):Option Sl:=some (.val (.int i))
def Fre:Option Sl->Prop
 |some (.bor _)=>False
 |_=>True
theorem Aq:Fre none:=True.intro
theorem AD:Fre (vl t):=True.intro
theorem Bn(e:fs[i]?=some x)(h:Fre x):MT i (.t t) fs=some (fs.set i (vl t)):=by unfold MT;rw[e];cases x with|none=>rfl|some s=>cases s with|val t=>rfl|own o=>rfl|bor o=>exact h.elim
theorem GV:∀(ts:List T)(x:Option Sl)(ay:List T),Fre x->(∀t∈ts,fe (vl t::rest)=.ok (.t (f t)) (vl t::rest))->ay.length+ts.length<=big ->
  ∃y,Fre y/\Dc (tgN 0) EX fe ts (x::rest) ay=some (ay++ts.map f,y::rest)
 | [],x,ay,hx,_,_=>⟨x,hx,by simp[Dc]⟩
 |t::ts,x,ay,hx,h,hl=>by
  obtain⟨y,hy,e⟩:=GV ts (vl t) (ay++[f t]) AD (λt' m=>h t' (sZ _ m)) (by simp at hl ⊢;lia);refine⟨y,hy,?_⟩;have h1:tgN 0 t (x::rest)=some (vl t::rest):=by unfold tgN;rw[Bn rfl hx];rfl
  have h3:ay.length<big:=by simp at hl;lia
  simp only[Dc,h1,EX,(h t tZ),if_pos h3,e];simp
theorem Dw(P:List T->FS->Prop)(step:∀t ts fs,P (t::ts) fs->∃aj aB,gt t fs=some aj/\body aj=.nx aB/\P ts aB):∀(ts:List T)(fs:FS),P ts fs->∃ar,DW gt body ts fs=.nx ar/\P [] ar
 | [],fs,h=>⟨fs,rfl,h⟩
 |t::ts,fs,h=>by obtain⟨aj,aB,e1,e2,h2⟩:=step t ts fs h;obtain⟨ar,e,hp⟩:=Dw P step ts aB h2;exact⟨ar,by simp only[DW,e1,e2,e],hp⟩
theorem Fj:∀ns:List Int,BW (ns.map T.int)=some ns
 | []=>rfl
 |n::ns=>by simp[BW,Fj ns]
def IsI(t:T)(ns:List Int):Prop:=t=.zU (ns.map T.int)\/t=.lst (ns.map T.int)
theorem IsI.seq(h:IsI t ns)(fs:FS):Cs fs (.t t)=some (ns.map T.int):=by rcases h with rfl|rfl<;>rfl
variable{i j:Int}{fs:FS}
theorem Br:Aw (.t (.int i)) (.t (.int j)) fs=.ok (.t (.int (i+j))) fs:=rfl
theorem HW:Di (.t (.int i)) (.t (.int j)) fs=.ok (.t (.int (i-j))) fs:=rfl
theorem Ft(h:0<j):DE (.t (.int i)) (.t (.int j)) fs=.ok (.t (.int (i%j))) fs:=if_pos h
theorem HX(h:0<j/\j<1073741824):GH (.t (.int i)) (.t (.int j)) fs=.ok (.t (.int (i/j))) fs:=if_pos h
theorem Pk(h:-(2^64)<i/\i<2^64):CN (.t (.int i)) (.t (.int j)) fs=.ok (.t (.int (i*j))) fs:=by have e:Xf (.t (.int i)) (.t (.int j)) fs=.ok (.t (.int (i*j))) fs:=if_pos (by rw[tQ h];rfl);unfold CN orG;rw[e]
theorem Wf(h:Builtin.Int.intBits i<=2^26/\Builtin.Int.intBits j<=2^26):CN (.t (.int i)) (.t (.int j)) fs=.ok (.t (.int (i*j))) fs:=by have e:Xf (.t (.int i)) (.t (.int j)) fs=.ok (.t (.int (i*j))) fs:=if_pos (by rw[tQ h.1,tQ h.2];simp);unfold CN orG;rw[e]
theorem Eb(h:Cs fs x=some ts)(e:atI ts i=some t):AB x (.t (.int i)) fs=.ok (.t t) fs:=by
 have e':gIx x (.t (.int i)) fs=.ok (.t t) fs:=by simp only[gIx,h,e,okT]
 unfold AB orG;rw[e']
theorem Y9(h:IsI t ns)(h0:0<=i)(h1:i<ns.length):AB (.t t) (.t (.int i)) fs=.ok (.t (.int (ns.getD i.toNat 0))) fs:=by
 refine Eb (h.seq fs) ?_;have e:(ns.map T.int)[i.toNat]?=some (T.int (ns.getD i.toNat 0)):=by
  have:i.toNat<ns.length:=by lia
  simp[this]
 have:=DA e;rwa[Int.toNat_of_nonneg h0]at this
theorem HJ{j}:∀{is:List Ini}{k:Nat},(∀i∈is,BN fs i=none)->FL.placeOf fs j is k=none
 | [],_,_=>rfl
 |i::is,k,h=>by simp only[FL.placeOf];rw[h i tZ,if_neg (by simp)];exact HJ λi' m=>h i' (sZ _ m)
theorem Ih(h:∀i∈is,BN fs i=none):∀(gs:FS)(j:Nat),Jk fs is τ j gs=some gs
 | [],_=>rfl
 |g::gs,j=>by simp only[Jk,LG,HJ h,Ih h gs (j+1)]
theorem AS(h:C8 fs is=[]):D2 is τ fs=some fs:=Ih (List.filterMap_eq_nil_iff.mp h) fs 0
theorem DY(h1:fi fs=.ok ts fs)(h2:(C8 fs (src.map λo=>o.elim Ini.no Ini.slot)).Nodup/\(src.all λo=>o.elim true λj=>decide (j<fs.length))=true)
  (h3:Dc gt ft fe ts (B0 fs (src.map λo=>o.elim Ini.no Ini.slot)) []=some (vs,τ)) (h4:D2 (src.map λo=>o.elim Ini.no Ini.slot) τ fs=some ar):Cj false src fi gt ft fe fs=.ok (.t (.lst vs)) ar:=by
 unfold Cj;rw[h1];simp only[Out.bind];rw[if_pos h2,h3];dsimp only;rw[h4];rfl
noncomputable def nmS(c:Int)(k:Nat):Str:=⟨(Nm.codes c k).toArray⟩
noncomputable def nms(c:Int)(n:Nat):List Str:=(List.range n).map (nmS c)
noncomputable def ABC:Str:="abcdefghijklmnopqrstuvwxyz"
theorem Jaa:∀j,j<26->ABC.cps.toList[j]?=some (97+j):=by decide +kernel
theorem Qi(x:Int):atI ABC.cps.toList (x%26)=some (Nm.Ce x):=by
 have h:(x%26).toNat<26:=by lia
 have e:=DA (Jaa _ h);rw[Int.toNat_of_nonneg (by lia)]at e;exact e
theorem HR:∀ys:List Str,(Str.join (⟨#[]⟩:Str) ys).cps.toList=(ys.map λy=>y.cps.toList).flatten
 | []=>rfl
 | [x]=>by simp[Str.join]
 |x::y::r=>by show(x.cps++#[]++(Str.join ⟨#[]⟩ (y::r)).cps).toList=_;rw[sW,List.flatten_cons,<- (HR (y::r))];simp
theorem join_ones(f:Nat->Nat)(js:List Nat):(Txt.join (⟨#[]⟩:Str) (js.map λj=>(⟨#[f j]⟩:Str))).cps.toList=js.map f:=by
 show(Builtin.Str.glued _ _).cps.toList=_;rw[StrLaws.glued_eq_join,HR]
 induction js with|nil=>rfl|cons j r ih =>rw[sW,sW,List.flatten_cons,ih,sW];rfl
theorem UI{x y:Str}(h:x.cps.toList=y.cps.toList):x=y:=by
 obtain⟨a⟩:=x;obtain⟨b⟩:=y;have:a=b:=by simpa using h
 rw[this]
theorem OI(c:Nat)(n:Int)(h0:1<=n):(Txt.mul (⟨#[c]⟩:Str) n).cps.toList=List.replicate n.toNat c:=by
 unfold Txt.mul;rw[if_neg (by lia)];by_cases h1:n=1
 .subst h1;rfl
 .rw[if_neg (by simp[h1,Str.length])];have key:∀(m:Nat)(ay:Array Nat),((List.replicate m #[c]).foldl (·++·) ay).toList=ay.toList++List.replicate m c:=by
   intro m
   induction m with|zero=>intro ay;simp|succ m ih =>intro ay;rw[uM,List.foldl_cons,ih,uM];simp
  have:=key n.toNat #[];simpa using this
theorem PM:Str.ofString ""=(⟨#[]⟩:Str):=rfl
theorem Ri(f:Nat->Nat)(js:List Nat):((js.map λj=>(⟨#[f j]⟩:Str)).map (·.length)).sum=js.length:=by
 induction js with
 |nil=>rfl
 |cons j r ih =>
  rw[sW,sW,List.sum_cons,ih,tM];show 1+r.length=_
  lia
theorem Mi(f:Nat->Nat)(js:List Nat):(Txt.join (⟨#[]⟩:Str) (js.map λj=>(⟨#[f j]⟩:Str))).length=js.length:=by have e:=congrArg List.length (join_ones f js);rw[sU]at e;rw[<- e];simp[Str.length]
noncomputable def BV(c:Int)(n:Nat):List Str:=(List.range n).map λj=>(⟨#[Nm.base c j]⟩:Str)
theorem ND(c:Int)(n k:Nat)(h:k<=n):(BV c n).take k=BV c k:=by unfold BV;rw[<- List.map_take,List.take_range,Nat.min_eq_left h]
theorem NF(c:Int)(n k:Nat):(BV c n).drop k=(List.range (n-k)).map λj=>(⟨#[Nm.base c (k+j)]⟩:Str):=by
 unfold BV;rw[<- List.map_drop];apply List.ext_getElem?;intro i;rw[t7,t7,List.getElem?_drop];by_cases hi:k+i<n
 .rw[uW hi,uW (by lia)];rfl
 .rw[uq (by simp;lia),uq (by simp;lia)];rfl
theorem We(h:-(2^64)<j/\j<2^64):CN (.t (.int i)) (.t (.int j)) fs=.ok (.t (.int (i*j))) fs:=by have e:Xf (.t (.int i)) (.t (.int j)) fs=.ok (.t (.int (i*j))) fs:=if_pos (by rw[tQ h];simp);unfold CN orG;rw[e]
theorem Wc(h:z.length=1/\1<=n/\n<=1000):CN (.t (.str z)) (.t (.int n)) fs=.ok (.t (.str (Txt.mul z n))) fs:=by have e2:Xf (.t (.str z)) (.t (.int n)) fs=.bad:=rfl;unfold CN orG;rw[e2];exact(if_pos h)
theorem Pr(h:x.length+y.length<=big):Aw (.t (.str x)) (.t (.str y)) fs=.ok (.t (.str (x++y))) fs:=by have e:Sh (.t (.str x)) (.t (.str y)) fs=.ok (.t (.str (x++y))) fs:=if_pos h;have e2:Jbe (.t (.str x)) (.t (.str y)) fs=.bad:=rfl;unfold Aw orG;rw[e2];dsimp only;rw[e]
theorem Mq(hz:z.length<=big)(e:atI z.cps.toList i=some c):AB (.t (.str z)) (.t (.int i)) fs=.ok (.t (.str ⟨#[c]⟩)) fs:=by
 have e':gIx (.t (.str z)) (.t (.int i)) fs=.ok (.t (.str ⟨#[c]⟩)) fs:=by simp only[gIx,Cs,hz,if_true,e,okT]
 unfold AB orG;rw[e']
theorem Ik:∀xs:List Str,Cv (xs.map T.str)=some xs
 | []=>rfl
 |n::ns=>by simp[Cv,Ik ns]
theorem PZ(h0:0<=v)(h1:v.toNat<=xs.length):Um xs none (some v)=xs.take v.toNat:=by show(xs.drop 0).take ((if v<0 then(v+(xs.length:Int)).toNat else min v.toNat xs.length)-0)=_;rw[if_neg (by lia),Nat.min_eq_left h1];simp
theorem Kt(h0:0<=v)(h1:v.toNat<=xs.length):Um xs (some v) none=xs.drop v.toNat:=by show(xs.drop (if v<0 then(v+(xs.length:Int)).toNat else min v.toNat xs.length)).take (xs.length-(if v<0 then(v+(xs.length:Int)).toNat else min v.toNat xs.length))=_;rw[if_neg (by lia),Nat.min_eq_left h1];exact vf (by rw[List.length_drop];lia)
theorem Ta(c:Int):atI [T.int 1,T.int 3,T.int 5,T.int 7,T.int 9,T.int 11] (Nm.M c/144%6)=some (T.int (Nm.step c)):=by
 have h:Nm.stepI c<6:=by unfold Nm.stepI;lia
 have e:([T.int 1,T.int 3,T.int 5,T.int 7,T.int 9,T.int 11]:List T)[Nm.stepI c]?=some (T.int (Nm.step c)):=by
  unfold Nm.step;generalize Nm.stepI c=i at h
  match i,h with|0,_=>rfl|1,_=>rfl|2,_=>rfl|3,_=>rfl|4,_=>rfl|5,_=>rfl
 have e2:=DA e;unfold Nm.stepI at e2;rwa[Int.toNat_of_nonneg (by lia)]at e2
theorem W4:ABC.length<=big:=by decide +kernel
theorem VZ{f:Nat->Nat}{js:List Nat}(h:js.length<=1000):GG (.t (.str ("":Str))) [.t (.lst ((js.map λj=>(⟨#[f j]⟩:Str)).map T.str))] fs=.ok (.t (.str (Txt.join (⟨#[]⟩:Str) (js.map λj=>(⟨#[f j]⟩:Str))))) fs:=by have e0:("":Str).length=0:=rfl;simp only[GG,Cs,ub,Ik,Ri,e0,Nat.mul_zero,Nat.add_zero];rw[if_pos (show js.length<=big from tY h (by decide)),show("":Str)=(⟨#[]⟩:Str)from PM];simp only[okT]
theorem JG(e:fa fs=.ok [.t (.int j)] fs)(h:-(2^62)<=j/\j<2^62):O4 fa fs=.ok (FL.upTo 0 j.toNat) fs:=by unfold O4;rw[e];simp only[Out.bind];exact if_pos h
theorem Aj(h1:fa fs=.ok (.t x) fs)(h2:fb fs=.ok (.t y) fs)(h3:g (.t x) (.t y) fs=r):Ag g fa fb fs=r:=by unfold Ag;rw[h1];show(fb fs).bnd _=r;rw[h2];exact h3
theorem Aa{i}(h:fs[i]?=some (vl t)):Ab i fs=.ok (.t t) fs:=by unfold Ab;rw[h]
theorem Ay:gc t fs=.ok (.t t) fs:=rfl
theorem Ja5(gL:L.length<=big)(hL:∀x:Int,atI L.cps.toList (x%26)=some (Nm.Ce x))(m:Int)(k:Nat)(hk:k<12):
  Ag AB (Ab 1) (Ag DE (Ag Aw (Ag GH (Ab 2) (Ag Aw (Ab 0) (gc (.int 5)))) (Ag CN (Ab 0) (Ab 0))) (gc (.int 26))) [iv (k:Int),vl (.str L),iv m]=.ok (.t (.str ⟨#[Nm.Ce (m/((k:Int)+5)+(k:Int)*(k:Int))]⟩)) [iv (k:Int),vl (.str L),iv m] :=
 Aj (Aa rfl) (Aj (Aj (Aj (Aa rfl) (Aj (Aa rfl) Ay Br) (HX ⟨by lia,by lia⟩)) (Aj (Aa rfl) (Aa rfl) (Pk ⟨by lia,by lia⟩)) Br) Ay (Ft (by decide))) (Mq gL (hL _))
theorem AI{i}(h:f fs=.ok (.t t) fs)(hs:MT i (.t t) fs=some ar):AL i f fs=.nx ar:=by unfold AL;rw[h];show(match MT i (.t t) fs with|some fs=>SO.nx fs|none=>.bad)=_;rw[hs]
theorem Ao(h1:f fs=.ok (.t t) fs)(h2:g fs=.ok rs fs):Ac f g fs=.ok (.t t::rs) fs:=by unfold Ac;rw[h1];show(g fs).bind _=_;rw[h2];rfl
theorem Am(h:f fs=.ok (.t t) fs):fz f fs=.ok (.t t) fs:=by unfold fz;rw[h];rfl
theorem BU(h:fa fs=.ok rs fs)(h2:g rs fs=r):Ai g fa fs=r:=by unfold Ai;rw[h];exact h2
theorem MI{i}(h0:fs[i]?=some (some (.own (.lst ts))))(h:f fs=.ok (.t t) fs)(hl:ts.length<big)(e:fs.set i (some (.own (.lst (ts++[t]))))=ar):AE (BC Fv (Ab i) (Ac f Ah)) fs=.nx ar:=by
 have h1:Ab i fs=.ok (.n i) fs:=by unfold Ab;rw[h0]
 have h2:FL.AH fs i=some (.lst ts):=by unfold FL.AH;rw[h0]
 have h3:Cs fs (.n i)=some ts:=by simp only[Cs,h2]
 have h4:Ac f Ah fs=.ok [.t t] fs:=Ao h rfl;have h5:Fv (.n i) [.t t] fs=.ok (.t .v) ar:=by
  simp only[Fv,h2];rw[if_pos hl];have:FL.putAt fs i (.lst (ts++[t]))=ar:=by unfold FL.putAt;rw[h0];exact e
  rw[this]
 have h6:BC Fv (Ab i) (Ac f Ah) fs=.ok (.t .v) ar:=by unfold BC;rw[h1];show(if(Cs fs (.n i)).isSome=true then _ else _)=_;rw[h3,if_pos (show(some ts).isSome=true from rfl),h4];exact h5
 unfold AE;rw[h6];rfl
theorem DU(hc:c fs=.ok true fs)(e:g fs=r):ifS c g h fs=r:=by unfold ifS;rw[hc];exact e
theorem AU(hc:c fs=.ok false fs)(e:h fs=r):ifS c g h fs=r:=by unfold ifS;rw[hc];exact e
theorem ZS(h1:fa fs=.ok (.t (.int i)) fs)(h2:fb fs=.ok (.t (.int j)) fs):asB (Ag (gEq false) fa fb) fs=.ok (decide (i=j)) fs:=by
 have e:gEq false (.t (.int i)) (.t (.int j)) fs=.ok (.t (.o (decide (i=j)))) fs:=by
  have q:decide (V.int i=V.int j)=decide (i=j):=by simp
  show(if N9 (V.int i) (V.int j)=true then okT (.o (if false=true then _ else decide (V.int i=V.int j))) fs else .bad)=_;rw[if_pos (show N9 (V.int i) (V.int j)=true from rfl),q];rfl
 unfold asB;rw[Aj h1 h2 e];rfl
theorem FX(h:fa fs=.ok rs fs)(h2:Qs rs=some ts)(h3:ts.length<=big):An Cw fa fs=.ok (.t (.lst ts)) fs:=by unfold An;rw[h];show(match Qs rs with|some ts=>_|none=>_)=_;rw[h2];exact if_pos h3
theorem QN(h1:f fs=.ok (.t (.lst ts)) fs)(h2:g fs=.ok (.t (.int v)) fs)(h0:0<=v)(hl:v.toNat<=ts.length):slF f noP (C5 g) fs=.ok (.t (.lst (ts.take v.toNat))) fs:=by unfold slF;rw[h1];show((C5 g) fs).bind _=_;unfold C5;rw[h2];simp only[Out.bnd,Out.bind];simp only[Xe,Cs,okT];rw[PZ h0 hl]
theorem LQ(h1:f fs=.ok (.t (.lst ts)) fs)(h2:g fs=.ok (.t (.int v)) fs)(h0:0<=v)(hl:v.toNat<=ts.length):slF f (C5 g) noP fs=.ok (.t (.lst (ts.drop v.toNat))) fs:=by unfold slF;rw[h1];show((C5 g) fs).bind _=_;unfold C5;rw[h2];simp only[Out.bnd,Out.bind,noP];simp only[Xe,Cs,okT];rw[Kt h0 hl]
theorem Mj{g:Nat->Nat}{js:List Nat}(h:f fs=.ok (.t (.lst ((js.map λj=>(⟨#[g j]⟩:Str)).map T.str))) fs)(hl:js.length<=1000):fz (IL GG (gc (.str ("":Str))) (Ac f Ah)) fs=.ok (.t (.str (Txt.join (⟨#[]⟩:Str) (js.map λj=>(⟨#[g j]⟩:Str))))) fs:=by refine Am ?_;unfold IL gc;show((Ac f Ah fs).bind _)=_;rw[(Ao h (show Ah fs=.ok [] fs from rfl))];exact VZ hl
theorem VB(gL:L.length<=big)(hL:∀x:Int,atI L.cps.toList (x%26)=some (Nm.Ce x))(sN:0<=w)(hw:w<=12)(m a:Int)(hm:m=Nm.M c)(x0 x1 x6 x7 x8 x9 dr:Option Sl):
  Cj false [none,some 2,some 3] (O4 (Ac (Ab 4) Ah)) (tgN 0) EX (Ag AB (Ab 1) (Ag DE (Ag Aw (Ag GH (Ab 2) (Ag Aw (Ab 0) (gc (.int 5)))) (Ag CN (Ab 0) (Ab 0))) (gc (.int 26)))) [x0,x1,vl (.str L),iv m,iv w,iv a,x6,x7,x8,x9,dr]=.ok (.t (.lst ((BV c w.toNat).map T.str))) [x0,x1,vl (.str L),iv m,iv w,iv a,x6,x7,x8,x9,dr]:=by
 obtain⟨y,hy,e2⟩:=GV (f:=λt'=>match t' with|.int i=>.str ⟨#[Nm.Ce (m/(i+5)+i*i)]⟩|_=>.v) (rest:=[vl (.str L),iv m]) (FL.upTo 0 w.toNat) none [] Aq (λt' mt=>by
   unfold FL.upTo at mt;rw[t8]at mt;obtain⟨k,mk,rfl⟩:=mt;have hk:=uG.mp mk;rw[Int.zero_add];exact Ja5 gL hL m k (by lia)) (by
   unfold FL.upTo;rw[sU,ux];show 0+_<=1000000
   lia)
 have e3:=DY (src:=[none,some 2,some 3]) (JG (fa:=Ac (Ab 4) Ah) (fs:=[x0,x1,vl (.str L),iv m,iv w,iv a,x6,x7,x8,x9,dr]) (Ao (Aa rfl) rfl) ⟨by lia,by lia⟩) ⟨by rw[show C8 [x0,x1,vl (.str L),iv m,iv w,iv a,x6,x7,x8,x9,dr] _=[]from rfl];exact tJ,by rfl⟩ e2 (AS rfl);rw[e3,ue];have e4:(FL.upTo 0 w.toNat).map (λt'=>match t' with|.int i=>T.str ⟨#[Nm.Ce (m/(i+5)+i*i)]⟩|_=>.v)=(BV c w.toNat).map T.str:=by
  subst hm;unfold FL.upTo BV;rw[ua,ua];refine List.map_congr_left λk _=>?_
  simp only[Function.comp_apply,Int.zero_add,Nm.base]
 rw[e4]
theorem VA{i}(gL:L.length<=big)(hL:∀x:Int,atI L.cps.toList (x%26)=some (Nm.Ce x))(hm:m=Nm.M c)(hw:w=Nm.W c)(ha:a=Nm.At c)(bL:st=Nm.step c)(hi:i<12)(dr:Option Sl)(hx:Fre dr):
  ∃cJ,Fre cJ/\(Av (AL 10 (Ag AB (Ab 2) (Ag DE (Ag Aw (Ag GH (Ab 3) (gc (.int 864))) (Ag CN (Ab 9) (Ab 7))) (gc (.int 26)))))
  (ifS (asB (Ag (gEq false) (Ag DE (Ag GH (Ab 3) (gc (.int 900))) (gc (.int 3))) (gc (.int 1)))) (AE (BC Fv (Ab 8) (Ac (Ag CN (Ag AB (Ab 6) (gc (.int 0))) (Ag Aw (Ag DE (Ag Aw (Ab 9) (Ag GH (Ab 3) (gc (.int 7)))) (gc (.int 12))) (gc (.int 1)))) Ah))) (AE (BC Fv (Ab 8) (Ac (Ag Aw (Ag Aw (fz (IL GG (gc (.str ("":Str))) (Ac (slF (Ab 6) noP (C5 (Ab 5))) Ah))) (Ab 10)) (fz (IL GG (gc (.str ("":Str))) (Ac (slF (Ab 6) (C5 (Ag Aw (Ab 5) (gc (.int 1)))) noP) Ah)))) Ah)))))
   [iv c,iv n,vl (.str L),iv m,iv w,iv a,vl (.lst ((BV c w.toNat).map T.str)),iv st,some (.own (.lst ((nms c i).map T.str))),iv (i:Int),dr] =
   .nx [iv c,iv n,vl (.str L),iv m,iv w,iv a,vl (.lst ((BV c w.toNat).map T.str)),iv st,some (.own (.lst ((nms c (i+1)).map T.str))),iv (i:Int),cJ]:=by
 have w0:=Nm.Jab c;have w1:=Nm.JbH c;have a0:=Nm.Jac c;have a1:=Nm.Jad c;rw[<- hw]at w0 w1 a1;rw[<- ha]at a0 a1;have kR:Nm.one c i=Nm.Ce (m/864+(i:Int)*st):=by rw[hm,bL];rfl
 have jq:((nms c i).map T.str).length<big:=by
  unfold nms;rw[sU,sU,ux];show i<1000000
  lia
 have mR:∀z:Str,z.cps.toList=Nm.codes c i->(nms c i).map T.str++[T.str z]=(nms c (i+1)).map T.str:=λz ez=>by unfold nms;rw[List.range_succ,tL,tL];have:z=nmS c i:=UI (by rw[ez];simp[nmS]);rw[this];rfl
 refine⟨vl (.str ⟨#[Nm.one c i]⟩),AD,?_⟩;have s1:AL 10 (Ag AB (Ab 2) (Ag DE (Ag Aw (Ag GH (Ab 3) (gc (.int 864))) (Ag CN (Ab 9) (Ab 7))) (gc (.int 26)))) [iv c,iv n,vl (.str L),iv m,iv w,iv a,vl (.lst ((BV c w.toNat).map T.str)),iv st,some (.own (.lst ((nms c i).map T.str))),iv (i:Int),dr] =
   .nx [iv c,iv n,vl (.str L),iv m,iv w,iv a,vl (.lst ((BV c w.toNat).map T.str)),iv st,some (.own (.lst ((nms c i).map T.str))),iv (i:Int),vl (.str ⟨#[Nm.one c i]⟩)]:=by
  rw[kR];exact AI (Aj (Aa rfl) (Aj (Aj (Aj (Aa rfl) Ay (HX ⟨by decide,by decide⟩)) (Aj (Aa rfl) (Aa rfl) (Pk ⟨by lia,by lia⟩)) Br) Ay (Ft (by decide))) (Mq gL (hL _))) (Bn rfl hx)
 rw[Cp s1];have hc:=ZS (fa:=Ag DE (Ag GH (Ab 3) (gc (.int 900))) (gc (.int 3))) (fb:=gc (.int 1)) (fs:=[iv c,iv n,vl (.str L),iv m,iv w,iv a,vl (.lst ((BV c w.toNat).map T.str)),iv st,some (.own (.lst ((nms c i).map T.str))),iv (i:Int),vl (.str ⟨#[Nm.one c i]⟩)])
  (Aj (Aj (Aa (t:=.int m) rfl) Ay (HX ⟨by decide,by decide⟩)) Ay (Ft (by decide))) Ay
 by_cases h1:m/900%3=1
 .rw[tQ h1]at hc;have eb:((BV c w.toNat).map T.str)[0]?=some (T.str ⟨#[Nm.base c 0]⟩):=by unfold BV;rw[ua,t7,uW (by lia)];rfl
  refine DU hc (MI (t:=.str (Txt.mul ⟨#[Nm.base c 0]⟩ (((i:Int)+m/7)%12+1))) rfl (Aj (Aj (Aa rfl) Ay (Eb (i:=0) rfl (DA eb))) (Aj (Aj (Aj (Aa rfl) (Aj (Aa rfl) Ay (HX ⟨by decide,by decide⟩)) Br) Ay (Ft (by decide))) Ay Br) (Wc ⟨rfl,by lia,by lia⟩)) jq ?_);rw[mR _ (by rw[OI _ _ (by lia),Nm.codes,<- hm,if_pos h1,Nm.Kx,<- hm])];rfl
 .rw[tS h1]at hc;have el:((BV c w.toNat).map T.str).length=w.toNat:=by unfold BV;rw[sU,sU,ux]
  have et:((BV c w.toNat).map T.str).take a.toNat=((List.range a.toNat).map λj=>(⟨#[Nm.base c j]⟩:Str)).map T.str:=by rw[<- List.map_take,ND c _ _ (by lia)];rfl
  have ed:((BV c w.toNat).map T.str).drop (a+1).toNat=((List.range (w.toNat-(a+1).toNat)).map λj=>(⟨#[Nm.base c ((a+1).toNat+j)]⟩:Str)).map T.str:=by rw[<- List.map_drop,NF]
  have j1:=QN (f:=Ab 6) (g:=Ab 5) (fs:=[iv c,iv n,vl (.str L),iv m,iv w,iv a,vl (.lst ((BV c w.toNat).map T.str)),iv st,some (.own (.lst ((nms c i).map T.str))),iv (i:Int),vl (.str ⟨#[Nm.one c i]⟩)]) (Aa rfl) (Aa (t:=.int a) rfl) a0 (by rw[el];lia);have j2:=LQ (f:=Ab 6) (g:=Ag Aw (Ab 5) (gc (.int 1))) (fs:=[iv c,iv n,vl (.str L),iv m,iv w,iv a,vl (.lst ((BV c w.toNat).map T.str)),iv st,some (.own (.lst ((nms c i).map T.str))),iv (i:Int),vl (.str ⟨#[Nm.one c i]⟩)]) (v:=a+1) (Aa rfl) (Aj (Aa (t:=.int a) rfl) Ay Br) (by lia) (by rw[el];lia);rw[et]at j1;rw[ed]at j2;have l1:(Txt.join (⟨#[]⟩:Str) ((List.range a.toNat).map λj=>(⟨#[Nm.base c j]⟩:Str))).length=a.toNat:=by rw[Mi,ux]
  have l2:(Txt.join (⟨#[]⟩:Str) ((List.range (w.toNat-(a+1).toNat)).map λj=>(⟨#[Nm.base c ((a+1).toNat+j)]⟩:Str))).length=w.toNat-(a+1).toNat:=by rw[Mi (λj=>Nm.base c ((a+1).toNat+j)),ux]
  refine AU hc (MI (t:=.str ((Txt.join (⟨#[]⟩:Str) ((List.range a.toNat).map λj=>(⟨#[Nm.base c j]⟩:Str))++(⟨#[Nm.one c i]⟩:Str))++Txt.join (⟨#[]⟩:Str) ((List.range (w.toNat-(a+1).toNat)).map λj=>(⟨#[Nm.base c ((a+1).toNat+j)]⟩:Str)))) rfl (Aj (Aj (Mj j1 (by rw[ux];lia)) (Aa rfl) (Pr ?_)) (Mj (g:=λj=>Nm.base c ((a+1).toNat+j)) j2 (by rw[ux];lia)) (Pr ?_)) jq ?_)
  .rw[l1];show a.toNat+1<=1000000
   lia
  .rw[strLen_append,l1,l2];show a.toNat+1+_<=1000000
   lia
  .rw[mR _ ?_]
   .rfl
   .have q1:=join_ones (Nm.base c) (List.range a.toNat);have ea:(a+1).toNat=a.toNat+1:=by lia
    show(((Txt.join (⟨#[]⟩:Str) _).cps++#[Nm.one c i])++(Txt.join (⟨#[]⟩:Str) _).cps).toList=_;rw[Array.toList_append,Array.toList_append,q1,(join_ones (λj=>Nm.base c ((a+1).toNat+j)) (List.range (w.toNat-(a+1).toNat))),Nm.codes,<- hm,if_neg h1,Nm.Ib,<- ha,<- hw,ea]
theorem IY(e:fa fs=.ok [.t (.int (n:Int))] fs)(h:n<2^62)(ef:DW gt body (FL.upTo 0 n) fs=r):Dq (O4 fa) gt body fs=r:=by unfold Dq;rw[JG e ⟨by lia,by lia⟩,u9];exact ef
theorem M7{n:Nat}(hn:n<=12)(hb:Builtin.Int.intBits c<=2^20):∃x2 x3 x4 x5 x6 x7 x9 dr,F9 [iv c,iv n,none,none,none,none,none,none,none,none,none]=.ret (.n 8) [iv c,iv n,x2,x3,x4,x5,x6,x7,some (.own (.lst ((nms c n).map T.str))),x9,dr]:=by
 have gA:Builtin.Int.intBits c<=2^26:=tY hb (by decide);have w0:=Nm.Jab c;have w1:=Nm.JbH c;have hL:∀x:Int,atI ("abcdefghijklmnopqrstuvwxyz":Str).cps.toList (x%26)=some (Nm.Ce x):=Qi;have gL:("abcdefghijklmnopqrstuvwxyz":Str).length<=big:=W4;unfold F9;generalize ("abcdefghijklmnopqrstuvwxyz":Str)=L at hL gL;have s2:AL 2 (gc (.str L)) [iv c,iv n,none,none,none,none,none,none,none,none,none]=.nx [iv c,iv n,vl (.str L),none,none,none,none,none,none,none,none]:=rfl;have s3:AL 3 (Ag CN (Ag Aw (Ag Aw (Ag CN (Ab 0) (Ab 0)) (Ab 0)) (gc (.int 1))) (gc (.int 982451653))) [iv c,iv n,vl (.str L),none,none,none,none,none,none,none,none]=.nx [iv c,iv n,vl (.str L),iv (Nm.M c),none,none,none,none,none,none,none]:=by unfold Nm.M;exact AI (Aj (Aj (Aj (Aj (Aa rfl) (Aa rfl) (Wf ⟨gA,gA⟩)) (Aa rfl) Br) Ay Br) Ay (We ⟨by decide,by decide⟩)) rfl
 generalize hm:Nm.M c=m at s3;have s4:AL 4 (Ag Aw (gc (.int 1)) (Ag DE (Ab 3) (gc (.int 12)))) [iv c,iv n,vl (.str L),iv m,none,none,none,none,none,none,none]=.nx [iv c,iv n,vl (.str L),iv m,iv (Nm.W c),none,none,none,none,none,none]:=by unfold Nm.W;rw[hm];exact AI (Aj Ay (Aj (Aa rfl) Ay (Ft (by decide))) Br) rfl
 generalize hw:Nm.W c=w at s4 w0 w1;have s5:AL 5 (Ag DE (Ag GH (Ab 3) (gc (.int 12))) (Ab 4)) [iv c,iv n,vl (.str L),iv m,iv w,none,none,none,none,none,none]=.nx [iv c,iv n,vl (.str L),iv m,iv w,iv (Nm.At c),none,none,none,none,none]:=by unfold Nm.At;rw[hm,hw];exact AI (Aj (Aj (Aa rfl) Ay (HX ⟨by decide,by decide⟩)) (Aa rfl) (Ft (by lia))) rfl
 generalize ha:Nm.At c=a at s5;have s6:=AI (i:=6) (ar:=[iv c,iv n,vl (.str L),iv m,iv w,iv a,vl (.lst ((BV c w.toNat).map T.str)),none,none,none,none]) (VB gL hL (c:=c) (w:=w) (by lia) w1 m a hm.symm (iv c) (iv n) none none none none none) rfl;have s7:AL 7 (Ag AB (An Cw (Ac (gc (.int 1)) (Ac (gc (.int 3)) (Ac (gc (.int 5)) (Ac (gc (.int 7)) (Ac (gc (.int 9)) (Ac (gc (.int 11)) Ah))))))) (Ag DE (Ag GH (Ab 3) (gc (.int 144))) (gc (.int 6)))) [iv c,iv n,vl (.str L),iv m,iv w,iv a,vl (.lst ((BV c w.toNat).map T.str)),none,none,none,none]=.nx [iv c,iv n,vl (.str L),iv m,iv w,iv a,vl (.lst ((BV c w.toNat).map T.str)),iv (Nm.step c),none,none,none]:=by have e:=Ta c;rw[hm]at e;exact AI (Aj (FX rfl rfl (by decide)) (Aj (Aj (Aa rfl) Ay (HX ⟨by decide,by decide⟩)) Ay (Ft (by decide))) (Eb rfl e)) rfl
 generalize bL:Nm.step c=st at s7;have s8:AL 8 (An Er Ah) [iv c,iv n,vl (.str L),iv m,iv w,iv a,vl (.lst ((BV c w.toNat).map T.str)),iv st,none,none,none]=.nx [iv c,iv n,vl (.str L),iv m,iv w,iv a,vl (.lst ((BV c w.toNat).map T.str)),iv st,some (.own (.lst [])),none,none]:=rfl;have jM:=Dw (gt:=tgN 9) (body:=(Av (AL 10 (Ag AB (Ab 2) (Ag DE (Ag Aw (Ag GH (Ab 3) (gc (.int 864))) (Ag CN (Ab 9) (Ab 7))) (gc (.int 26)))))
  (ifS (asB (Ag (gEq false) (Ag DE (Ag GH (Ab 3) (gc (.int 900))) (gc (.int 3))) (gc (.int 1)))) (AE (BC Fv (Ab 8) (Ac (Ag CN (Ag AB (Ab 6) (gc (.int 0))) (Ag Aw (Ag DE (Ag Aw (Ab 9) (Ag GH (Ab 3) (gc (.int 7)))) (gc (.int 12))) (gc (.int 1)))) Ah))) (AE (BC Fv (Ab 8) (Ac (Ag Aw (Ag Aw (fz (IL GG (gc (.str ("":Str))) (Ac (slF (Ab 6) noP (C5 (Ab 5))) Ah))) (Ab 10)) (fz (IL GG (gc (.str ("":Str))) (Ac (slF (Ab 6) (C5 (Ag Aw (Ab 5) (gc (.int 1)))) noP) Ah)))) Ah))))))
  (λts fs=>∃(i:Nat)(x9 dr:Option Sl),fs=[iv c,iv n,vl (.str L),iv m,iv w,iv a,vl (.lst ((BV c w.toNat).map T.str)),iv st,some (.own (.lst ((nms c i).map T.str))),x9,dr]/\Fre x9/\Fre dr/\i<=n/\ts=(FL.upTo 0 n).drop i) (λt' ts fs h=>?_) (FL.upTo 0 n) [iv c,iv n,vl (.str L),iv m,iv w,iv a,vl (.lst ((BV c w.toNat).map T.str)),iv st,some (.own (.lst [])),none,none]
  ⟨0,none,none,rfl,Aq,Aq,uR _,rfl⟩
 .obtain⟨ar,ef,i,x9,dr,rfl,_,_,hi,hd⟩:=jM;have qC:i=n:=by
   have:=congrArg List.length hd;simp[FL.upTo]at this
   lia
  subst qC;refine⟨vl (.str L),iv m,iv w,iv a,vl (.lst ((BV c w.toNat).map T.str)),iv st,x9,dr,?_⟩;rw[Cp s2,Cp s3,Cp s4,Cp s5,Cp s6,Cp s7,Cp s8];rw[Cp (IY (n:=i) (fa:=Ac (Ab 1) Ah) (Ao (Aa rfl) rfl) (by lia) ef)];rfl
 .obtain⟨i,x9,dr,rfl,f9,gJ,hi,hd⟩:=h;have jN:i<n:=by
   have:=congrArg List.length hd;simp[FL.upTo]at this
   lia
  rw[(u0 (l:=FL.upTo 0 n) (i:=i) (by simp[FL.upTo];exact jN))]at hd;obtain⟨e1,e2⟩:=List.cons.inj hd;have e3:t'=T.int (i:Int):=by rw[e1];simp[FL.upTo]
  subst e3;obtain⟨cJ,fy,e⟩:=VA gL hL (c:=c) (m:=m) (w:=w) (a:=a) (st:=st) (n:=n) (i:=i) hm.symm hw.symm ha.symm bL.symm (by lia) dr gJ;exact⟨_,_,(by unfold tgN;exact Bn rfl f9),e,i+1,_,_,rfl,AD,fy,jN,e2⟩
theorem names{n:Nat}(hn:n<=12)(hb:Builtin.Int.intBits c<=2^20):Ee [iv c,iv n]=.ok (.nw (.lst ((nms c n).map T.str))) [iv c,iv n]:=by obtain⟨x2,x3,x4,x5,x6,x7,x9,dr,e⟩:=M7 hn hb;unfold Ee Bo;show(match F9 [iv c,iv n,none,none,none,none,none,none,none,none,none]with|.nx τ=>_|.ret (.t t) τ=>_|.ret (.nw o) τ=>_|.ret (.n i) τ=>_|.exc c τ=>_|_=>_)=_;rw[e];rfl
theorem WT(ns:List Int)(k:Nat):Ax [vl (.zU (ns.map T.int)),iv k]=.ok (.t (.int (ns.getD k 0))) [vl (.zU (ns.map T.int)),iv k]:=by
 have hl:asB (Ag gLt (Ab 1) (Ai Bx (Ac (Ab 0) Ah))) [vl (.zU (ns.map T.int)),iv k]=.ok (decide ((k:Int)<((ns.map T.int).length:Int))) [vl (.zU (ns.map T.int)),iv k]:=rfl;unfold Ax Bo;show(match Eg [vl (.zU (ns.map T.int)),iv k]with|.nx τ=>_|.ret (.t t) τ=>_|.ret (.nw o) τ=>_|.ret (.n i) τ=>_|.exc c τ=>_|_=>_)=_;have e:Eg [vl (.zU (ns.map T.int)),iv k]=.ret (.t (.int (ns.getD k 0))) [vl (.zU (ns.map T.int)),iv k]:=by
  unfold Eg;by_cases h:(k:Int)<((ns.map T.int).length:Int)
  .rw[tQ h]at hl;have h':k<ns.length:=by rw[sU]at h;lia
   have e2:retS (Ag AB (Ab 0) (fz (Ab 1))) [vl (.zU (ns.map T.int)),iv k]=.ret (.t (.int (ns.getD k 0))) [vl (.zU (ns.map T.int)),iv k]:=by have:=Aj (fa:=Ab 0) (fb:=fz (Ab 1)) (fs:=[vl (.zU (ns.map T.int)),iv k]) (Aa rfl) (Am (Aa rfl)) (Y9 (ns:=ns) (i:=(k:Int)) (.inl rfl) (by lia) (by lia));unfold retS;rw[this,u9];rfl
   unfold Av;rw[DU hl e2]
  .rw[tS h]at hl;have h':ns.length<=k:=by rw[sU]at h;lia
   rw[Cp (AU (h:=nxS) (fs:=[vl (.zU (ns.map T.int)),iv k]) (r:=.nx [vl (.zU (ns.map T.int)),iv k]) hl rfl)];have:ns.getD k 0=0:=by simp[List.getD,h']
   rw[this];rfl
 rw[e];rfl
theorem Jc(h1:f fs=.ok (.t t) aj)(h2:g aj=.ok rs aB):Ac f g fs=.ok (.t t::rs) aB:=by unfold Ac;rw[h1];show(g aj).bind _=_;rw[h2];rfl
theorem BS(h:fa fs=.ok rs aj)(h2:Qs rs=some ts)(h3:ts.length<=big)(e:g ts aj=r):An g fa fs=r:=by unfold An;rw[h];show(match Qs rs with|some ts=>_|none=>_)=_;rw[h2];exact(if_pos h3).trans e
theorem IX(h:f fs=.ok (.t t) aj):fz f fs=.ok (.t t) aj:=by unfold fz;rw[h];rfl
theorem AO(h:f fs=.ok r aj):retS f fs=.ret r aj:=by unfold retS;rw[h];rfl
theorem D9(e:g fs=.ret r ar):Av g h fs=.ret r ar:=by unfold Av;rw[e]
theorem Z9:∀j,j<26->(!(Builtin.Str.occurrences ABC ⟨#[97+j]⟩ 0 ABC.length 1).isEmpty)=true:=by decide +kernel
theorem Hf:∀bs:List Bool,Dn (bs.map T.o)=some bs
 | []=>rfl
 |b::bs=>by simp[Dn,Hf bs]
theorem Za:DK false (.t (.str x)) (.t (.str y)) fs=.ok (.t (.o (!(Builtin.Str.occurrences y x 0 y.length 1).isEmpty))) fs:=rfl
theorem Nc(h0:1<=z.length)(h1:z.length<=12)(hl:∀x∈z.cps.toList,97<=x/\x<=122):A0 [vl (.str z)]=.ok (.t (.o true)) [vl (.str z)]:=by
 have mZ:∀x,97<=x/\x<=122->(!(Builtin.Str.occurrences ("abcdefghijklmnopqrstuvwxyz":Str) ⟨#[x]⟩ 0 ("abcdefghijklmnopqrstuvwxyz":Str).length 1).isEmpty)=true:=λx hx=>by have:=Z9 (x-97) (by lia);rwa[show 97+(x-97)=x by lia]at this
 have hlen:Ai Bx (Ac (Ab 0) Ah) [vl (.str z)]=.ok (.t (.int z.length)) [vl (.str z)]:=by have e:Pm [.t (.str z)] [vl (.str z)]=.ok (.t (.int z.length)) [vl (.str z)]:=if_pos (show z.length<=1000000 by lia);refine BU (Ao (Aa rfl) rfl) ?_;unfold Bx orC;show(match orC Pm Sf [.t (.str z)] [vl (.str z)]with|o=>o)=_;unfold orC;rw[e]
 unfold A0 Bo;show(match ET [vl (.str z)]with|.nx τ=>_|.ret (.t t) τ=>_|.ret (.nw o) τ=>_|.ret (.n i) τ=>_|.exc c τ=>_|_=>_)=_;have all:ET [vl (.str z)]=.ret (.t (.o true)) [vl (.str z)]:=by
  unfold ET;generalize ("abcdefghijklmnopqrstuvwxyz":Str)=L at mZ;rw[Cp (AU (h:=nxS) (by
  have e1:gLe (.t (.int 1)) (.t (.int z.length)) [vl (.str z)]=.ok (.t (.o true)) [vl (.str z)]:=by show okT (.o (decide ((1:Int)<=z.length))) _=_;rw[tQ (by lia)];rfl
  have e2:gLe (.t (.int z.length)) (.t (.int 12)) [vl (.str z)]=.ok (.t (.o true)) [vl (.str z)]:=by show okT (.o (decide ((z.length:Int)<=12))) _=_;rw[tQ (by lia)];rfl
  simp only[Fq,asB,chain,gc,Out.bnd,Out.bind,hlen,e1,e2,Bool.not_true]) rfl)];obtain⟨y,hy,e2⟩:=GV (fe:=Ag (DK false) (fz (Ab 0)) (gc (.str L))) (f:=λ_=>.o true) (rest:=[]) (signs z) none [] Aq (λt' mt=>by
    unfold signs at mt;rw[t8]at mt;obtain⟨x,mx,rfl⟩:=mt;refine Aj (Am (Aa rfl)) Ay ?_;rw[Za,mZ x (hl x mx)]) (by
    unfold signs;rw[sU,uE];show 0+z.length<=1000000
    lia)
  have e3:=DY (src:=[none]) rfl ⟨by rw[show C8 [vl (.str z)] _=[]from rfl];exact tJ,by rfl⟩ e2 (AS rfl);have e4:(signs z).map (λ_=>T.o true)=((signs z).map λ_=>true).map T.o:=by rw[ua];rfl
  rw[ue,e4]at e3;refine AO (BU (Ao e3 rfl) ?_);simp only[Ze,Cs,ub,Hf,okT];congr 3;simp
 rw[all];rfl
theorem Nd(c:Int)(k:Nat):A0 [vl (.str (nmS c k))]=.ok (.t (.o true)) [vl (.str (nmS c k))]:=by
 refine Nc ?_ ?_ ?_
 .show 1<=(Nm.codes c k).toArray.size;rw[sX];exact Nm.SR c k
 .show(Nm.codes c k).toArray.size<=12;rw[sX];exact Nm.MA c k
 .intro x hx;exact Nm.Jd c k x (by simpa[nmS]using hx)
theorem VD(hk:k<12)(fY:k'<12)(h:nmS c k=nmS c k'):k=k':=by refine Nm.P1 (c:=c) hk fY ?_;have:=congrArg (λs:Str=>s.cps.toList) h;simpa[nmS]using this
theorem Ae(h1:f fs=.ok r aj)(h2:g aj=.ok rs aB):Ad f g fs=.ok (r::rs) aB:=by unfold Ad;rw[h1];show(g aj).bind _=_;rw[h2];rfl
theorem Ji(ha:fa fs=.ok rs aj)(hp:rs.length=p)(hn:(C8 aj (rs.map Bj)).Nodup)(hf:Fn (B0 aj (rs.map Bj))=.ok (.t t) τ)(hb:D2 (rs.map Bj) τ aj=some ar):
  Ai (Ak p Fn) fa fs=.ok (.t t) ar:=by
 unfold Ai;rw[ha];show Ak p Fn rs aj=_;unfold Ak;rw[if_pos hp];unfold El;rw[if_pos hn,hf];dsimp only;rw[hb]
theorem FY(ha:fa fs=.ok rs aj)(hp:rs.length=p)(hn:(C8 aj (rs.map Bj)).Nodup)(hf:Fn (B0 aj (rs.map Bj))=.ok (.nw o) τ)(hb:D2 (rs.map Bj) τ aj=some ar):
  Ai (Ak p Fn) fa fs=.ok (.nw o) ar:=by
 unfold Ai;rw[ha];show Ak p Fn rs aj=_;unfold Ak;rw[if_pos hp];unfold El;rw[if_pos hn,hf];dsimp only;rw[hb]
theorem Z6{i}(h0:fs[i]?=some (some (.own (.lst us))))(h:f fs=.ok (.t t) aj)(mU:aj[i]?=some (some (.own (.lst ts))))(hl:ts.length<big)(e:aj.set i (some (.own (.lst (ts++[t]))))=ar):AE (BC Fv (Ab i) (Ac f Ah)) fs=.nx ar:=by
 have h1:Ab i fs=.ok (.n i) fs:=by unfold Ab;rw[h0]
 have h2:FL.AH fs i=some (.lst us):=by unfold FL.AH;rw[h0]
 have kY:FL.AH aj i=some (.lst ts):=by unfold FL.AH;rw[mU]
 have h3:Cs fs (.n i)=some us:=by simp only[Cs,h2]
 have h4:Ac f Ah fs=.ok [.t t] aj:=Jc h rfl;have h5:Fv (.n i) [.t t] aj=.ok (.t .v) ar:=by
  simp only[Fv,kY];rw[if_pos hl];have:FL.putAt aj i (.lst (ts++[t]))=ar:=by unfold FL.putAt;rw[mU];exact e
  rw[this]
 have h6:BC Fv (Ab i) (Ac f Ah) fs=.ok (.t .v) ar:=by unfold BC;rw[h1];show(if(Cs fs (.n i)).isSome=true then _ else _)=_;rw[h3,if_pos (show(some us).isSome=true from rfl),h4];exact h5
 unfold AE;rw[h6];rfl
noncomputable def Ey:Str×List Str->T:=λr=>.tup [.str r.1,.tup (r.2.map T.str)]
noncomputable def A4:Str×List (Str×List Str)->T:=λk=>.tup [.str k.1,.lst (k.2.map Ey)]
abbrev Kd:=List (Str×List (Str×List Str))
theorem UM{i}(h:f fs=.ok (.nw o) aj)(hs:MT i (.nw o) aj=some ar):AL i f fs=.nx ar:=by unfold AL;rw[h];show(match MT i (.nw o) aj with|some fs=>SO.nx fs|none=>.bad)=_;rw[hs]
theorem Fc(h:f fs=.ok (.nw o) aj):fz f fs=.ok (.t (toT o)) aj:=by unfold fz;rw[h];rfl
theorem JI(h0:fs[o]?=some (some (.own (.l ks ts))))(hv:fv fs=.ok (.t v) fs)(hi:fi fs=.ok (.t (.str k)) fs)(hn:(ks.any λk'=>decide (k'=(.inr k:Key)))=false)(hl:ks.length<big)
  (e:fs.set o (some (.own (.l (ks++[.inr k]) (ts++[v]))))=ar):Dg fv (Ab o) fi fs=.nx ar:=by
 have h1:Ab o fs=.ok (.n o) fs:=by unfold Ab;rw[h0]
 have h2:FL.AH fs o=some (.l ks ts):=by unfold FL.AH;rw[h0]
 have h3:E2 ks ts (.inr k:Key) v=(ks++[.inr k],ts++[v]):=by unfold E2;rw[hn];rfl
 have h4:FL.putAt fs o (.l (ks++[.inr k]) (ts++[v]))=ar:=by unfold FL.putAt;rw[h0];exact e
 have h5:Sa (.n o) (.t (.str k)) (.t v) fs=.bad:=rfl;unfold Dg;rw[hv];simp only[Out.bnd,Out.bind];rw[h1];simp only;rw[hi];simp only[SO.of];unfold Wb;rw[h5];exact(by simp only[Sd,h2,HD,hl,if_true,h3,h4])
theorem DB{i}{j}(h1:tgN i x fs=some aj)(h2:tgN j y aj=some aB):AW 2 (Af (tgN i) (Af (tgN j) AN)) (.tup [x,y]) fs=some aB:=by have e:AW 2 (Af (tgN i) (Af (tgN j) AN)) (.tup [x,y]) fs=Af (tgN i) (Af (tgN j) AN) [x,y] fs:=rfl;rw[e];simp only[Af,h1,h2,ub,AN]
noncomputable def BZ(K:Kd):List Key:=K.map λkd=>(.inr kd.1:Key)
theorem any_false{ks:List Key}(h:k∉ks):(ks.any λk'=>decide (k'=k))=false:=by rw[List.any_eq_false];intro x hx;rw[decide_eq_true_eq];intro e;exact h (e▸hx)
theorem sq(e:g fs=.nx ar)(e2:h ar=r):Av g h fs=r:=(Cp e).trans e2
theorem Bs(h:f fs=.ok (.t (.o b)) aj):asB f fs=.ok b aj:=by unfold asB;rw[h];rfl
theorem CM(h:f fs=.ok b aj):Fq f fs=.ok (!b) aj:=by unfold Fq;rw[h];rfl
theorem Co(h:f fs=.ok (.t (.o b)) aj):Hh f fs=.ok b aj:=by unfold Hh;rw[h];rfl
theorem Ka(hc:c fs=.ok false aj)(e:h aj=r):ifS c g h fs=r:=by unfold ifS;rw[hc];exact e
theorem Dv{i}(h:fs[i]?=some (some (.own o))):Ab i fs=.ok (.n i) fs:=by unfold Ab;rw[h]
theorem FU{i}(h:fs[i]?=some (some (.bor o))):Ab i fs=.ok (.n i) fs:=by unfold Ab;rw[h]
theorem Jai{i}(h:fs[i]?=some (some (.own o))):FL.AH fs i=some o:=by unfold FL.AH;rw[h]
theorem J2{i}(h:fs[i]?=some (some (.bor o))):FL.AH fs i=some o:=by unfold FL.AH;rw[h]
theorem Jj{i}(h1:fa fs=.ok (.t x) fs)(h2:fb fs=.ok (.n i) fs)(h3:g (.t x) (.n i) fs=r):Ag g fa fb fs=r:=by unfold Ag;rw[h1];show(fb fs).bnd _=r;rw[h2];exact h3
theorem Dy(h:f fs=.ok r aj):AE f fs=.nx aj:=by unfold AE;rw[h];rfl
theorem DL [DecidableEq κ]:∀{ks:List κ}{ts:List T}{k:κ},k∉ks->Cn ks ts k=none
 | [],_,_,_=>by unfold Cn;rfl
 |k'::ks,[],k,_=>by unfold Cn;rfl
 |k'::ks,t::ts,k,h=>by
  have h1:k'≠k:=λe=>h (e▸tZ)
  simp only[Cn,if_neg h1,DL (λm=>h (sZ _ m))]
theorem De [DecidableEq κ] {f:α->κ}:∀{xs:List α}{x:α},x∈xs->(xs.map f).Nodup->Cn (xs.map f) (xs.map g) (f x)=some (g x)
 |y::ys,x,m,nd=>by
  rw[sW,sW];unfold Cn;rw[sW,tN]at nd;by_cases e:f y=f x
  .rw[if_pos e];rcases tm.mp m with rfl|m
   .rfl
   .exact(nd.1 (t8.mpr ⟨x,m,e.symm⟩)).elim
  .rw[if_neg e];rcases tm.mp m with rfl|m
   .exact(e rfl).elim
   .exact De m nd.2
theorem V3{i}(h:FL.AH fs i=some (.l ks ts)):DK neg (.t (.str k)) (.n i) fs=.ok (.t (.o (if neg then !(Cn ks ts (.inr k:Key)).isSome else(Cn ks ts (.inr k:Key)).isSome))) fs:=by
 unfold DK orG;have e:Wi neg (.t (.str k)) (.n i) fs=.ok (.t (.o (if neg then !(Cn ks ts (.inr k:Key)).isSome else(Cn ks ts (.inr k:Key)).isSome))) fs:=by simp only[Wi,WJ,h,HD,Option.map_some];rfl
 rw[e]
theorem TY:DK neg (.t (.str k)) (.t (.l ks ts)) fs=.ok (.t (.o (if neg then !(Cn ks ts (.inr k:Key)).isSome else(Cn ks ts (.inr k:Key)).isSome))) fs:=rfl
theorem IB:∀xs:List Str,U4 (xs.map T.str)=some (xs.map V.str)
 | []=>rfl
 |x::xs=>by simp only[sW,U4,plV,ub,IB xs,Option.map_some]
theorem Lu(k:Str):∀xs:List Str,inV (.str k) (xs.map V.str)=decide (k∈xs)
 | []=>by simp[inV]
 |x::xs=>by
  have:=Lu k xs;unfold inV at this ⊢;rw[sW,uP,this];have e:eqV (.str x) (.str k)=decide (k=x):=by
   by_cases h:k=x
   .subst h;simp[eqV]
   .have h':x≠k:=λe=>h e.symm
    simp[eqV,h,h']
  rw[e,uC];simp
theorem Pa{xs:List Str}:DK neg (.t (.str k)) (.t (.lst (xs.map T.str))) fs=.ok (.t (.o (if neg then !decide (k∈xs)else decide (k∈xs)))) fs:=by
 have e:gIn neg (.t (.str k)) (.t (.lst (xs.map T.str))) fs=.ok (.t (.o (if neg then !decide (k∈xs)else decide (k∈xs)))) fs:=by simp only[gIn,plV,Cs,IB,okT,Lu]
 exact e
theorem YY{i}{xs:List Str}(h:FL.AH fs i=some (.lst (xs.map T.str))):DK neg (.t (.str k)) (.n i) fs=.ok (.t (.o (if neg then !decide (k∈xs)else decide (k∈xs)))) fs:=by
 have e:gIn neg (.t (.str k)) (.n i) fs=.ok (.t (.o (if neg then !decide (k∈xs)else decide (k∈xs)))) fs:=by simp only[gIn,plV,Cs,h,IB,okT,Lu]
 have e1:Wi neg (.t (.str k)) (.n i) fs=.bad:=by simp only[Wi,WJ,h]
 unfold DK orG;rw[e1];exact e
theorem Jf(ha:fa fs=.ok (.t (.int a)) fs)(hb:fb fs=.ok (.t (.int b)) fs)(hc:fc fs=.ok (.t (.int c)) fs)(h1:a<=b)(h2:b<=c):Fq (asB (chain gLe gLe fa fb fc)) fs=.ok false fs:=by
 have e1:gLe (.t (.int a)) (.t (.int b)) fs=.ok (.t (.o true)) fs:=by show okT (.o (decide (a<=b))) _=_;rw[tQ h1];rfl
 have e2:gLe (.t (.int b)) (.t (.int c)) fs=.ok (.t (.o true)) fs:=by show okT (.o (decide (b<=c))) _=_;rw[tQ h2];rfl
 simp only[Fq,asB,chain,Out.bnd,Out.bind,ha,hb,hc,e1,e2,Bool.not_true]
theorem BO(h:f fs=.ok (.t x) aj)(hs:x=.lst ts\/x=.tup ts):Ai Bx (Ac f Ah) fs=.ok (.t (.int ts.length)) aj:=by unfold Ai;rw[Jc h (show Ah aj=.ok [] aj from rfl)];rcases hs with rfl|rfl<;>rfl
theorem BX(ha:fa fs=.ok rs aj)(hp:rs.length=p)(hn:C8 aj (rs.map Bj)=[])(hf:Fn (B0 aj (rs.map Bj))=.ok (.t t) τ):Ai (Ak p Fn) fa fs=.ok (.t t) aj :=
 Ji ha hp (by rw[hn];exact tJ) hf (AS hn)
theorem Au:Ah fs=.ok [] fs:=rfl
theorem CS{K:Kd}(h1:1<=K.length)(h4:K.length<=4)(eU:(K.map (·.1)).Nodup)(jS:∀kd∈K,A0 [vl (.str kd.1)]=.ok (.t (.o true)) [vl (.str kd.1)])(qR:∀kd∈K,1<=kd.2.length/\kd.2.length<=4):
  BR [vl (.lst (K.map A4))]=.ok (.t .v) [vl (.lst (K.map A4))]:=by
 have all:∃x1 x2 x3,CB [vl (.lst (K.map A4)),none,none,none]=.nx [vl (.lst (K.map A4)),x1,x2,x3]:=by
  unfold CB;obtain⟨ar,ef,D,R,x2,x3,ts,rfl,eD,eR,f2,f3⟩:=Dw (gt:=AW 2 (Af (tgN 2) (Af (tgN 3) AN))) (body:=(Av (ifS (Fq (Hh (fz (Ai (Ak 1 A0) (Ad (fz (Ab 2)) Ah))))) (λ_=>.bad) nxS)
  (Av (ifS (asB (Ag (DK false) (fz (Ab 2)) (Ab 1))) (λ_=>.bad) nxS)
  (Av (ifS (Fq (asB (chain gLe gLe (gc (.int 1)) (Ai Bx (Ac (Ab 3) Ah)) (gc (.int 4))))) (λ_=>.bad) nxS)
  (Dg (gc (.o true)) (Ab 1) (fz (Ab 2)))))))
   (λts fs=>∃(D R:Kd)(x2 x3:Option Sl)(vs:List T),fs=[vl (.lst (K.map A4)),some (.own (.l (BZ D) vs)),x2,x3]/\D++R=K/\ts=R.map A4/\Fre x2/\Fre x3)
   (λt' ts fs h=>by
    obtain⟨D,R,x2,x3,vs,rfl,eD,eR,f2,f3⟩:=h;cases R with
    |nil=>cases eR
    |cons kd R =>
     rw[sW]at eR;obtain⟨e1,e2⟩:=List.cons.inj eR;subst e1;have hm:kd∈K:=by rw[<- eD];simp
     have b9:(.inr kd.1:Key)∉BZ D:=by intro m;unfold BZ at m;rw[t8]at m;obtain⟨jd,m',e'⟩:=m;rw[<- eD,tL,sT]at eU;exact eU.2.2 jd.1 (t8.mpr ⟨jd,m',rfl⟩) kd.1 (by simp) (by simpa using e')
     have hr:=qR kd hm;refine⟨[vl (.lst (K.map A4)),some (.own (.l (BZ D) vs)),vl (.str kd.1),vl (.lst (kd.2.map Ey))],[vl (.lst (K.map A4)),some (.own (.l (BZ D++[.inr kd.1]) (vs++[.o true]))),vl (.str kd.1),vl (.lst (kd.2.map Ey))],DB (by unfold tgN;exact Bn rfl f2) (by unfold tgN;exact Bn rfl f3),?_,D++[kd],R,vl (.str kd.1),vl (.lst (kd.2.map Ey)),vs++[.o true],?_,by rw[<- eD];simp,e2,AD,AD⟩
     .refine sq (Ka (CM (Co (IX (BX (Ae (Am (Aa rfl)) Au) rfl rfl (jS kd hm))))) rfl) ?_;refine sq (AU (Bs (Jj (Am (Aa rfl)) (Dv rfl) ?_)) rfl) ?_
      .rw[V3 (Jai rfl),DL b9];rfl
      refine sq (AU (Jf Ay (BO (Aa rfl) (.inl rfl)) Ay (by rw[sU];lia) (by rw[sU];lia)) rfl) ?_;exact JI rfl Ay (Am (Aa rfl)) (any_false b9) (by
      unfold BZ;rw[sU];have:=congrArg List.length eD;simp at this;show D.length<1000000
      lia) rfl
     .unfold BZ;rw[tL];rfl)
   (K.map A4) [vl (.lst (K.map A4)),some (.own (.l [] [])),none,none] ⟨[],K,none,none,[],rfl,rfl,rfl,Aq,Aq⟩
  refine⟨some (.own (.l (BZ D) ts)),x2,x3,?_⟩;refine sq (AU (Jf Ay (BO (Aa rfl) (.inl rfl)) Ay (by rw[sU];lia) (by rw[sU];lia)) rfl) ?_;exact sq (ar:=[vl (.lst (K.map A4)),some (.own (.l [] [])),none,none]) rfl ef
 obtain⟨x1,x2,x3,all⟩:=all;unfold BR Bo;show(match CB [vl (.lst (K.map A4)),none,none,none]with|.nx τ=>_|.ret (.t t) τ=>_|.ret (.nw o) τ=>_|.ret (.n i) τ=>_|.exc c τ=>_|_=>_)=_;rw[all];rfl
theorem RU(h1:fa fs=.ok (.t (.int a)) fs)(h2:fb fs=.ok (.t (.int b)) fs):asB (Ag gGt fa fb) fs=.ok (decide (b<a)) fs:=Bs (Aj h1 h2 rfl)
theorem JbY(h1:fa fs=.ok (.t (.int a)) fs)(h2:fb fs=.ok (.t (.int b)) fs)(h:¬b<a):asB (Ag gGt fa fb) fs=.ok false fs:=by rw[RU h1 h2,tS h]
theorem Jbd:gEq false (.t (.str x)) (.t (.str y)) fs=.ok (.t (.o (decide (x=y)))) fs:=by
 have q:decide (V.str x=V.str y)=decide (x=y):=by simp
 show(if N9 (V.str x) (V.str y)=true then okT (.o (if false=true then _ else decide (V.str x=V.str y))) fs else .bad)=_;rw[if_pos (show N9 (V.str x) (V.str y)=true from rfl),q];rfl
theorem GO(h1:fa fs=.ok (.t (.str x)) fs)(h2:fb fs=.ok (.t (.str y)) fs):asB (Ag (gEq false) fa fb) fs=.ok (decide (x=y)) fs:=Bs (Aj h1 h2 Jbd)
theorem CQ{ps names:List Str}(hn:A0 [vl (.str m)]=.ok (.t (.o true)) [vl (.str m)])(hk:(.inr m:Key)∉ks)(h2:ps.length<=2)(hp:∀p∈ps,p∈names):
  Ba [vl (.str m),vl (.tup (ps.map T.str)),some (.bor (.l ks vs)),vl (.lst (names.map T.str))]=.ok (.t .v) [vl (.str m),vl (.tup (ps.map T.str)),some (.bor (.l ks vs)),vl (.lst (names.map T.str))]:=by
 have all:∃x4,CA [vl (.str m),vl (.tup (ps.map T.str)),some (.bor (.l ks vs)),vl (.lst (names.map T.str)),none]=.nx [vl (.str m),vl (.tup (ps.map T.str)),some (.bor (.l ks vs)),vl (.lst (names.map T.str)),x4]:=by
  unfold CA;obtain⟨ar,ef,x4,rfl,f4,_⟩:=Dw (gt:=tgN 4) (body:=(ifS (asB (Ag (DK true) (fz (Ab 4)) (Ab 3))) (λ_=>.bad) nxS))
   (λts fs=>∃x4,fs=[vl (.str m),vl (.tup (ps.map T.str)),some (.bor (.l ks vs)),vl (.lst (names.map T.str)),x4]/\Fre x4/\∀t∈ts,∃p∈names,t=.str p)
   (λt' ts fs h=>by obtain⟨x4,rfl,f4,ht⟩:=h;obtain⟨p,mp,rfl⟩:=ht t' tZ;refine⟨_,_,(by unfold tgN;exact Bn rfl f4),AU (Bs (b:=false) (Aj (Am (Aa rfl)) (Aa rfl) ?_)) rfl,_,rfl,AD,λt m=>ht t (sZ _ m)⟩;rw[Pa,tQ mp];rfl)
   (ps.map T.str) [vl (.str m),vl (.tup (ps.map T.str)),some (.bor (.l ks vs)),vl (.lst (names.map T.str)),none] ⟨none,rfl,Aq,λt mt=>by rw[t8]at mt;obtain⟨p,mp,rfl⟩:=mt;exact⟨p,hp p mp,rfl⟩⟩
  refine⟨x4,?_⟩;refine sq (Ka (CM (Co (IX (BX (Ae (Am (Aa (t:=.str m) rfl)) Au) rfl rfl hn)))) rfl) ?_;refine sq (AU (Bs (b:=false) (Jj (Am (Aa (t:=.str m) rfl)) (FU rfl) ?_)) rfl) ?_
  .rw[V3 (J2 rfl),DL hk];rfl
  refine sq (AU (JbY (BO (Aa rfl) (.inr rfl)) Ay (by rw[sU];lia)) rfl) ?_;exact ef
 obtain⟨x4,all⟩:=all;unfold Ba Bo;show(match CA [vl (.str m),vl (.tup (ps.map T.str)),some (.bor (.l ks vs)),vl (.lst (names.map T.str)),none]with|.nx τ=>_|.ret (.t t) τ=>_|.ret (.nw o) τ=>_|.ret (.n i) τ=>_|.exc c τ=>_|_=>_)=_;rw[all];rfl
theorem Cm{ps names:List Str}(hp:∀p∈ps,p∈names):
  A7 [vl (.str m),vl (.tup (ps.map T.str)),some (.bor (.lst (names.map T.str)))]=.ok (.t .v) [vl (.str m),vl (.tup (ps.map T.str)),some (.bor (.lst (names.map T.str)))]:=by
 have all:∃x3,Ca [vl (.str m),vl (.tup (ps.map T.str)),some (.bor (.lst (names.map T.str))),none]=.nx [vl (.str m),vl (.tup (ps.map T.str)),some (.bor (.lst (names.map T.str))),x3]:=by
  unfold Ca;obtain⟨ar,ef,x4,rfl,f4,_⟩:=Dw (gt:=tgN 3) (body:=(ifS (asB (Ag (DK true) (fz (Ab 3)) (Ab 2))) (λ_=>.bad) nxS))
   (λts fs=>∃x4,fs=[vl (.str m),vl (.tup (ps.map T.str)),some (.bor (.lst (names.map T.str))),x4]/\Fre x4/\∀t∈ts,∃p∈names,t=.str p)
   (λt' ts fs h=>by obtain⟨x4,rfl,f4,ht⟩:=h;obtain⟨p,mp,rfl⟩:=ht t' tZ;refine⟨_,_,(by unfold tgN;exact Bn rfl f4),AU (Bs (Jj (Am (Aa rfl)) (FU rfl) ?_)) rfl,_,rfl,AD,λt m=>ht t (sZ _ m)⟩;rw[YY (J2 rfl),tQ mp];rfl)
   (ps.map T.str) [vl (.str m),vl (.tup (ps.map T.str)),some (.bor (.lst (names.map T.str))),none] ⟨none,rfl,Aq,λt mt=>by rw[t8]at mt;obtain⟨p,mp,rfl⟩:=mt;exact⟨p,hp p mp,rfl⟩⟩
  exact⟨x4,ef⟩
 obtain⟨x4,all⟩:=all;unfold A7 Bo;show(match Ca [vl (.str m),vl (.tup (ps.map T.str)),some (.bor (.lst (names.map T.str))),none]with|.nx τ=>_|.ret (.t t) τ=>_|.ret (.nw o) τ=>_|.ret (.n i) τ=>_|.exc c τ=>_|_=>_)=_;rw[all];rfl
theorem GU{f g h:α->T}:∀(xs:List α)(x y:Option Sl)(ay:List T),Fre x->Fre y->(∀a∈xs,fe (vl (f a)::vl (g a)::rest)=.ok (.t (h a)) (vl (f a)::vl (g a)::rest))->ay.length+xs.length<=big ->
  ∃x' y',Fre x'/\Fre y'/\Dc (AW 2 (Af (tgN 0) (Af (tgN 1) AN))) EX fe (xs.map λa=>.tup [f a,g a]) (x::y::rest) ay=some (ay++xs.map h,x'::y'::rest)
 | [],x,y,ay,hx,hy,_,_=>⟨x,y,hx,hy,by simp[Dc]⟩
 |a::xs,x,y,ay,hx,hy,he,hl=>by
  obtain⟨x',y',fx,fy,e⟩:=GU xs (vl (f a)) (vl (g a)) (ay++[h a]) AD AD (λt' m=>he t' (sZ _ m)) (by simp at hl ⊢;lia);refine⟨x',y',fx,fy,?_⟩;have h1:AW 2 (Af (tgN 0) (Af (tgN 1) AN)) (.tup [f a,g a]) (x::y::rest)=some (vl (f a)::vl (g a)::rest) :=
   DB (by unfold tgN;exact Bn rfl hx) (by unfold tgN;exact Bn rfl hy)
  have h3:ay.length<big:=by simp at hl;lia
  rw[sW];simp only[Dc,h1,EX,(he a tZ),if_pos h3,e];simp
noncomputable def mks(K:Kd):List Str:=K.flatMap λkd=>kd.2.map (·.1)
noncomputable def Bi(K:Kd):List Key:=(mks K).map λm=>(.inr m:Key)
structure Well(K:Kd):Prop where
 lo:1<=K.length
 hi:K.length<=4
 nd:(K.map (·.1)).Nodup
 nm:∀kd∈K,A0 [vl (.str kd.1)]=.ok (.t (.o true)) [vl (.str kd.1)]
 rw:∀kd∈K,1<=kd.2.length/\kd.2.length<=4
 yV:(mks K).Nodup
 yu:∀m∈mks K,A0 [vl (.str m)]=.ok (.t (.o true)) [vl (.str m)]
 yq:∀m∈mks K,m.length<=12
 two:∀kd∈K,∀r∈kd.2,r.2.length<=2
 yz:∀kd∈K,∀r∈kd.2,∀x∈r.2,x∈K.map (·.1)
 gr:∀D kd R,K=D++kd::R->∀r,kd.2[0]?=some r->∀x∈r.2,x∈D.map (·.1)
theorem VP(h1:kd∈K)(h2:r∈kd.2):r.1∈mks K:=vb.mpr ⟨kd,h1,t8.mpr ⟨r,h2,rfl⟩⟩
theorem VJ(h4:K.length<=4)(hr:∀kd∈K,kd.2.length<=4):(mks K).length<=16:=by
 have:∀K:Kd,(∀kd∈K,kd.2.length<=4)->(mks K).length<=4*K.length:=by
  intro K
  induction K with
  |nil=>intro _;simp[mks]
  |cons kd K ih =>
   intro h;have:=ih λkd m=>h kd (sZ _ m)
   have h1:=h kd tZ;unfold mks at this ⊢;rw[uB,t5,sU,tM]
   lia
 have:=this K hr
 lia
theorem IK(D R:Kd):mks (D++R)=mks D++mks R:=by unfold mks;rw[List.flatMap_append]
theorem FR(kd:Str×List (Str×List Str))(R:Kd):mks (kd::R)=kd.2.map (·.1)++mks R:=rfl
theorem QV{rs:List (Str×List Str)}(h:(rs.map (·.1)).Nodup)(m:r∈rs)(m':r'∈rs)(e:r.1=r'.1):r=r':=by
 induction rs with
 |nil=>cases m
 |cons a rs ih =>
  rw[sW,tN]at h;rcases tm.mp m with q|q
  .rcases tm.mp m' with q'|q'
   .rw[q,q']
   .exact(h.1 (t8.mpr ⟨r',q',by rw[<- e,q]⟩)).elim
  .rcases tm.mp m' with q'|q'
   .exact(h.1 (t8.mpr ⟨r,q,by rw[e,q']⟩)).elim
   .exact ih h.2 q q'
noncomputable def CZ(r:Str×List Str):Key:=.inr r.1
theorem Ln{names above:List Str}{rows:List (Str×List Str)}{x7 x8:Option Sl}(f7:Fre x7)(f8:Fre x8)
  (jS:∀r∈rows,A0 [vl (.str r.1)]=.ok (.t (.o true)) [vl (.str r.1)]) (eU:(aT++rows.map CZ).Nodup) (hlen:aT.length+rows.length<1000) (h2:∀r∈rows,r.2.length<=2) (hp:∀r∈rows,∀x∈r.2,x∈names) (hg:∀r∈rows,r.1=first->∀x∈r.2,x∈above) :
  ∃(y7 y8:Option Sl)(vs:List T),Fre y7/\Fre y8/\DW (AW 2 (Af (tgN 7) (Af (tgN 8) AN))) (Av (AE (Ai (Ak 4 Ba) (Ad (fz (Ab 7)) (Ad (fz (Ab 8)) (Ad (Ab 3) (Ad (fz (Ab 1)) Ah))))))
  (Av (ifS (asB (Ag (gEq false) (Ab 7) (Ab 6))) (AE (Ai (Ak 3 A7) (Ad (fz (Ab 7)) (Ad (fz (Ab 8)) (Ad (Ab 2) Ah))))) nxS)
  (Dg (gc (.o true)) (Ab 3) (fz (Ab 7))))) (rows.map Ey) [vl sc,vl (.lst (names.map T.str)),some (.own (.lst (above.map T.str))),some (.own (.l aT kJ)),vl (.str k),vl (.lst (rows.map Ey)),vl (.str first),x7,x8] =
   .nx [vl sc,vl (.lst (names.map T.str)),some (.own (.lst (above.map T.str))),some (.own (.l (aT++rows.map CZ) vs)),vl (.str k),vl (.lst (rows.map Ey)),vl (.str first),y7,y8]:=by
 obtain⟨ar,ef,D,R,y7,y8,vs,rfl,eD,eR,g7,g8⟩:=Dw (gt:=AW 2 (Af (tgN 7) (Af (tgN 8) AN))) (body:=Av (AE (Ai (Ak 4 Ba) (Ad (fz (Ab 7)) (Ad (fz (Ab 8)) (Ad (Ab 3) (Ad (fz (Ab 1)) Ah))))))
  (Av (ifS (asB (Ag (gEq false) (Ab 7) (Ab 6))) (AE (Ai (Ak 3 A7) (Ad (fz (Ab 7)) (Ad (fz (Ab 8)) (Ad (Ab 2) Ah))))) nxS)
  (Dg (gc (.o true)) (Ab 3) (fz (Ab 7)))))
  (λts fs=>∃(D R:List (Str×List Str))(y7 y8:Option Sl)(vs:List T),fs=[vl sc,vl (.lst (names.map T.str)),some (.own (.lst (above.map T.str))),some (.own (.l (aT++D.map CZ) vs)),vl (.str k),vl (.lst (rows.map Ey)),vl (.str first),y7,y8]/\D++R=rows/\ts=R.map Ey/\Fre y7/\Fre y8)
  (λt' ts fs h=>by
   obtain⟨D,R,y7,y8,vs,rfl,eD,eR,g7,g8⟩:=h;cases R with
   |nil=>cases eR
   |cons r R =>
    rw[sW]at eR;obtain⟨e1,e2⟩:=List.cons.inj eR;subst e1;have hm:r∈rows:=by rw[<- eD];simp
    have b9:(.inr r.1:Key)∉aT++D.map CZ:=by rw[<- eD,tL,sW,<- t9,sT]at eU;intro m;exact eU.2.2 _ m (CZ r) (by simp) rfl
    refine⟨[vl sc,vl (.lst (names.map T.str)),some (.own (.lst (above.map T.str))),some (.own (.l (aT++D.map CZ) vs)),vl (.str k),vl (.lst (rows.map Ey)),vl (.str first),vl (.str r.1),vl (.tup (r.2.map T.str))],
     [vl sc,vl (.lst (names.map T.str)),some (.own (.lst (above.map T.str))),some (.own (.l (aT++D.map CZ++[.inr r.1]) (vs++[.o true]))),vl (.str k),vl (.lst (rows.map Ey)),vl (.str first),vl (.str r.1),vl (.tup (r.2.map T.str))],DB (by unfold tgN;exact Bn rfl g7) (by unfold tgN;exact Bn rfl g8),?_,D++[r],R,vl (.str r.1),vl (.tup (r.2.map T.str)),vs++[.o true],?_,by rw[<- eD];simp,e2,AD,AD⟩
    .refine sq (Dy (Ji (Ae (Am (Aa (t:=.str r.1) rfl)) (Ae (Am (Aa (t:=.tup (r.2.map T.str)) rfl)) (Ae (Dv (i:=3) rfl) (Ae (Am (Aa (t:=.lst (names.map T.str)) rfl)) Au)))) rfl (by rw[show C8 _ _=[3]from rfl];simp) (CQ (jS r hm) b9 (h2 r hm) (hp r hm)) rfl)) ?_;refine sq (ar:=[vl sc,vl (.lst (names.map T.str)),some (.own (.lst (above.map T.str))),some (.own (.l (aT++D.map CZ) vs)),vl (.str k),vl (.lst (rows.map Ey)),vl (.str first),vl (.str r.1),vl (.tup (r.2.map T.str))]) ?_ ?_
     .by_cases hf:r.1=first
      .refine DU ((GO (Aa (t:=.str r.1) rfl) (Aa (t:=.str first) rfl)).trans (by rw[tQ hf])) ?_;exact Dy (Ji (Ae (Am (Aa (t:=.str r.1) rfl)) (Ae (Am (Aa (t:=.tup (r.2.map T.str)) rfl)) (Ae (Dv (i:=2) rfl) Au))) rfl (by rw[show C8 _ _=[2]from rfl];simp) (Cm (hg r hm hf)) rfl)
      .exact AU ((GO (Aa (t:=.str r.1) rfl) (Aa (t:=.str first) rfl)).trans (by rw[tS hf])) rfl
     .exact JI (o:=3) (v:=.o true) (k:=r.1) rfl Ay (Am (Aa rfl)) (any_false b9) (by
     have:=congrArg List.length eD;simp at this;rw[t5,sU];show _<1000000
     lia) rfl
    .rw[tL,<- t9];rfl)
  (rows.map Ey) [vl sc,vl (.lst (names.map T.str)),some (.own (.lst (above.map T.str))),some (.own (.l aT kJ)),vl (.str k),vl (.lst (rows.map Ey)),vl (.str first),x7,x8] ⟨[],rows,x7,x8,kJ,by simp,rfl,rfl,f7,f8⟩
 have hR:R=[]:=by cases R with|nil=>rfl|cons a b=>cases eR
 subst hR;rw[ug]at eD;subst eD;exact⟨y7,y8,vs,g7,g8,ef⟩
theorem E5(D:Kd)(kd:Str×List (Str×List Str)):Bi (D++[kd])=Bi D++kd.2.map CZ:=by unfold Bi;rw[IK,FR,tL,tL,ua];simp[mks,CZ,Function.comp_def]
theorem Dh{xs:List Str}(h:xs.Nodup):(xs.map λm=>(.inr m:Key)).Nodup:=by
 induction xs with
 |nil=>simp
 |cons x xs ih =>
  rw[tN]at h;rw[sW,tN];refine⟨λm=>?_,ih h.2⟩;rw[t8]at m;obtain⟨y,my,e⟩:=m;have:y=x:=by simpa using e
  exact h.1 (this▸my)
theorem Well.part(W:Well K)(e:D++kd::R=K):(Bi D++kd.2.map CZ).Nodup/\(Bi D).length+kd.2.length<1000/\kd∈K/\(kd.2.map (·.1)).Nodup:=by
 have h:=W.yV;have hl:=VJ W.hi λkd m=>(W.rw kd m).2
 rw[<- e,IK,FR]at h hl;refine⟨?_,?_,by rw[<- e];simp,?_⟩
 .rw[<- E5];refine Dh ?_;rw[IK,FR];simp only[mks,vc,ug];rw[<- t9]at h;exact(sT.mp h).1
 .unfold Bi;rw[sU];simp at hl
  lia
 .exact(sT.mp (sT.mp h).2.1).1
theorem Ck(W:Well K):BD [vl (.lst (K.map A4))]=.ok (.t .v) [vl (.lst (K.map A4))]:=by
 have all:∃x1 x2 x3 x4 x5 x6 x7 x8,B9 [vl (.lst (K.map A4)),none,none,none,none,none,none,none,none]=.nx [vl (.lst (K.map A4)),x1,x2,x3,x4,x5,x6,x7,x8]:=by
  unfold B9;have s1:AL 1 (Cj false [none,none] (itU (fz (Ab 0))) (AW 2 (Af (tgN 0) (Af (tgN 1) AN))) EX (fz (Ab 0))) [vl (.lst (K.map A4)),none,none,none,none,none,none,none,none]=.nx [vl (.lst (K.map A4)),vl (.lst ((K.map (·.1)).map T.str)),none,none,none,none,none,none,none]:=AI (by obtain⟨x,y,_,_,e⟩:=GU (fe:=fz (Ab 0)) (f:=λkd:Str×List (Str×List Str)=>.str kd.1) (g:=λkd=>.lst (kd.2.map Ey)) (h:=λkd=>.str kd.1) (rest:=[]) K none none [] Aq Aq (λkd _=>Am (Aa rfl)) (by have:=W.hi;show 0+_<=1000000;lia);have:=DY (src:=[none,none]) (fi:=itU (fz (Ab 0))) (fs:=[vl (.lst (K.map A4)),none,none,none,none,none,none,none,none]) (ts:=K.map A4) rfl ⟨by rw[show C8 [vl (.lst (K.map A4)),none,none,none,none,none,none,none,none] _=[]from rfl];exact tJ,by rfl⟩ e (AS rfl);rw[this,ue,ua];rfl) rfl;generalize hN:K.map (·.1)=names at s1;obtain⟨ar,ef,D,R,x4,x5,x6,x7,x8,vs,rfl,eD,eR,g4,g5,g6,g7,g8⟩:=Dw (gt:=AW 2 (Af (tgN 4) (Af (tgN 5) AN))) (body:=(Av (AL 6 (Ag AB (Ag AB (Ab 5) (gc (.int 0))) (gc (.int 0))))
  (Av (Dq (itU (fz (Ab 5))) (AW 2 (Af (tgN 7) (Af (tgN 8) AN))) (Av (AE (Ai (Ak 4 Ba) (Ad (fz (Ab 7)) (Ad (fz (Ab 8)) (Ad (Ab 3) (Ad (fz (Ab 1)) Ah))))))
  (Av (ifS (asB (Ag (gEq false) (Ab 7) (Ab 6))) (AE (Ai (Ak 3 A7) (Ad (fz (Ab 7)) (Ad (fz (Ab 8)) (Ad (Ab 2) Ah))))) nxS)
  (Dg (gc (.o true)) (Ab 3) (fz (Ab 7))))))
  (AE (BC Fv (Ab 2) (Ac (fz (Ab 4)) Ah))))))
   (λts fs=>∃(D R:Kd)(x4 x5 x6 x7 x8:Option Sl)(vs:List T),fs=[vl (.lst (K.map A4)),vl (.lst (names.map T.str)),some (.own (.lst ((D.map (·.1)).map T.str))),some (.own (.l (Bi D) vs)),x4,x5,x6,x7,x8]/\D++R=K/\ts=R.map A4/\Fre x4/\Fre x5/\Fre x6/\Fre x7/\Fre x8)
   (λt' ts fs h=>by
    obtain⟨D,R,x4,x5,x6,x7,x8,vs,rfl,eD,eR,g4,g5,g6,g7,g8⟩:=h;cases R with
    |nil=>cases eR
    |cons kd R =>
     rw[sW]at eR;obtain⟨e1,e2⟩:=List.cons.inj eR;subst e1;obtain⟨w1,w2,hm,w3⟩:=W.part eD;obtain⟨r0,rs,er⟩:∃r0 rs,kd.2=r0::rs:=by have:=(W.rw kd hm).1;cases h:kd.2 with|nil=>rw[h]at this;simp at this|cons a b=>exact⟨a,b,rfl⟩
     obtain⟨y7,y8,eQ,f7,f8,el⟩:=Ln (sc:=.lst (K.map A4)) (names:=names) (above:=D.map (·.1)) (aT:=Bi D) (kJ:=vs) (k:=kd.1) (first:=r0.1) (rows:=kd.2) (x7:=x7) (x8:=x8) g7 g8 (λr m=>W.yu _ (VP hm m)) w1 w2 (W.two kd hm) (λr m x hx=>hN▸W.yz kd hm r m x hx) (λr m e x hx=>by have:r=r0:=QV w3 m (by rw[er];simp) e;subst this;exact W.gr D kd R eD.symm r (by rw[er];rfl) x hx);refine⟨[vl (.lst (K.map A4)),vl (.lst (names.map T.str)),some (.own (.lst ((D.map (·.1)).map T.str))),some (.own (.l (Bi D) vs)),vl (.str kd.1),vl (.lst (kd.2.map Ey)),x6,x7,x8],[vl (.lst (K.map A4)),vl (.lst (names.map T.str)),some (.own (.lst ((D.map (·.1)).map T.str++[.str kd.1]))),some (.own (.l (Bi D++kd.2.map CZ) eQ)),vl (.str kd.1),vl (.lst (kd.2.map Ey)),vl (.str r0.1),y7,y8],DB (by unfold tgN;exact Bn rfl g4) (by unfold tgN;exact Bn rfl g5),?_,D++[kd],R,vl (.str kd.1),vl (.lst (kd.2.map Ey)),vl (.str r0.1),y7,y8,eQ,?_,by rw[<- eD];simp,e2,AD,AD,AD,f7,f8⟩
     .have q1:atI (kd.2.map Ey) 0=some (Ey r0):=DA (j:=0) (by rw[er];rfl);refine sq (AI (Aj (Aj (Aa rfl) Ay (Eb rfl q1)) Ay (show AB (.t (Ey r0)) (.t (.int 0)) _=.ok (.t (.str r0.1)) _ from rfl)) (Bn rfl g6)) ?_;refine sq (show Dq _ _ _ _=_ from el) ?_;exact MI (i:=2) rfl (Am (Aa rfl)) (by
       have:=congrArg List.length eD;have h4:=W.hi;simp at this;rw[sU,sU];show _<1000000
       lia) rfl
     .rw[E5,tL,tL];rfl)
   (K.map A4) [vl (.lst (K.map A4)),vl (.lst (names.map T.str)),some (.own (.lst [])),some (.own (.l [] [])),none,none,none,none,none] ⟨[],K,none,none,none,none,none,[],rfl,rfl,rfl,Aq,Aq,Aq,Aq,Aq⟩
  refine⟨vl (.lst (names.map T.str)),some (.own (.lst ((D.map (·.1)).map T.str))),some (.own (.l (Bi D) vs)),x4,x5,x6,x7,x8,?_⟩;refine sq s1 ?_;refine sq (ar:=[vl (.lst (K.map A4)),vl (.lst (names.map T.str)),some (.own (.lst [])),none,none,none,none,none,none]) rfl ?_;exact sq (ar:=[vl (.lst (K.map A4)),vl (.lst (names.map T.str)),some (.own (.lst [])),some (.own (.l [] [])),none,none,none,none,none]) rfl ef
 obtain⟨x1,x2,x3,x4,x5,x6,x7,x8,all⟩:=all;unfold BD Bo;show(match B9 [vl (.lst (K.map A4)),none,none,none,none,none,none,none,none]with|.nx τ=>_|.ret (.t t) τ=>_|.ret (.nw o) τ=>_|.ret (.n i) τ=>_|.exc c τ=>_|_=>_)=_;rw[all];rfl
theorem GJ{i}{os cm:List FO}(hv:fv fs=.ok (.nw o) aj)(h0:aj[i]?=some (some (.bor (.ins C gs os))))(hl:gs.length<900)(hp:C7 gs os f o=some (dm,cm))(e:aj.set i (some (.bor (.ins C dm cm)))=ar):HY C f i fv fs=.nx ar:=by unfold HY;rw[hv];simp only[SO.of,JbG,J2 h0];rw[if_pos ⟨trivial,hl⟩,hp];simp only;unfold FL.putAt;rw[h0];simp only[Sl.put,e]
theorem Jb{i}{j}{os:List FO}(hv:fv fs=.ok (.t t) aj)(h0:aj[i]?=some (some (.bor (.ins C gs os))))(hj:aj[j]?=some (vl (.str k)))(hf:A9 gs os f=some (.l ks ts))(hn:(.inr k:Key)∉ks)(hl:ks.length<big)
  (e:aj.set i (some (.bor (.ins C gs (Bw gs os f (.l (ks++[.inr k]) (ts++[t]))))))=ar):CO C f i j fv fs=.nx ar:=by
 have h3:E2 ks ts (.inr k:Key) t=(ks++[.inr k],ts++[t]):=by unfold E2;rw[any_false hn];rfl
 unfold CO;rw[hv];simp only[SO.of,J2 h0,hj,HD,hf,if_true,hl,h3];unfold FL.putAt;rw[h0];simp only[Sl.put,e]
noncomputable def Jr(rows:List (Str×List Str)):List T:=rows.map λr=>T.tup (r.2.map T.str)
noncomputable def JK(K:Kd):List T:=K.flatMap λkd=>Jr kd.2
noncomputable def Ng(k:Str)(rows:List (Str×List Str)):List T:=rows.map λ_=>T.str k
noncomputable def IS(K:Kd):List T:=K.flatMap λkd=>Ng kd.1 kd.2
noncomputable def Eo(K:Kd):List T:=K.map λkd=>T.lst ((kd.2.map (·.1)).map T.str)
theorem Oh(D:Kd)(kd:Str×List (Str×List Str)):JK (D++[kd])=JK D++Jr kd.2:=by unfold JK;simp
theorem O7{C:Addr}{A B H:Str}(fM:A≠B)(fN:A≠H)(fO:B≠H){oA:FO}{sc mk:T}{k:Str}{rows:List (Str×List Str)}{aT:List Key}{eN gY:List T}{x4 x5:Option Sl}(f4:Fre x4)(f5:Fre x5)(eU:(aT++rows.map CZ).Nodup)(hlen:aT.length+rows.length<1000):
  ∃(y4 y5:Option Sl)(hs:List T),hs=gY++Ng k rows/\Fre y4/\Fre y5/\DW (AW 2 (Af (tgN 4) (Af (tgN 5) AN))) (Av (CO C B 0 4 (Ai BP (Ac (Ab 5) Ah)))
  (CO C H 0 4 (fz (Ab 2)))) (rows.map Ey) [some (.bor (.ins C [A,B,H] [oA,.l aT eN,.l aT gY])),vl sc,vl (.str k),vl mk,x4,x5] =
   .nx [some (.bor (.ins C [A,B,H] [oA,.l (aT++rows.map CZ) (eN++Jr rows),.l (aT++rows.map CZ) hs])),vl sc,vl (.str k),vl mk,y4,y5]:=by
 obtain⟨ar,ef,D,R,y4,y5,hs,rfl,eD,eR,g4,g5,eh⟩:=Dw (gt:=AW 2 (Af (tgN 4) (Af (tgN 5) AN))) (body:=Av (CO C B 0 4 (Ai BP (Ac (Ab 5) Ah)))
  (CO C H 0 4 (fz (Ab 2))))
  (λts fs=>∃(D R:List (Str×List Str))(y4 y5:Option Sl)(hs:List T),fs=[some (.bor (.ins C [A,B,H] [oA,.l (aT++D.map CZ) (eN++Jr D),.l (aT++D.map CZ) hs])),vl sc,vl (.str k),vl mk,y4,y5]/\D++R=rows/\ts=R.map Ey/\Fre y4/\Fre y5/\hs=gY++Ng k D)
  (λt' ts fs h=>by
   obtain⟨D,R,y4,y5,hs,rfl,eD,eR,g4,g5,eh⟩:=h;cases R with
   |nil=>cases eR
   |cons r R =>
    rw[sW]at eR;obtain⟨e1,e2⟩:=List.cons.inj eR;subst e1;have b9:(.inr r.1:Key)∉aT++D.map CZ:=by rw[<- eD,tL,sW,<- t9,sT]at eU;intro m;exact eU.2.2 _ m (CZ r) (by simp) rfl
    have hl:(aT++D.map CZ).length<big:=by
     have:=congrArg List.length eD;simp at this;rw[t5,sU];show _<1000000
     lia
    have v1:A9 [A,B,H] [oA,.l (aT++D.map CZ) (eN++Jr D),.l (aT++D.map CZ) hs] B=some (.l (aT++D.map CZ) (eN++Jr D)):=by simp[A9,Ne.symm fM]
    have s1:Bw [A,B,H] [oA,.l (aT++D.map CZ) (eN++Jr D),.l (aT++D.map CZ) hs] B (.l (aT++D.map CZ++[.inr r.1]) (eN++Jr D++[.tup (r.2.map T.str)]))=[oA,.l (aT++D.map CZ++[.inr r.1]) (eN++Jr D++[.tup (r.2.map T.str)]),.l (aT++D.map CZ) hs]:=by simp[Bw,Ne.symm fM]
    have v2:A9 [A,B,H] [oA,.l (aT++D.map CZ++[.inr r.1]) (eN++Jr D++[.tup (r.2.map T.str)]),.l (aT++D.map CZ) hs] H=some (.l (aT++D.map CZ) hs):=by simp[A9,Ne.symm fN,Ne.symm fO]
    have s2:Bw [A,B,H] [oA,.l (aT++D.map CZ++[.inr r.1]) (eN++Jr D++[.tup (r.2.map T.str)]),.l (aT++D.map CZ) hs] H (.l (aT++D.map CZ++[.inr r.1]) (hs++[.str k]))=[oA,.l (aT++D.map CZ++[.inr r.1]) (eN++Jr D++[.tup (r.2.map T.str)]),.l (aT++D.map CZ++[.inr r.1]) (hs++[.str k])]:=by simp[Bw,Ne.symm fN,Ne.symm fO]
    refine⟨[some (.bor (.ins C [A,B,H] [oA,.l (aT++D.map CZ) (eN++Jr D),.l (aT++D.map CZ) hs])),vl sc,vl (.str k),vl mk,vl (.str r.1),vl (.tup (r.2.map T.str))],[some (.bor (.ins C [A,B,H] [oA,.l (aT++D.map CZ++[.inr r.1]) (eN++Jr D++[.tup (r.2.map T.str)]),.l (aT++D.map CZ++[.inr r.1]) (hs++[.str k])])),vl sc,vl (.str k),vl mk,vl (.str r.1),vl (.tup (r.2.map T.str))],DB (by unfold tgN;exact Bn rfl g4) (by unfold tgN;exact Bn rfl g5),?_,D++[r],R,vl (.str r.1),vl (.tup (r.2.map T.str)),hs++[.str k],?_,by rw[<- eD];simp,e2,AD,AD,by rw[eh];simp[Ng]⟩
    .refine sq (Jb (t:=.tup (r.2.map T.str)) (BU (Ao (Aa rfl) rfl) rfl) rfl rfl v1 b9 hl rfl) ?_;rw[s1];refine Jb (t:=.str k) (Am (Aa rfl)) rfl rfl v2 b9 hl ?_;rw[s2];rfl
    .unfold Jr;rw[tL,tL,<- t9,<- t9];rfl)
  (rows.map Ey) [some (.bor (.ins C [A,B,H] [oA,.l aT eN,.l aT gY])),vl sc,vl (.str k),vl mk,x4,x5] ⟨[],rows,x4,x5,gY,by simp[Jr],rfl,rfl,f4,f5,by simp[Ng]⟩
 have hR:R=[]:=by cases R with|nil=>rfl|cons a b=>cases eR
 subst hR;rw[ug]at eD;subst eD;exact⟨y4,y5,hs,eh,g4,g5,ef⟩
theorem FQ:("makers_by_kind":Str)≠("parts_by_maker":Str)/\("makers_by_kind":Str)≠("home_by_maker":Str)/\("parts_by_maker":Str)≠("home_by_maker":Str):=by decide +kernel
noncomputable def N4(C:Addr)(K:Kd)(hs:List T):FO:=.ins C ["makers_by_kind","parts_by_maker","home_by_maker"] [.l (BZ K) (Eo K),.l (Bi K) (JK K),.l (Bi K) hs]
theorem MS{K:Kd}(W:Well K):Ci C [some (.bor (.ins C [] [])),vl (.lst (K.map A4))]=.ok (.t .v) [some (.bor (N4 C K (IS K))),vl (.lst (K.map A4))]:=by
 have all:∃hs x2 x3 x4 x5,hs=IS K/\C3 C [some (.bor (.ins C [] [])),vl (.lst (K.map A4)),none,none,none,none]=.nx [some (.bor (N4 C K hs)),vl (.lst (K.map A4)),x2,x3,x4,x5]:=by
  unfold C3 N4;obtain⟨fM,fN,fO⟩:=FQ;generalize ("makers_by_kind":Str)=A at fM fN ⊢;generalize ("parts_by_maker":Str)=B at fM fO ⊢;generalize ("home_by_maker":Str)=H at fN fO ⊢;obtain⟨ar,ef,D,R,x2,x3,x4,x5,hs,rfl,eD,eR,g2,g3,g4,g5,eh⟩:=Dw (gt:=AW 2 (Af (tgN 2) (Af (tgN 3) AN))) (body:=(Av (CO C A 0 2 (Cj false [none,none] (itU (fz (Ab 3))) (AW 2 (Af (tgN 0) (Af (tgN 1) AN))) EX (fz (Ab 0))))
  (Dq (itU (fz (Ab 3))) (AW 2 (Af (tgN 4) (Af (tgN 5) AN))) (Av (CO C B 0 4 (Ai BP (Ac (Ab 5) Ah)))
  (CO C H 0 4 (fz (Ab 2)))))))
   (λts fs=>∃(D R:Kd)(x2 x3 x4 x5:Option Sl)(hs:List T),fs=[some (.bor (.ins C [A,B,H] [.l (BZ D) (Eo D),.l (Bi D) (JK D),.l (Bi D) hs])),vl (.lst (K.map A4)),x2,x3,x4,x5]/\D++R=K/\ts=R.map A4/\Fre x2/\Fre x3/\Fre x4/\Fre x5/\hs=IS D)
   (λt' ts fs h=>by
    obtain⟨D,R,x2,x3,x4,x5,hs,rfl,eD,eR,g2,g3,g4,g5,eh⟩:=h;cases R with
    |nil=>cases eR
    |cons kd R =>
     rw[sW]at eR;obtain⟨e1,e2⟩:=List.cons.inj eR;subst e1;obtain⟨w1,w2,hm,w3⟩:=W.part eD;have eU:=W.nd;have v1:A9 [A,B,H] [.l (BZ D) (Eo D),.l (Bi D) (JK D),.l (Bi D) hs] A=some (.l (BZ D) (Eo D)):=by simp[A9]
     have s1:Bw [A,B,H] [.l (BZ D) (Eo D),.l (Bi D) (JK D),.l (Bi D) hs] A (.l (BZ D++[.inr kd.1]) (Eo D++[.lst ((kd.2.map (·.1)).map T.str)]))=[.l (BZ D++[.inr kd.1]) (Eo D++[.lst ((kd.2.map (·.1)).map T.str)]),.l (Bi D) (JK D),.l (Bi D) hs]:=by simp[Bw]
     obtain⟨y4,y5,aZ,qc,f4,f5,el⟩:=O7 (C:=C) fM fN fO (oA:=.l (BZ D++[.inr kd.1]) (Eo D++[.lst ((kd.2.map (·.1)).map T.str)])) (sc:=.lst (K.map A4)) (mk:=.lst (kd.2.map Ey)) (k:=kd.1) (rows:=kd.2) (aT:=Bi D) (eN:=JK D) (gY:=hs) (x4:=x4) (x5:=x5) g4 g5 w1 w2;refine⟨[some (.bor (.ins C [A,B,H] [.l (BZ D) (Eo D),.l (Bi D) (JK D),.l (Bi D) hs])),vl (.lst (K.map A4)),vl (.str kd.1),vl (.lst (kd.2.map Ey)),x4,x5],[some (.bor (.ins C [A,B,H] [.l (BZ D++[.inr kd.1]) (Eo D++[.lst ((kd.2.map (·.1)).map T.str)]),.l (Bi D++kd.2.map CZ) (JK D++Jr kd.2),.l (Bi D++kd.2.map CZ) aZ])),vl (.lst (K.map A4)),vl (.str kd.1),vl (.lst (kd.2.map Ey)),y4,y5],DB (by unfold tgN;exact Bn rfl g2) (by unfold tgN;exact Bn rfl g3),?_,D++[kd],R,vl (.str kd.1),vl (.lst (kd.2.map Ey)),y4,y5,aZ,?_,by rw[<- eD];simp,e2,AD,AD,f4,f5,by rw[qc,eh];simp[IS]⟩
     .refine sq (Jb (t:=.lst ((kd.2.map (·.1)).map T.str)) (by
      obtain⟨x,y,_,_,e⟩:=GU (fe:=fz (Ab 0)) (f:=λr:Str×List Str=>.str r.1) (g:=λr=>.tup (r.2.map T.str)) (h:=λr=>.str r.1) (rest:=[]) kd.2 none none [] Aq Aq (λkd _=>Am (Aa rfl)) (by have:=(W.rw kd hm).2;show 0+_<=1000000;lia);have:=DY (src:=[none,none]) (fi:=itU (fz (Ab 3))) (fs:=[some (.bor (.ins C [A,B,H] [.l (BZ D) (Eo D),.l (Bi D) (JK D),.l (Bi D) hs])),vl (.lst (K.map A4)),vl (.str kd.1),vl (.lst (kd.2.map Ey)),x4,x5]) (ts:=kd.2.map Ey) rfl ⟨by rw[show C8 _ (List.map _ [none,none])=[]from rfl];exact tJ,by rfl⟩ e (AS rfl);rw[this,ue,ua];rfl) rfl rfl v1 (by
      intro m;unfold BZ at m;rw[t8]at m;obtain⟨jd,m',e'⟩:=m;have p9:jd.1=kd.1:=by simpa using e'
      rw[<- eD,tL,sT]at eU;exact eU.2.2 jd.1 (t8.mpr ⟨jd,m',rfl⟩) kd.1 (by simp) p9) (by
      unfold BZ;rw[sU];have:=congrArg List.length eD;have h4:=W.hi;simp at this;show D.length<1000000
      lia) rfl) ?_
      rw[s1];exact el
     .rw[E5,Oh];unfold BZ Eo;rw[tL,tL];rfl)
   (K.map A4) [some (.bor (.ins C [A,B,H] [.l [] [],.l [] [],.l [] []])),vl (.lst (K.map A4)),none,none,none,none] ⟨[],K,none,none,none,none,[],rfl,rfl,rfl,Aq,Aq,Aq,Aq,rfl⟩
  have hR:R=[]:=by cases R with|nil=>rfl|cons a b=>cases eR
  subst hR;rw[ug]at eD;subst eD;refine⟨hs,x2,x3,x4,x5,eh,?_⟩;refine sq (Dy (BX (Ae (Am (Aa (t:=.lst (D.map A4)) rfl)) Au) rfl rfl (CS W.lo W.hi W.nd W.nm W.rw))) ?_;refine sq (Dy (BX (Ae (Am (Aa (t:=.lst (D.map A4)) rfl)) Au) rfl rfl (Ck W))) ?_;refine sq (ar:=[some (.bor (.ins C [A] [.l [] []])),vl (.lst (D.map A4)),none,none,none,none]) (GJ (o:=.l [] []) rfl rfl (show 0<900 by decide) rfl rfl) ?_;refine sq (ar:=[some (.bor (.ins C [A,B] [.l [] [],.l [] []])),vl (.lst (D.map A4)),none,none,none,none]) (GJ (o:=.l [] []) rfl rfl (show 1<900 by decide) (by simp[C7,fM]) rfl) ?_;refine sq (ar:=[some (.bor (.ins C [A,B,H] [.l [] [],.l [] [],.l [] []])),vl (.lst (D.map A4)),none,none,none,none]) (GJ (o:=.l [] []) rfl rfl (show 2<900 by decide) (by simp[C7,fN,fO]) rfl) ?_;exact ef
 obtain⟨hs,x2,x3,x4,x5,eh,all⟩:=all;subst eh;unfold Ci Bo;show(match C3 C [some (.bor (.ins C [] [])),vl (.lst (K.map A4)),none,none,none,none]with|.nx τ=>_|.ret (.t t) τ=>_|.ret (.nw o) τ=>_|.ret (.n i) τ=>_|.exc c τ=>_|_=>_)=_;rw[all];rfl
noncomputable def A5(C:Addr)(K:Kd)(hs:List T):T:=.ins C ["makers_by_kind","parts_by_maker","home_by_maker"] [.l (BZ K) (Eo K),.l (Bi K) (JK K),.l (Bi K) hs]
theorem Pu{i}(h:fs[i]?=some (vl (A5 C K hs))):CJ C "makers_by_kind" (Ab i) fs=.ok (.t (.l (BZ K) (Eo K))) fs:=by unfold CJ;rw[Aa h];obtain⟨fM,fN,fO⟩:=FQ;unfold A5;generalize ("makers_by_kind":Str)=A at *;simp[Out.bnd,Out.bind,Sg,Jq,okT]
theorem T7{i}(h:fs[i]?=some (vl (A5 C K hs))):CJ C "parts_by_maker" (Ab i) fs=.ok (.t (.l (Bi K) (JK K))) fs:=by unfold CJ;rw[Aa h];obtain⟨fM,fN,fO⟩:=FQ;unfold A5;generalize ("makers_by_kind":Str)=A at *;generalize ("parts_by_maker":Str)=B at *;simp[Out.bnd,Out.bind,Sg,Jq,okT,Ne.symm fM]
theorem QL:AR C [vl (A5 C K hs)]=.ok (.nw (.lst ((K.map (·.1)).map T.str))) [vl (A5 C K hs)]:=by
 have all:CF C [vl (A5 C K hs)]=.ret (.nw (.lst ((K.map (·.1)).map T.str))) [vl (A5 C K hs)]:=by unfold CF;refine AO (BU (Ao (Pu rfl) rfl) ?_);show Out.ok (Rv.nw (.lst ((BZ K).map VT))) _=_;unfold BZ;rw[ua,ua];rfl
 unfold AR Bo;show(match CF C [vl (A5 C K hs)]with|.nx τ=>_|.ret (.t t) τ=>_|.ret (.nw o) τ=>_|.ret (.n i) τ=>_|.exc c τ=>_|_=>_)=_;rw[all];rfl
theorem Lq(W:Well K):(K.map λkd=>(.inr kd.1:Key)).Nodup:=by have:=Dh W.nd;rwa[ua]at this
theorem val_mk(W:Well K)(m:kd∈K):Cn (BZ K) (Eo K) (.inr kd.1:Key)=some (.lst ((kd.2.map (·.1)).map T.str)) :=
 De m (Lq W)
noncomputable def allR(K:Kd):List (Str×List Str):=K.flatMap (·.2)
theorem Gr(K:Kd):Bi K=(allR K).map CZ:=by unfold Bi mks allR;rw[uK,uK];simp only[ua];rfl
theorem Q5(K:Kd):JK K=(allR K).map λr=>T.tup (r.2.map T.str):=by unfold JK Jr allR;rw[uK]
theorem Tj(W:Well K)(m:kd∈K)(m2:r∈kd.2):Cn (Bi K) (JK K) (.inr r.1:Key)=some (.tup (r.2.map T.str)):=by have h:=Dh W.yV;have h2:=Gr K;unfold Bi at h2;rw[h2]at h;rw[Gr,Q5];exact De (vb.mpr ⟨kd,m,m2⟩) h
theorem IV(h:Cn ks ts (.inr k:Key)=some t):AB (.t (.l ks ts)) (.t (.str k)) fs=.ok (.t t) fs:=by
 have e:Pn (.t (.l ks ts)) (.t (.str k)) fs=.ok (.t t) fs:=by simp only[Pn,WJ,HD,Option.map_some,h,okT]
 exact e
theorem N6(W:Well K)(m:kd∈K):Az C [vl (A5 C K hs),vl (.str kd.1)]=.ok (.nw (.lst ((kd.2.map (·.1)).map T.str))) [vl (A5 C K hs),vl (.str kd.1)]:=by
 have all:Cb C [vl (A5 C K hs),vl (.str kd.1)]=.ret (.nw (.lst ((kd.2.map (·.1)).map T.str))) [vl (A5 C K hs),vl (.str kd.1)]:=by
  unfold Cb;refine sq (AU (Bs (Aj (Am (Aa rfl)) (Pu rfl) ?_)) rfl) ?_
  .rw[TY,val_mk W m];rfl
  exact AO (BU (Ao (Aj (Pu rfl) (Am (Aa rfl)) (IV (val_mk W m))) rfl) rfl)
 unfold Az Bo;show(match Cb C [vl (A5 C K hs),vl (.str kd.1)]with|.nx τ=>_|.ret (.t t) τ=>_|.ret (.nw o) τ=>_|.ret (.n i) τ=>_|.exc c τ=>_|_=>_)=_;rw[all];rfl
theorem LP(W:Well K)(m:kd∈K)(m2:r∈kd.2):Bk C [vl (A5 C K hs),vl (.str r.1)]=.ok (.t (.tup (r.2.map T.str))) [vl (A5 C K hs),vl (.str r.1)]:=by
 have all:CD C [vl (A5 C K hs),vl (.str r.1)]=.ret (.t (.tup (r.2.map T.str))) [vl (A5 C K hs),vl (.str r.1)]:=by
  unfold CD;refine sq (AU (Bs (Aj (Am (Aa rfl)) (T7 rfl) ?_)) rfl) ?_
  .rw[TY,Tj W m m2];rfl
  exact AO (Aj (T7 rfl) (Am (Aa rfl)) (IV (Tj W m m2)))
 unfold Bk Bo;show(match CD C [vl (A5 C K hs),vl (.str r.1)]with|.nx τ=>_|.ret (.t t) τ=>_|.ret (.nw o) τ=>_|.ret (.n i) τ=>_|.exc c τ=>_|_=>_)=_;rw[all];rfl
theorem EJ{mt:Str}(h:(["makers_by_kind","parts_by_maker","home_by_maker"]:List Str).any (·==mt)=false):DT C mt fs (.t (A5 C K hs))=true:=by unfold DT A5;simp only[h];simp
theorem Z7(h:f fs=.ok (.t (.o false)) aj):Us f g fs=.ok (.t (.o false)) aj:=by unfold Us;rw[h];rfl
theorem Qm(h:f fs=.ok (.t (.o true)) aj)(e:g aj=r):Us f g fs=r:=by unfold Us;rw[h];exact e
theorem DG(h1:gt t fs=some aj)(h2:body aj=.nx aB):DW gt body (t::ts) fs=DW gt body ts aB:=by simp only[DW,h1,h2]
theorem S4(h:fa fs=.ok rs aj)(h2:g rs aj=r):Ai g fa fs=r:=by unfold Ai;rw[h];exact h2
theorem Z4{i}{j}(h:f fs=.ok (.t (.tup [x,y])) aj)(h1:tgN i x aj=some aB)(h2:tgN j y aB=some ar):Hi f (AW 2 (Af (tgN i) (Af (tgN j) AN))) fs=.nx ar:=by unfold Hi;rw[h];show(match AW 2 (Af (tgN i) (Af (tgN j) AN)) (.tup [x,y]) aj with|some fs=>SO.nx fs|none=>.bad)=_;rw[DB h1 h2]
theorem XH{i}(h:fs[i]?=some (some (.own (.lst ts)))):Cs fs (.n i)=some ts:=by simp only[Cs,Jai h]
theorem Z0(h:ps.length+us.length<=big):Aw (.t (.tup ps)) (.t (.tup us)) fs=.ok (.t (.tup (ps++us))) fs:=by cases ps with|nil=>rfl|cons p ps =>have:Pq (.t (.tup (p::ps))) (.t (.tup us)) fs=.ok (.t (.tup (p::ps++us))) fs:=if_pos ⟨by simp,h⟩;show(match Pq (.t (.tup (p::ps))) (.t (.tup us)) fs with|.bad=>_|o=>o)=_;rw[this]
open Builtin.Int (intBits)
theorem WY:intBits x<=n↔x.natAbs<2^n:=by
 unfold intBits;by_cases h:x=0
 .subst h;simp[Nat.two_pow_pos]
 .have h':(x==0)=false:=by simpa using h
  rw[h'];have hn:x.natAbs≠0:=by lia
  have:=Nat.log2_lt hn (k:=n);simp only[Bool.false_eq_true,if_false]
  lia
theorem MF:∀{ns:List Int}{z:Int},z∈ns->intBits z<=CT ns
 |n::ns,z,h=>by
  simp only[CT];rcases tm.mp h with rfl|h
  .lia
  .have:=MF h
   lia
theorem S7(hb:CT ns<=N)(i:Nat):intBits (ns.getD i 0)<=N:=by
 by_cases h:i<ns.length
 .have:ns.getD i 0∈ns:=by simp[List.getD,h]
  have:=MF this
  lia
 .have:ns.getD i 0=0:=by simp[List.getD,uq (by lia:ns.length<=i)]
  rw[this,WY];exact Nat.two_pow_pos N
theorem OF(c:Int)(h:n<=12):(nms c n).Nodup:=by unfold nms;rw[List.nodup_iff_pairwise_ne,List.pairwise_map];refine List.Pairwise.imp_of_mem ?_ (List.nodup_iff_pairwise_ne.mp (List.nodup_range));intro a b ma mb ie e;rw[uG]at ma mb;exact ie (VD (by lia) (by lia) e)
theorem OG(h:x∈nms c n):∃k,x=nmS c k:=by unfold nms at h;rw[t8]at h;obtain⟨k,_,e⟩:=h;exact⟨k,e.symm⟩
theorem VC(c:Int)(k:Nat):(nmS c k).length<=12:=by show(Nm.codes c k).toArray.size<=12;rw[sX];exact Nm.MA c k
theorem IM(ha:fa fs=.ok rs aj)(hp:rs.length+1=p)(hl:C8 aj (rs.map Bj)=[])(hf:Fn (some (.bor (.ins C [] []))::B0 aj (rs.map Bj))=.ok (.t .v) (some (.bor o)::τ)):Ai (E6 C p Fn) fa fs=.ok (.nw o) aj:=by unfold Ai;rw[ha];show E6 C p Fn rs aj=_;unfold E6;rw[if_pos ⟨by rw[hl];exact tJ,hp⟩,hf];dsimp only;rw[AS hl]
theorem P6(h:xs.length+ys.length<=big):Aw (.t (.lst xs)) (.t (.lst ys)) fs=.ok (.nw (.lst (xs++ys))) fs:=by
 have:Nl (.t (.lst xs)) (.t (.lst ys)) fs=.ok (.nw (.lst (xs++ys))) fs:=by simp only[Nl,exL];exact if_pos h
 show(match Nl (.t (.lst xs)) (.t (.lst ys)) fs with|.bad=>_|o=>o)=_;rw[this]
theorem Yn(h:f fs=.ok false fs)(e:g fs=r):orT f g fs=r:=by unfold orT;rw[h];exact e
theorem XA{i}(e:fs[i]?=some x)(h:Fre x):MT i (.nw o) fs=some (fs.set i (some (.own o))):=by unfold MT;rw[e];cases x with|none=>rfl|some s=>cases s with|val t=>rfl|own o=>rfl|bor o=>exact h.elim
theorem BB(h:g (args++List.replicate n none)=.ret (.t t) τ):Bo n g args=.ok (.t t) (τ.take args.length):=by unfold Bo;rw[h]
theorem O3(h:f fs=.ok (.t (.tup ts)) fs):itU f fs=.ok ts fs:=by unfold itU;rw[h];rfl
theorem EO:∀(xs:List α)(x:Option Sl)(ay:List T),Fre x->(∀a∈xs,fe (vl (p a)::rest)=.ok (.t (q a)) (vl (p a)::rest))->ay.length+xs.length<=big ->
  ∃y,Fre y/\Dc (tgN 0) EX fe (xs.map p) (x::rest) ay=some (ay++xs.map q,y::rest)
 | [],x,ay,hx,_,_=>⟨x,hx,by simp[Dc]⟩
 |a::xs,x,ay,hx,h,hl=>by
  obtain⟨y,hy,e⟩:=EO xs (vl (p a)) (ay++[q a]) AD (λb m=>h b (sZ _ m)) (by simp at hl ⊢;lia);refine⟨y,hy,?_⟩;have h1:tgN 0 (p a) (x::rest)=some (vl (p a)::rest):=by unfold tgN;rw[Bn rfl hx];rfl
  have h3:ay.length<big:=by simp at hl;lia
  simp only[sW,Dc,h1,EX,(h a tZ),if_pos h3,e];simp
theorem QU{i}(h:g (args++List.replicate n none)=.ret (.n i) τ)(hi:τ[i]?=some (some (.own o))):Bo n g args=.ok (.nw o) ((τ.set i none).take args.length):=by unfold Bo;rw[h];simp only[hi]
theorem LC(m:Nat)(a b:Str):eqT m (.str a) (.str b)=some (a==b):=by cases m<;>rfl
theorem I0(m:Nat)(xs ys:List T):eqT (m+1) (.tup xs) (.tup ys)=(Js (eqT m) xs ys).map (·&&xs.length==ys.length):=rfl
theorem GA(h:f fs=.ok (.t (.lst ts)) fs):itU f fs=.ok ts fs:=by unfold itU;rw[h];rfl
theorem K4(h:g (args++List.replicate n none)=.ret (.nw o) τ):Bo n g args=.ok (.nw o) (τ.take args.length):=by unfold Bo;rw[h]
theorem FJ(e:g fs=.exc c ar):Av g h fs=.exc c ar:=by unfold Av;rw[e]
theorem EE(h:g (args++List.replicate n none)=.exc c τ):Bo n g args=.exc c (τ.take args.length):=by unfold Bo;rw[h]
theorem KG(ha:fa fs=.ok rs aj)(hp:rs.length=p)(hn:C8 aj (rs.map Bj)=[])(hf:Fn (B0 aj (rs.map Bj))=.exc c τ):Ai (Ak p Fn) fa fs=.exc c aj:=by unfold Ai;rw[ha];show Ak p Fn rs aj=_;unfold Ak;rw[if_pos hp];unfold El;rw[if_pos (by rw[hn];exact tJ),hf];simp only[(AS hn)]
theorem T5(h:f fs=.exc c aj):fz f fs=.exc c aj:=by unfold fz;rw[h];rfl
theorem QW(h:f fs=.exc c aj):retS f fs=.exc c aj:=by unfold retS;rw[h];rfl
theorem Kp(h:f fs=.exc c aj):AE f fs=.exc c aj:=by unfold AE;rw[h];rfl
theorem QP{i}(h:f fs=.exc c aj):AL i f fs=.exc c aj:=by unfold AL;rw[h];rfl
noncomputable def Jaq(K:Kd):List (Str×Str×List Str):=K.flatMap λkd=>kd.2.map λr=>(kd.1,r)
theorem OK(K:Kd):Bi K=(Jaq K).map λq=>CZ q.2:=by rw[Gr];unfold Jaq allR;rw[uK,uK];simp only[ua];rfl
theorem V4(K:Kd):IS K=(Jaq K).map λq=>T.str q.1:=by unfold IS Ng Jaq;rw[uK];simp only[ua];rfl
theorem Tn(W:Well K)(m:kd∈K)(m2:r∈kd.2):Cn (Bi K) (IS K) (.inr r.1:Key)=some (.str kd.1):=by have h:(Bi K).Nodup:=Dh W.yV;rw[OK]at h;rw[OK,V4];exact De (vb.mpr ⟨kd,m,t8.mpr ⟨r,m2,rfl⟩⟩) h
abbrev stT(C:Addr)(K:Kd):T:=A5 C K (IS K)
variable{C:Addr}
section
variable{K:Kd}{hs:List T}
theorem T8{i}(h:fs[i]?=some (vl (A5 C K hs))):CJ C "home_by_maker" (Ab i) fs=.ok (.t (.l (Bi K) hs)) fs:=by unfold CJ;rw[Aa h];obtain⟨fM,fN,fO⟩:=FQ;unfold A5;generalize ("makers_by_kind":Str)=A at *;generalize ("parts_by_maker":Str)=B at *;generalize ("home_by_maker":Str)=H at *;simp[Out.bnd,Out.bind,Sg,Jq,okT,Ne.symm fN,Ne.symm fO]
theorem UJ(W:Well K)(m:kd∈K)(m2:r∈kd.2):C0 C [vl (stT C K),vl (.str r.1)]=.ok (.t (.str kd.1)) [vl (stT C K),vl (.str r.1)]:=by
 exact(BB (by
  unfold Fx;refine sq (AU (Bs (Aj (Am (Aa rfl)) (T8 rfl) ?_)) rfl) ?_
  .rw[TY,Tn W m m2];rfl
  exact AO (Aj (T8 rfl) (Am (Aa rfl)) (IV (Tn W m m2))))).trans rfl
theorem YW{xs:List Str}(h:k∉xs):(.inr k:Key)∉xs.map λm=>(.inr m:Key):=λm=>by obtain⟨x,hm,e⟩:=t8.mp m;exact h (Sum.inr.inj e▸hm)
end
variable{mt:Str}{p:Nat}{Fn fo:FS->Out Rv}{fa:FS->Out (List Rv)}{rs:List Rv}{τ:FS}
section
variable{K:Kd}{hs:List T}
theorem Qb(hp:rs.length=p)(hn:C8 fs (rs.map Bj)=[])(hf:Fn (B0 fs (rs.map Bj))=.ok (.nw o) τ):Ak p Fn rs fs=.ok (.nw o) fs:=by unfold Ak;rw[if_pos hp];unfold El;rw[if_pos (by rw[hn];exact tJ),hf];simp only[(AS hn)]
theorem ME(hp:rs.length=p)(hn:C8 fs (rs.map Bj)=[])(hf:Fn (B0 fs (rs.map Bj))=.ok (.t t) τ):Ak p Fn rs fs=.ok (.t t) fs:=by unfold Ak;rw[if_pos hp];unfold El;rw[if_pos (by rw[hn];exact tJ),hf];simp only[(AS hn)]
theorem NC(hp:rs.length=p)(hn:C8 fs (rs.map Bj)=[])(hf:Fn (B0 fs (rs.map Bj))=.exc c τ):Ak p Fn rs fs=.exc c fs:=by unfold Ak;rw[if_pos hp];unfold El;rw[if_pos (by rw[hn];exact tJ),hf];simp only[(AS hn)]
theorem Rx(ho:fo fs=.ok (.t (A5 C K hs)) fs)(hi:DT C mt fs (.t (A5 C K hs))=true)(hf:Fn [vl (A5 C K hs)]=.ok (.nw o) τ):Hv C mt 1 Fn fo Ah fs=.ok (.nw o) fs:=by have hn:C8 fs ([Rv.t (A5 C K hs)].map Bj)=[]:=rfl;unfold Hv;rw[ho];show(if DT C mt fs (.t (A5 C K hs))=true then _ else _)=_;rw[if_pos hi];show FL.Qc 1 Fn [.t (A5 C K hs)] fs=_;unfold FL.Qc;rw[if_pos (show [Rv.t (A5 C K hs)].length=1 from rfl)];unfold FL.S3;rw[if_pos (by rw[hn];exact tJ)];rw[show Fn (B0 fs ([Rv.t (A5 C K hs)].map Bj))=.ok (.nw o) τ from hf];simp only[(AS hn)]
end
theorem RL:(["makers_by_kind","parts_by_maker","home_by_maker"]:List Str).any (·==("home":Str))=false:=rfl
section
variable{c:Str}
theorem O5(hc:xrs.contains c=true)(g0:Ab 0 fs=.ok (.t (.zT c)) fs):isX xrs D6 d (Ab 0) fs=.ok (.t (.o (D6 c d))) fs:=by unfold isX;rw[g0];show(if xrs.contains c=true then okT (.o (D6 c d)) fs else .bad)=_;rw[if_pos hc];rfl
theorem GW{fa}(h1:fa fs=.ok (.t (.lst ts)) fs)(h2:fb fs=.ok (.t (.lst us)) fs)(h:ts.length+us.length<=big):fz (Ag Aw fa fb) fs=.ok (.t (.lst (ts++us))) fs :=
 Fc (Aj h1 h2 (P6 h))
abbrev bl3(c a b d:Str):List T:=[.o (D6 c a),.o (D6 c b),.o (D6 c d)]
theorem Iq(hc:xrs.contains c=true)(g0:Ab 0 fs=.ok (.t (.zT c)) fs):
  An Cw (Ac (isX xrs D6 a (Ab 0)) (Ac (isX xrs D6 b (Ab 0)) (Ac (isX xrs D6 d (Ab 0)) Ah))) fs=.ok (.t (.lst (bl3 c a b d))) fs :=
 FX (Ao (O5 hc g0) (Ao (O5 hc g0) (Ao (O5 hc g0) Au))) rfl (show 3<=big by decide)
noncomputable def P4(c:Str):List T:=bl3 c "BadName" "Twice" "BadCount"++bl3 c "NoKind" "Groundless" "NoMaker"++bl3 c "NoName" "NoFunction" "NotLess"++bl3 c "BadKind" "TooLong" "NoPlace"++bl3 c "NotShown" "NoSaying" "BadText"
theorem NA(hc:xrs.contains c=true):CL [vl (.zT c)]=.ok (.nw (.lst (P4 c))) [vl (.zT c)]:=by
 have nx:∀(a b d:Str)(ts:List T),ts.length<=100->AL 1 (fz (Ag Aw (Ab 1) (An Cw (Ac (isX xrs D6 a (Ab 0)) (Ac (isX xrs D6 b (Ab 0)) (Ac (isX xrs D6 d (Ab 0)) Ah)))))) [vl (.zT c),vl (.lst ts)]=.nx [vl (.zT c),vl (.lst (ts++bl3 c a b d))]:=λa b d ts hl =>AI (GW (Aa rfl) (Iq hc (Aa rfl)) (by show _<=1000000;simp;lia)) rfl
 have r:∀ts:List T,ts.length<=100->Ag Aw (Ab 1) (An Cw (Ac (isX xrs D6 "NotShown" (Ab 0)) (Ac (isX xrs D6 "NoSaying" (Ab 0)) (Ac (isX xrs D6 "BadText" (Ab 0)) Ah)))) [vl (.zT c),vl (.lst ts)]=.ok (.nw (.lst (ts++bl3 c "NotShown" "NoSaying" "BadText"))) [vl (.zT c),vl (.lst ts)]:=λts hl =>Aj (Aa rfl) (Iq hc (Aa rfl)) (P6 (by show _<=1000000;simp;lia))
 exact(K4 (sq (AI (Iq hc (Aa rfl)) rfl) (sq (nx _ _ _ _ (by simp)) (sq (nx _ _ _ _ (by simp)) (sq (nx _ _ _ _ (by simp)) (AO (r _ (by simp)))))))).trans rfl
theorem MB(hc:xrs.contains c=true):fz (Ai (Ak 1 CL) (Ad (fz (Ab 0)) Ah)) [vl (.zT c)]=.ok (.t (.lst (P4 c))) [vl (.zT c)] :=
 Fc (FY (Ae (Am (Aa rfl)) Au) rfl (by rw[show C8 _ _=[]from rfl];exact tJ) (NA hc) (AS rfl))
theorem Md(h:f fs=.ok (.t (.lst ts)) fs)(e:g (.t (.lst ts)) [.t (.o true)] fs=r):BC g f (Ac (gc (.o true)) Ah) fs=r:=by unfold BC;rw[h];exact e
theorem Jae(hc:xrs.contains c=true)(h1:Jao (.t (.lst (P4 c))) [.t (.o true)] [vl (.zT c)]=.ok (.t (.int ((1:Nat):Int))) [vl (.zT c)])(h2:Jal (.t (.lst (P4 c))) [.t (.o true)] [vl (.zT c)]=.ok (.t (.int n)) [vl (.zT c)]):Ed [vl (.zT c)]=.ok (.t (.int n)) [vl (.zT c)]:=by
 have v:isV xrs (Ab 0) [vl (.zT c)]=.ok (.t (.o true)) [vl (.zT c)]:=by unfold isV;show(if xrs.contains c=true then okT (.o true) [vl (.zT c)]else .bad)=_;rw[if_pos hc];rfl
 exact(BB (sq (AU (Yn (CM (Co v)) (Bs (Aj (Am (Md (MB hc) h1)) Ay rfl))) rfl) (AO (Md (MB hc) h2)))).trans rfl
end
inductive Th where
 |mk (m:Str) (ps:List Th)
noncomputable def Th.ps:Th->List Th
 |.mk _ ps=>ps
mutual
noncomputable def Th.t:Th->T
 |.mk m ps=>.tup [.str m,.tup (Th.ts ps)]
noncomputable def Th.ts:List Th->List T
 | []=>[]
 |h::hs=>h.t::Th.ts hs
end
mutual
noncomputable def Th.sz:Th->Nat
 |.mk _ ps=>1+Th.szs ps
noncomputable def Th.szs:List Th->Nat
 | []=>0
 |h::hs=>h.sz+Th.szs hs
end
theorem Th.Cr:∀hs:List Th,Th.ts hs=hs.map Th.t
 | []=>by simp[Th.ts]
 |h::hs=>by simp[Th.ts,Th.Cr hs]
theorem Th.JbL(h:Th):∃m,h.t=.tup [.str m,.tup (h.ps.map Th.t)]:=by cases h with|mk m ps=>exact⟨m,by simp[Th.t,Th.Cr,Th.ps]⟩
theorem NZ:∀a b:List Th,Th.szs (a++b)=Th.szs a+Th.szs b
 | [],b=>by simp[Th.szs]
 |h::a,b=>by simp[Th.szs,NZ a b];lia
theorem Xz(h:Th):h.sz=1+Th.szs h.ps:=by cases h;simp[Th.sz,Th.ps]
theorem Ir:∀L:List Th,Th.szs L=L.length+Th.szs (L.flatMap Th.ps)
 | []=>by simp[Th.szs]
 |h::L=>by
  rw[uB,NZ,tM,Th.szs,Xz h,Ir L]
  lia
theorem UE(L:List Th):L.length<=Th.szs L:=by rw[Ir];lia
mutual
noncomputable def Th.dp:Th->Nat
 |.mk _ ps=>1+Th.dps ps
noncomputable def Th.dps:List Th->Nat
 | []=>0
 |h::hs=>max h.dp (Th.dps hs)
end
theorem PN:∀a b:List Th,Th.dps (a++b)=max (Th.dps a) (Th.dps b)
 | [],b=>by simp[Th.dps]
 |h::a,b=>by simp[Th.dps,PN a b,Nat.max_assoc]
theorem SJ(h:Th):h.dp=1+Th.dps h.ps:=by cases h;simp[Th.dp,Th.ps]
theorem Mw:∀(h:Th)(L:List Th),Th.dps (h::L)=1+Th.dps ((h::L).flatMap Th.ps)
 |h,[]=>by simp[Th.dps,SJ h]
 |h,g::L=>by
  rw[uB,PN,Th.dps,Mw g L,SJ h]
  lia
theorem LJ{c}(h:c fs=.ok true fs)(e:b fs=.nx ar):Cc c b (n+1) fs=Cc c b n ar:=by rw[Cc,h];show(match b fs with|.nx fs=>Cc c b n fs|.cnt fs=>_|.brk fs=>_|o=>o)=_;rw[e]
theorem Ju{c}(h:c fs=.ok false fs):Cc c b (n+1) fs=.nx fs:=by rw[Cc,h];rfl
theorem Jbx{i}(h0:fs[i]?=some (some (.own (.lst ts))))(h:f fs=.ok (.t (.tup us)) fs)(hl:ts.length+us.length<=big)(e:fs.set i (some (.own (.lst (ts++us))))=ar):AE (BC Ni (Ab i) (Ac f Ah)) fs=.nx ar:=by
 have h2:=Jai h0;have h3:Cs fs (.n i)=some ts:=by simp only[Cs,h2]
 have h4:Ac f Ah fs=.ok [.t (.tup us)] fs:=Ao h rfl;have h5:Nj (.n i) [.t (.tup us)] fs=.ok (.t .v) ar:=by
  simp only[Nj,h2];rw[if_pos hl];have:FL.putAt fs i (.lst (ts++us))=ar:=by unfold FL.putAt;rw[h0];exact e
  rw[this]
 have h6:BC Ni (Ab i) (Ac f Ah) fs=.ok (.t .v) ar:=by
  unfold BC;rw[(Dv h0)];show(if(Cs fs (.n i)).isSome=true then _ else _)=_;rw[h3,if_pos (show(some ts).isSome=true from rfl),h4];exact(by
  show(match Jam (.n i) [.t (.tup us)] fs with|.bad=>Nj (.n i) [.t (.tup us)] fs|o=>o)=_;exact h5)
 unfold AE;rw[h6];rfl
abbrev Jb1:FS->SO:=AE (BC Ni (Ab 3) (Ac (fz (Ab 5)) Ah))
theorem MG:∀(L:List Th)(ay:List T)(x4 x5:Option Sl),Fre x4->Fre x5->ay.length+Th.szs L<=1000 ->
  ∃y4 y5,Fre y4/\Fre y5/\DW (AW 2 (Af (tgN 4) (Af (tgN 5) AN))) Jb1 (L.map Th.t) [x0,x1,x2,some (.own (.lst ay)),x4,x5]=.nx [x0,x1,x2,some (.own (.lst (ay++(L.flatMap Th.ps).map Th.t))),y4,y5]
 | [],ay,x4,x5,f4,f5,_=>⟨x4,x5,f4,f5,by simp[DW]⟩
 |h::L,ay,x4,x5,f4,f5,hl=>by
  obtain⟨m,et⟩:=h.JbL;have hz:=Xz h;have aD:=UE h.ps;simp only[Th.szs]at hl;have b1:Jb1 [x0,x1,x2,some (.own (.lst ay)),vl (.str m),vl (.tup (h.ps.map Th.t))]=.nx [x0,x1,x2,some (.own (.lst (ay++h.ps.map Th.t))),vl (.str m),vl (.tup (h.ps.map Th.t))] :=
   Jbx rfl (Am (Aa rfl)) (by show _<=1000000;rw[sU];lia) rfl
  obtain⟨y4,y5,k4,k5,g⟩:=MG L (ay++h.ps.map Th.t) (vl (.str m)) (vl (.tup (h.ps.map Th.t))) AD AD (by rw[t5,sU];lia);refine⟨y4,y5,k4,k5,?_⟩;rw[sW,DG (by rw[et];exact DB (by unfold tgN;exact Bn rfl f4) (by unfold tgN;exact Bn rfl f5)) b1,g,uB,tL,t9]
abbrev layB:FS->SO:=(Av (AE (BC Fv (Ab 1) (Ac (Ai Bx (Ac (Ab 2) Ah)) Ah)))
  (Av (AL 3 (An Er Ah))
  (Av (Dq (itU (fz (Ab 2))) (AW 2 (Af (tgN 4) (Af (tgN 5) AN))) (AE (BC Ni (Ab 3) (Ac (fz (Ab 5)) Ah))))
  (AL 2 (fz (Ab 3))))))
theorem Mf:∀(k:Nat)(L:List Th)(cs:List Int)(x3 x4 x5:Option Sl),Fre x3->Fre x4->Fre x5->Th.szs L<k->cs.length+Th.szs L<=1000 ->
  ∃(jm:List Int)(y2 y3 y4 y5:Option Sl),jm.sum=cs.sum+(Th.szs L:Int)/\jm.length=cs.length+Th.dps L/\Cc (Hh (Ab 2)) layB k [x0,some (.own (.lst (cs.map T.int))),vl (.lst (L.map Th.t)),x3,x4,x5]=.nx [x0,some (.own (.lst (jm.map T.int))),y2,y3,y4,y5]
 |0,L,cs,x3,x4,x5,_,_,_,h,_=>by lia
 |k+1,[],cs,x3,x4,x5,f3,f4,f5,_,_=>⟨cs,vl (.lst []),x3,x4,x5,by simp[Th.szs],by simp[Th.dps],Ju rfl⟩
 |k+1,h::L,cs,x3,x4,x5,f3,f4,f5,hk,hl=>by
  have hf:=Ir (h::L);have hd:=Mw h L;have bV:(h::L).length=L.length+1:=rfl;generalize hLL:h::L=LL at *;have el:=BO (f:=Ab 2) (fs:=[x0,some (.own (.lst (cs.map T.int))),vl (.lst (LL.map Th.t)),x3,x4,x5]) (Aa rfl) (.inl rfl);rw[sU]at el;have s2:AL 3 (An Er Ah) [x0,some (.own (.lst ((cs++[(LL.length:Int)]).map T.int))),vl (.lst (LL.map Th.t)),x3,x4,x5]=.nx [x0,some (.own (.lst ((cs++[(LL.length:Int)]).map T.int))),vl (.lst (LL.map Th.t)),some (.own (.lst [])),x4,x5] :=
   UM (BS Au rfl (show 0<=big by decide) rfl) (XA rfl f3)
  obtain⟨y4,y5,k4,k5,lp⟩:=MG (x2:=vl (.lst (LL.map Th.t))) LL [] x4 x5 f4 f5 (by simp;lia);have s4:AL 2 (fz (Ab 3)) [x0,some (.own (.lst ((cs++[(LL.length:Int)]).map T.int))),vl (.lst (LL.map Th.t)),some (.own (.lst ((LL.flatMap Th.ps).map Th.t))),y4,y5]=.nx [x0,some (.own (.lst ((cs++[(LL.length:Int)]).map T.int))),vl (.lst ((LL.flatMap Th.ps).map Th.t)),vl (.lst ((LL.flatMap Th.ps).map Th.t)),y4,y5]:=rfl;obtain⟨jm,y2,y3,z4,z5,e1,e0,e2⟩:=Mf (x0:=x0) k (LL.flatMap Th.ps) (cs++[(LL.length:Int)]) (vl (.lst ((LL.flatMap Th.ps).map Th.t))) y4 y5 AD k4 k5 (by lia) (by rw[t5];simp;lia);refine⟨jm,y2,y3,z4,z5,?_,by rw[e0,hd,t5,List.length_singleton];lia,?_⟩
  .rw[e1,List.sum_append,hf];simp
   lia
  .rw[LJ (by
   subst hLL;rfl) (sq (MI rfl el (by show _<1000000;rw[sU];lia) (by rw[tL];rfl)) (sq s2 (sq (by
   have hi:itU (fz (Ab 2)) [x0,some (.own (.lst ((cs++[(LL.length:Int)]).map T.int))),vl (.lst (LL.map Th.t)),some (.own (.lst [])),x4,x5]=.ok (LL.map Th.t) [x0,some (.own (.lst ((cs++[(LL.length:Int)]).map T.int))),vl (.lst (LL.map Th.t)),some (.own (.lst [])),x4,x5]:=rfl;unfold Dq;rw[hi];rw[ue]at lp;exact lp) s4))),e2]
theorem YK(h:Th)(hz:h.sz<=900):∃cs:List Int,cs.sum=(h.sz:Int)/\cs.length=h.dp/\B6 [vl h.t]=.ok (.nw (.lst (cs.map T.int))) [vl h.t]:=by have e1:Th.szs [h]=h.sz:=rfl;obtain⟨cs,y2,y3,y4,y5,hs,hd,lp⟩:=Mf 1000 [h] [] none none none Aq Aq Aq (by lia) (by simp;lia);rw[e1]at hs;refine⟨cs,by simpa using hs,by simpa[Th.dps]using hd,?_⟩;have s1:AL 1 (An Er Ah) [vl h.t,none,none,none,none,none]=.nx [vl h.t,some (.own (.lst [])),none,none,none,none]:=rfl;have s2:AL 2 (An Cw (Ac (fz (Ab 0)) Ah)) [vl h.t,some (.own (.lst [])),none,none,none,none]=.nx [vl h.t,some (.own (.lst [])),vl (.lst [h.t]),none,none,none] :=rfl;exact(QU (sq s1 (sq s2 (sq lp (AO (Dv rfl))))) rfl).trans rfl
theorem Tr{cs:List Int}(h:f fs=.ok (.t (.lst (cs.map T.int))) aj):Ai T3 (Ac f Ah) fs=.ok (.t (.int cs.sum)) aj:=by refine S4 (Jc h Au) ?_;show(match(Cs aj (.t (.lst (cs.map T.int)))).bind BW with|some ns=>okT (.int ns.sum) aj|none=>.bad)=_;rw[show Cs aj (.t (.lst (cs.map T.int)))=some (cs.map T.int)from rfl,ub,Fj];rfl
abbrev RF:List Str:=["program","calls_left","waiting","worths"]
theorem rf_ne:(("calls_left":Str) == "program")=false/\(("waiting":Str) == "program")=false/\(("waiting":Str) == "calls_left")=false/\(("worths":Str) == "program")=false/\(("worths":Str) == "calls_left")=false/\(("worths":Str) == "waiting")=false:=by decide +kernel
variable{x0 x1 x2 x3 y:FO}
theorem Xl:A9 RF [x0,x1,x2,x3] "program"=some x0:=rfl
theorem NP:A9 RF [x0,x1,x2,x3] "calls_left"=some x1:=rfl
theorem Jx:A9 RF [x0,x1,x2,x3] "waiting"=some x2:=rfl
theorem Dr:A9 RF [x0,x1,x2,x3] "worths"=some x3:=rfl
theorem Ts:Bw RF [x0,x1,x2,x3] "waiting" y=[x0,x1,y,x3]:=rfl
theorem Iy:Bw RF [x0,x1,x2,x3] "worths" y=[x0,x1,x2,y]:=rfl
theorem Vj:C7 RF [x0,.val t,x2,x3] "calls_left" y=some (RF,[x0,y,x2,x3]):=rfl
variable{i:Nat}{aj ar:FS}{iI:List Str}{os j9:List FO}{p:Addr}{us:List T}{fe:FS->Out Rv}
section
variable{gs:List Str}{f:Str}{ts:List T}{t:T}{c:Str}
theorem Tz(h0:fs[i]?=some (some (.bor (.ins C gs os))))(hv:A9 gs os f=some (.la p (ts++[t])))(e:fs.set i (some (.bor (.ins C gs (Bw gs os f (.la p ts)))))=ar):fz (Hl C f i) fs=.ok (.t t) ar:=by refine IX ?_;unfold Hl;rw[J2 h0];simp only[hv,if_true,List.getLast?_concat,List.dropLast_concat];rw[show FL.putAt fs i (.ins C gs (Bw gs os f (.la p ts)))=ar by unfold FL.putAt;rw[h0];exact e]
theorem Ql(h0:fs[i]?=some (some (.bor (.ins C gs os))))(hv:A9 gs os f=some (.la p us))(he:fe fs=.ok (.t t) aj)(h1:aj[i]?=some (some (.bor (.ins C iI j9))))(qZ:A9 iI j9 f=some (.la p ts))(hl:ts.length<100000)
  (e:aj.set i (some (.bor (.ins C iI (Bw iI j9 f (.la p (ts++[t]))))))=ar):AE (DI C f i fe) fs=.nx ar:=by
 refine Dy (r:=.t .v) ?_;unfold DI;rw[J2 h0];simp only[hv,if_true,he];show(match Rv.t t,FL.AH aj i with|.t t,some (.ins C2 jt kH)=>_|_,_=>_)=_;rw[J2 h1];simp only[qZ,if_true];rw[if_pos ⟨trivial,(show ts.length<1000000 by lia)⟩];rw[show FL.putAt aj i (.ins C iI (Bw iI j9 f (.la p (ts++[t]))))=ar by unfold FL.putAt;rw[h1];exact e]
theorem W3(h0:fs[i]?=some (some (.bor (.ins C gs os))))(hv:A9 gs os f=some (.la p us))(he:fe fs=.exc c aj):AE (DI C f i fe) fs=.exc c aj:=by refine Kp ?_;unfold DI;rw[J2 h0];simp only[hv,if_true,he];rfl
theorem Tq(h0:fs[i]?=some (some (.bor (.ins C gs os))))(hv:A9 gs os f=some (.la p ts)):MR C f i fs=.ok (!ts.isEmpty) fs:=by unfold MR;rw[J2 h0];simp only[hv,if_true]
theorem Zl(h0:fs[i]?=some (some (.bor (.ins C gs os))))(hv:A9 gs os f=some (.val t)):CJ C f (Ab i) fs=.ok (.t t) fs:=by unfold CJ;rw[FU h0];show Sg C f (.n i) fs=_;simp only[Sg,J2 h0,if_true,hv];rfl
theorem tg{j}(e:fs[j]?=some x)(h:Fre x):tgN j t fs=some (fs.set j (vl t)):=by unfold tgN;exact Bn e h
end
noncomputable def wt(h:Th):T:=.tup [h.t,.int (h.sz:Int),.int (h.dp:Int)]
theorem EY(h:Th)(hz:h.sz<=900):BQ [vl h.t]=.ok (.t (wt h)) [vl h.t]:=by obtain⟨cs,hs,hd,e⟩:=YK h hz;have l:=BO (f:=Ab 1) (fs:=[vl h.t,vl (.lst (cs.map T.int))]) (ts:=cs.map T.int) (Aa rfl) (.inl rfl);rw[sU,hd]at l;have s:=Tr (f:=Ab 1) (fs:=[vl h.t,vl (.lst (cs.map T.int))]) (cs:=cs) (Aa rfl);rw[hs]at s;exact(BB (n:=1) (g:=KO) (args:=[vl h.t]) (sq (AI (Fc (FY (Ae (Am (Aa rfl)) Au) rfl (by rw[show C8 _ _=[]from rfl];exact tJ) e (AS rfl))) rfl) (AO (BS (g:=Ar) (ts:=[h.t,.int h.sz,.int h.dp]) (Ao (Am (Aa rfl)) (Ao s (Ao l Au))) rfl (show 3<=big by decide) rfl)))).trans rfl
theorem Oj{j}:∀(ts:List T)(k:Nat),FL.placeOf fs j (ts.map Ini.val) k=none
 | [],_=>rfl
 |t::ts,k=>by simp only[sW,FL.placeOf,BN];exact Oj ts (k+1)
theorem Qf:∀(gs:FS)(j:Nat),(∀k,j<=k->FL.placeOf fs k is 0=none)->Jk fs is τ j gs=some gs
 | [],_,_=>rfl
 |s::gs,j,h=>by simp only[Jk,LG,h j (tD _),Qf gs (j+1) λk hk=>h k (by lia)]
variable{o1 o2:FO}{rest:FS}
section
variable{ts:List T}
theorem Qg:D2 (.slot 0::ts.map Ini.val) (some (.bor o2)::τ) (some (.bor o1)::rest)=some (some (.bor o2)::rest):=by
 have hl:BN (some (.bor o1)::rest) (.slot 0)=some 0:=rfl;have h0:FL.placeOf (some (.bor o1)::rest) 0 (.slot 0::ts.map Ini.val) 0=some 0:=rfl;unfold D2;rw[Jk,Qf rest 1 (λk hk=>by
  have:¬(0:Nat)=k:=by lia
  simp[FL.placeOf,hl,this,Oj])]
 simp only[LG,h0];rfl
theorem O8{fs:FS}:∀ts:List T,B0 fs (ts.map Ini.val)=ts.map vl
 | []=>rfl
 |t::ts=>by have:=O8 (fs:=fs) ts;unfold B0 at this ⊢;simp only[sW,V2,this]
theorem J3{fs:FS}:∀ts:List T,C8 fs (ts.map Ini.val)=[]
 | []=>rfl
 |t::ts=>by have:=J3 (fs:=fs) ts;unfold C8 at this ⊢;simp only[sW,uz,BN,this]
theorem RM(ts:List T):(ts.map Rv.t).map Bj=ts.map Ini.val:=by rw[ua];rfl
end
variable{m:Str}{p:Nat}{aQ:FS}
section
variable{gs:List Str}{ts:List T}{t:T}{c:Str}
theorem VO(hi:gs.any (·==m)=false)(ha:fa (some (.bor (.ins C gs os))::rest)=.ok (ts.map Rv.t) (some (.bor o1)::aQ))(hp:ts.length+1=p)
  (he:(match x with|.ok (.t t) τ=>(match D2 (.slot 0::ts.map Ini.val) τ (some (.bor o1)::aQ)with|some ar=>.ok (.t t) ar|none=>.bad)|.ok (.nw o) τ=>(match D2 (.slot 0::ts.map Ini.val) τ (some (.bor o1)::aQ)with|some ar=>.ok (.nw o) ar|none=>.bad)|.exc c τ=>(match D2 (.slot 0::ts.map Ini.val) τ (some (.bor o1)::aQ)with|some ar=>.exc c ar|none=>.bad)|_=>.bad)=r) (hf:Fn (some (.bor o1)::ts.map vl)=x):BH C m p Fn (Ab 0) fa (some (.bor (.ins C gs os))::rest)=r:=by
 unfold BH;rw[FU rfl];show(if DT C m (some (.bor (.ins C gs os))::rest) (.n 0)=true then _ else _)=_;rw[if_pos (by simp[DT,J2 (i:=0) (fs:=some (.bor (.ins C gs os))::rest) rfl,hi]),ha];show Ak p Fn (.n 0::ts.map Rv.t) (some (.bor o1)::aQ)=_;unfold Ak;rw[if_pos (by simpa using hp)];unfold El;have ei:(Rv.n 0::ts.map Rv.t).map Bj=.slot 0::ts.map Ini.val:=by rw[sW,RM];rfl
 have en:C8 (some (.bor o1)::aQ) (.slot 0::ts.map Ini.val)=[0]:=by have:=J3 (fs:=some (.bor o1)::aQ) ts;unfold C8 at this ⊢;rw[uz,this];rfl
 have es:B0 (some (.bor o1)::aQ) (.slot 0::ts.map Ini.val)=some (.bor o1)::ts.map vl:=by have:=O8 (fs:=some (.bor o1)::aQ) ts;unfold B0 at this ⊢;rw[sW,this];rfl
 rw[ei,en,if_pos (by simp),es,hf];exact he
theorem OL(hi:gs.any (·==m)=false)(ha:fa (some (.bor (.ins C gs os))::rest)=.ok (ts.map Rv.t) (some (.bor o1)::aQ))(hp:ts.length+1=p)
  (hf:Fn (some (.bor o1)::ts.map vl)=.ok (.t t) (some (.bor o2)::τ)):BH C m p Fn (Ab 0) fa (some (.bor (.ins C gs os))::rest)=.ok (.t t) (some (.bor o2)::aQ) :=
 VO hi ha hp (by simp only[Qg]) hf
theorem Rw(hi:gs.any (·==m)=false)(ha:fa (some (.bor (.ins C gs os))::rest)=.ok (ts.map Rv.t) (some (.bor o1)::aQ))(hp:ts.length+1=p)
  (hf:Fn (some (.bor o1)::ts.map vl)=.ok (.nw o) (some (.bor o2)::τ)):BH C m p Fn (Ab 0) fa (some (.bor (.ins C gs os))::rest)=.ok (.nw o) (some (.bor o2)::aQ) :=
 VO hi ha hp (by simp only[Qg]) hf
theorem OM(hi:gs.any (·==m)=false)(ha:fa (some (.bor (.ins C gs os))::rest)=.ok (ts.map Rv.t) (some (.bor o1)::aQ))(hp:ts.length+1=p)
  (hf:Fn (some (.bor o1)::ts.map vl)=.exc c (some (.bor o2)::τ)):BH C m p Fn (Ab 0) fa (some (.bor (.ins C gs os))::rest)=.exc c (some (.bor o2)::aQ) :=
 VO hi ha hp (by simp only[Qg]) hf
end
noncomputable def XO(cR:Addr)(P:T)(a b:Addr)(n:Int)(w W:List T):FO:=.ins cR RF [.val P,.val (.int n),.la a w,.la b W]
noncomputable def wi(e ρ:T)(d:Int)(r:Bool):T:=.tup [e,ρ,.int d,.o r]
variable{cP cR a b:Addr}{P:T}{w:List T}
section
variable{n:Int}{W:List T}
abbrev bO(cR:Addr)(P:T)(a b:Addr)(n:Int)(w W:List T):Option Sl:=some (.bor (XO cR P a b n w W))
theorem HC{x1}:∀(us:List T)(k:Int)(ay:List T)(x3:Option Sl),Fre x3->ay.length+us.length<=1000->∃y3,DW (tgN 3) (AE (BC Fv (Ab 2) (Ac (fz (Hl cR "worths" 0)) Ah))) ((List.range us.length).map λi=>T.int (k+(i:Nat))) [bO cR P a b n w (W++us.reverse),x1,some (.own (.lst ay)),x3]=.nx [bO cR P a b n w W,x1,some (.own (.lst (ay++us))),y3]
 | [],k,ay,x3,_,_=>⟨x3,by simp[DW]⟩
 |u::us,k,ay,x3,f3,hl=>by
  rw[tM]at hl;obtain⟨y3,e⟩:=HC us (k+1) (ay++[u]) (vl (.int k)) AD (by rw[t5];simp;lia);refine⟨y3,?_⟩;have b1:AE (BC Fv (Ab 2) (Ac (fz (Hl cR "worths" 0)) Ah)) [bO cR P a b n w (W++(u::us).reverse),x1,some (.own (.lst ay)),vl (.int k)]=.nx [bO cR P a b n w (W++us.reverse),x1,some (.own (.lst (ay++[u]))),vl (.int k)] :=
   Z6 rfl (Tz rfl (by rw[Dr,uS,t9]) (by rw[Iy])) rfl (by show _<1000000;lia) rfl
  have hr:((List.range (u::us).length).map λi=>T.int (k+(i:Nat)))=.int k::(List.range us.length).map λi=>T.int (k+1+(i:Nat)):=by
   rw[tM,List.range_succ_eq_map,sW,ua];refine congr (congrArg _ (by simp)) (List.map_congr_left λi _=>?_);show T.int _=T.int _;congr 1
   push_cast
   lia
  rw[hr,DG (tg rfl f3) b1,e,t9];rfl
theorem taken(vs:List T)(hl:vs.length<=1000):B3 cR [bO cR P a b n w (W++vs),iv (vs.length:Int)]=.ok (.nw (.lst vs)) [bO cR P a b n w W,iv (vs.length:Int)]:=by
 obtain⟨y3,lp⟩:=HC (W:=W) vs.reverse 0 [] none Aq (by simpa using hl);rw[List.reverse_reverse,uU,ue]at lp;have s3:retS (Jaf (Ab 2)) [bO cR P a b n w W,iv (vs.length:Int),some (.own (.lst vs.reverse)),y3]=.ret (.nw (.lst vs)) [bO cR P a b n w W,iv (vs.length:Int),some (.own (.lst vs.reverse)),y3]:=by refine AO ?_;unfold Jaf;rw[Dv rfl];simp only[Out.bnd,Out.bind,XH (i:=2) (fs:=[bO cR P a b n w W,iv (vs.length:Int),some (.own (.lst vs.reverse)),y3]) (ts:=vs.reverse) rfl,List.reverse_reverse]
 have up:FL.upTo 0 vs.length=(List.range vs.length).map λi=>T.int ((0:Int)+(i:Nat)):=rfl
 refine(K4 (n:=2) (g:=Hc cR) (args:=[bO cR P a b n w (W++vs),iv (vs.length:Int)]) (sq rfl (sq (IY (n:=vs.length) (Ao (Aa rfl) Au) (by lia) (by rw[up];exact lp)) s3))).trans rfl
end
theorem JbC{hs:List Th}(h:fs[i]?=some (vl (.lst (hs.map wt))))(he:∀h∈hs,fe [vl (wt h)]=.ok (.t (q h)) [vl (wt h)])(hl:hs.length<=1000):Cj false [none] (itU (fz (Ab i))) (tgN 0) EX fe fs=.ok (.t (.lst (hs.map q))) fs:=by obtain⟨y,_,e⟩:=EO hs none [] Aq he (by show _<=1000000;simp;lia);have e3:=DY (src:=[none]) (fi:=itU (fz (Ab i))) (fs:=fs) (ts:=hs.map wt) (GA (Am (Aa h))) ⟨tJ,rfl⟩ e (AS rfl);rw[ue]at e3;exact e3
theorem NY:∀hs:List Th,(hs.map λh=>(h.sz:Int)).sum=(Th.szs hs:Int)
 | []=>rfl
 |h::hs=>by
  rw[sW,List.sum_cons,NY hs,Th.szs]
  lia
theorem fold_max:∀(hs:List Th)(k:Nat),(hs.map λh=>(h.dp:Int)).foldl mxF (k:Int)=((max k (Th.dps hs):Nat):Int)
 | [],k=>by simp[Th.dps]
 |h::hs,k=>by
  rw[sW,List.foldl_cons];have e:mxF (k:Int) (h.dp:Int)=((max k h.dp:Nat):Int):=by unfold mxF;split<;>lia
  rw[e,fold_max hs,Th.dps]
  lia
theorem WI(hs:List Th):mxD 0 (hs.map λh=>(h.dp:Int))=(Th.dps hs:Int):=by cases hs with|nil=>rfl|cons h hs =>show(hs.map λh=>(h.dp:Int)).foldl mxF (h.dp:Int)=_;rw[fold_max,Th.dps]
theorem ix(h:f fs=.ok (.t (.tup ts)) fs)(e:ts[i]?=some t):Ag AB f (gc (.int (i:Int))) fs=.ok (.t t) fs:=by refine Aj h Ay ?_;simp only[AB,orG,gIx,exL,K3,Cs,(DA e)];rfl
noncomputable def fits(h:Th):Bool:=decide (h.sz<=300/\h.dp<=40)
abbrev mdL(m:Str)(hs:List Th):FS:=[vl (.str m),vl (.lst (hs.map wt))]
theorem Uv(i:Nat)(t:T)(e:[h.t,.int (h.sz:Int),.int (h.dp:Int)][i]?=some t):Ag AB (Ab 0) (gc (.int (i:Int))) [vl (wt h)]=.ok (.t t) [vl (wt h)]:=ix (Aa rfl) e
theorem made(m:Str)(hs:List Th)(hl:hs.length<=1000):Kl (mdL m hs)=if fits (.mk m hs)=true then .ok (.t (wt (.mk m hs))) (mdL m hs)else .exc "TooLong" (mdL m hs):=by
 have es:(Th.mk m hs).sz=1+Th.szs hs:=rfl;have ed:(Th.mk m hs).dp=1+Th.dps hs:=rfl;have s2:∀x3,AL 2 (Ag Aw (gc (.int 1)) (Ai T3 (Ac (Cj false [none] (itU (fz (Ab 1))) (tgN 0) EX (Ag AB (Ab 0) (gc (.int 1)))) Ah))) [vl (.str m),vl (.lst (hs.map wt)),none,x3]=.nx [vl (.str m),vl (.lst (hs.map wt)),iv ((Th.mk m hs).sz:Int),x3]:=λx3=>by have c:=JbC (i:=1) (fs:=[vl (.str m),vl (.lst (hs.map wt)),none,x3]) rfl (λh _=>Uv 1 _ rfl) hl;have c':Ai T3 (Ac (Cj false [none] (itU (fz (Ab 1))) (tgN 0) EX (Ag AB (Ab 0) (gc (.int 1)))) Ah) [vl (.str m),vl (.lst (hs.map wt)),none,x3]=.ok (.t (.int (hs.map λh=>(h.sz:Int)).sum)) [vl (.str m),vl (.lst (hs.map wt)),none,x3]:=Tr (by rw[ua];exact c);rw[NY]at c';exact AI (Aj Ay c' (by rw[Br,es];push_cast;rfl)) rfl
 have s3:AL 3 (Ag Aw (gc (.int 1)) (maxD 0 (Ac (Cj false [none] (itU (fz (Ab 1))) (tgN 0) EX (Ag AB (Ab 0) (gc (.int 2)))) Ah))) [vl (.str m),vl (.lst (hs.map wt)),iv ((Th.mk m hs).sz:Int),none]=.nx [vl (.str m),vl (.lst (hs.map wt)),iv ((Th.mk m hs).sz:Int),iv ((Th.mk m hs).dp:Int)]:=by
  have c:=JbC (i:=1) (fs:=[vl (.str m),vl (.lst (hs.map wt)),iv ((Th.mk m hs).sz:Int),none]) (hs:=hs) (fe:=Ag AB (Ab 0) (gc (.int ((2:Nat):Int)))) (q:=λh=>.int (h.dp:Int)) rfl (λh _=>Uv 2 _ rfl) hl;exact AI (t:=.int ((Th.mk m hs).dp:Int)) (Aj Ay (by
   unfold maxD;have c2:Ac (Cj false [none] (itU (fz (Ab 1))) (tgN 0) EX (Ag AB (Ab 0) (gc (.int 2)))) Ah [vl (.str m),vl (.lst (hs.map wt)),iv ((Th.mk m hs).sz:Int),none]=.ok [.t (.lst (hs.map λh=>T.int (h.dp:Int)))] [vl (.str m),vl (.lst (hs.map wt)),iv ((Th.mk m hs).sz:Int),none]:=Ao c Au;rw[c2];have ei:BW (hs.map λh=>T.int (h.dp:Int))=some (hs.map λh=>(h.dp:Int)):=by have:=Fj (hs.map λh=>(h.dp:Int));rwa[ua]at this
   simp only[Out.bind,Cs,ub,ei,WI];rfl) (by rw[Br,ed];push_cast;rfl)) rfl
 have tt:orT (asB (Ag gGt (Ab 2) (gc (.int 300)))) (asB (Ag gGt (Ab 3) (gc (.int 40)))) [vl (.str m),vl (.lst (hs.map wt)),iv ((Th.mk m hs).sz:Int),iv ((Th.mk m hs).dp:Int)]=.ok (!fits (.mk m hs)) [vl (.str m),vl (.lst (hs.map wt)),iv ((Th.mk m hs).sz:Int),iv ((Th.mk m hs).dp:Int)]:=by
  unfold orT;rw[(RU (fa:=Ab 2) (fb:=gc (.int 300)) (fs:=[vl (.str m),vl (.lst (hs.map wt)),iv ((Th.mk m hs).sz:Int),iv ((Th.mk m hs).dp:Int)]) (a:=((Th.mk m hs).sz:Int)) (b:=300) (Aa rfl) Ay)];unfold fits;by_cases h1:(300:Int)<((Th.mk m hs).sz:Int)
  .have h2:¬((Th.mk m hs).sz<=300/\(Th.mk m hs).dp<=40):=by lia
   simp[Out.bind,h1,h2]
  .have h3:(Th.mk m hs).sz<=300:=by lia
   simp only[Out.bind,h1,decide_false,h3,true_and];rw[(RU (fa:=Ab 3) (fb:=gc (.int 40)) (fs:=[vl (.str m),vl (.lst (hs.map wt)),iv ((Th.mk m hs).sz:Int),iv ((Th.mk m hs).dp:Int)]) (a:=((Th.mk m hs).dp:Int)) (b:=40) (Aa rfl) Ay)];by_cases h4:(Th.mk m hs).dp<=40
   .have h5:¬(40:Int)<((Th.mk m hs).dp:Int):=by lia
    simp[h4,h5]
   .have h5:(40:Int)<((Th.mk m hs).dp:Int):=by lia
    simp[h4,h5]
 cases hf:fits (.mk m hs)with|false =>rw[hf]at tt;rw[if_neg (by simp)];exact(EE (n:=2) (g:=Qh) (args:=mdL m hs) (sq (s2 none) (sq s3 (FJ (DU tt rfl))))).trans rfl|true =>rw[hf]at tt;rw[if_pos rfl];have tp:Ai BP (Ac (Cj false [none] (itU (fz (Ab 1))) (tgN 0) EX (Ag AB (Ab 0) (gc (.int 0)))) Ah) [vl (.str m),vl (.lst (hs.map wt)),iv ((Th.mk m hs).sz:Int),iv ((Th.mk m hs).dp:Int)]=.ok (.t (.tup (hs.map Th.t))) [vl (.str m),vl (.lst (hs.map wt)),iv ((Th.mk m hs).sz:Int),iv ((Th.mk m hs).dp:Int)]:=BU (Ao (JbC (i:=1) (fs:=[vl (.str m),vl (.lst (hs.map wt)),iv ((Th.mk m hs).sz:Int),iv ((Th.mk m hs).dp:Int)]) (hs:=hs) (fe:=Ag AB (Ab 0) (gc (.int ((0:Nat):Int)))) (q:=λh=>h.t) rfl (λh _=>Uv 0 _ rfl) hl) Au) rfl;exact(BB (n:=2) (g:=Qh) (args:=mdL m hs) (sq (s2 none) (sq s3 (sq (AU tt rfl) (AO (BS (g:=Ar) (ts:=[(Th.mk m hs).t,.int ((Th.mk m hs).sz:Int),.int ((Th.mk m hs).dp:Int)]) (Ao (BS (g:=Ar) (ts:=[.str m,.tup (hs.map Th.t)]) (r:=.ok (.t (Th.mk m hs).t) [vl (.str m),vl (.lst (hs.map wt)),iv ((Th.mk m hs).sz:Int),iv ((Th.mk m hs).dp:Int)]) (Ao (f:=fz (Ab 0)) (Am (Aa rfl)) (Ao tp Au)) rfl (show 2<=big by decide) (by simp only[Th.t,Th.Cr];rfl)) (Ao (Am (Aa rfl)) (Ao (Am (Aa rfl)) Au))) rfl (show 3<=big by decide) rfl)))))).trans rfl
section
variable{n:Int}{W:List T}
theorem Td(he:e (bO cR P a b n w W::rest)=.ok (.t t) (bO cR P a b n w W::rest))(hl:w.length<100000):AE (DI cR "waiting" 0 e) (bO cR P a b n w W::rest)=.nx (bO cR P a b n (w++[t]) W::rest) :=
 Ql rfl Jx he rfl Jx hl (by rw[Ts];rfl)
theorem SM(h1:f1 fs=.ok (.t e) fs)(h2:f2 fs=.ok (.t ρ) fs)(h3:f3 fs=.ok (.t (.int d)) fs):An Ar (Ac f1 (Ac f2 (Ac f3 (Ac (gc (.o r)) Ah)))) fs=.ok (.t (wi e ρ d r)) fs :=
 BS (Ao h1 (Ao h2 (Ao h3 (Ao Ay Au)))) rfl (show 4<=big by decide) rfl
theorem KR:∀(ts:List T)(w:List T)(x4:Option Sl),Fre x4->w.length+ts.length<=90000->∃y4,DW (tgN 4) (AE (DI cR "waiting" 0 (An Ar (Ac (fz (Ab 4)) (Ac (fz (Ab 2)) (Ac (fz (Ab 3)) (Ac (gc (.o false)) Ah))))))) ts [bO cR P a b n w W,vl e,vl ρ,iv d,x4]=.nx [bO cR P a b n (w++ts.map λt=>wi t ρ d false) W,vl e,vl ρ,iv d,y4]
 | [],w,x4,_,_=>⟨x4,by simp[DW]⟩
 |t::ts,w,x4,f4,hl=>by rw[tM]at hl;obtain⟨y4,e1⟩:=KR (ρ:=ρ) ts (w++[wi t ρ d false]) (vl t) AD (by rw[t5];simp;lia);refine⟨y4,?_⟩;rw[DG (tg rfl f4) (Td (SM (Am (Aa rfl)) (Am (Aa rfl)) (Am (Aa rfl))) (by lia))];show DW _ _ ts [bO cR P a b n (w++[wi t ρ d false]) W,vl e,vl ρ,iv d,vl t]=_;rw[e1,t9];rfl
theorem AF(hl:w.length+as.length<=80000):
  A1 cR [bO cR P a b n w W,vl (.tup [f,h,.tup as]),vl ρ,iv d]=.ok (.t .v) [bO cR P a b n (w++[wi (.tup [f,h,.tup as]) ρ d true]++as.reverse.map λt=>wi t ρ d false) W,vl (.tup [f,h,.tup as]),vl ρ,iv d]:=by
 obtain⟨y4,lp⟩:=KR (ρ:=ρ) as.reverse (w++[wi (.tup [f,h,.tup as]) ρ d true]) none Aq (by rw[t5,uU];simp;lia);have hi:Ja9 (Ag AB (Ab 1) (gc (.int 2))) [bO cR P a b n (w++[wi (.tup [f,h,.tup as]) ρ d true]) W,vl (.tup [f,h,.tup as]),vl ρ,iv d,none]=.ok as.reverse [bO cR P a b n (w++[wi (.tup [f,h,.tup as]) ρ d true]) W,vl (.tup [f,h,.tup as]),vl ρ,iv d,none]:=rfl;have all:Bv cR [bO cR P a b n w W,vl (.tup [f,h,.tup as]),vl ρ,iv d,none]=.nx [bO cR P a b n (w++[wi (.tup [f,h,.tup as]) ρ d true]++as.reverse.map λt=>wi t ρ d false) W,vl (.tup [f,h,.tup as]),vl ρ,iv d,y4]:=by refine sq (Td (SM (Am (Aa rfl)) (Am (Aa rfl)) (Am (Aa rfl))) (by lia)) ?_;unfold Dq;rw[hi];exact lp
 show Bo 1 (Bv cR) [bO cR P a b n w W,vl (.tup [f,h,.tup as]),vl ρ,iv d]=_;unfold Bo;rw[show [bO cR P a b n w W,vl (.tup [f,h,.tup as]),vl ρ,iv d]++List.replicate 1 none=[bO cR P a b n w W,vl (.tup [f,h,.tup as]),vl ρ,iv d,none]from rfl,all];rfl
end
theorem Ru(ho:fo fs=.ok (.t x) aj)(hi:DT C m aj (.t x)=true)(ha:fa aj=.ok (ts.map Rv.t) aB)(hp:ts.length+1=p)(hf:Fn ((x::ts).map vl)=.ok (.t t) τ):BH C m p Fn fo fa fs=.ok (.t t) aB:=by unfold BH;rw[ho];show(if DT C m aj (.t x)=true then _ else _)=_;rw[if_pos hi,ha];show Ak p Fn ((x::ts).map Rv.t) aB=_;have e1:=RM (x::ts);exact ME (by simpa using hp) (by rw[e1];exact J3 _) (by rw[e1,O8];exact hf)
theorem keys_map:∀xs:List Str,Hj (xs.map T.str)=some (xs.map λx=>(.inr x:Key))
 | []=>rfl
 |x::xs=>by simp only[sW,Hj,HD,keys_map xs];rfl
noncomputable def Ez(xs:List Str)(hs:List Th):T:=.l (xs.map λx=>(.inr x:Key)) (hs.map wt)
variable{ps rest:List Th}{body:T}
section
variable{n:Int}{W:List T}{f:Str}{d:Int}{xs:List Str}
abbrev abS(cR:Addr)(P:T)(a b:Addr)(n:Int)(w W:List T)(f:Str)(hs:List Th)(d:Int):FS:=[bO cR P a b n w W,vl (.str f),vl (.lst (hs.map wt)),iv d]
theorem Lo:asB (Ag gLe (CJ cR "calls_left" (Ab 0)) (gc (.int 0))) (bO cR P a b n w W::x)=.ok (decide (n<=0)) (bO cR P a b n w W::x) :=
 Bs (Aj (Zl rfl NP) Ay rfl)
theorem S5(h:n<=0)(hs:List Th):AV cP cR (abS cR P a b n w W f hs d)=.exc "TooLong" (abS cR P a b n w W f hs d):=by have c:=Lo (cR:=cR) (P:=P) (a:=a) (b:=b) (n:=n) (w:=w) (W:=W) (x:=[vl (.str f),vl (.lst (hs.map wt)),iv d,none,none,none,none,none]);rw[tQ h]at c;exact(EE (n:=5) (g:=Bp cP cR) (args:=abS cR P a b n w W f hs d) (FJ (DU c rfl))).trans rfl
theorem Qd(h:0<n)(hd:20<d)(hs:List Th):AV cP cR (abS cR P a b n w W f hs d)=.exc "TooLong" (abS cR P a b n w W f hs d):=by have c:=Lo (cR:=cR) (P:=P) (a:=a) (b:=b) (n:=n) (w:=w) (W:=W) (x:=[vl (.str f),vl (.lst (hs.map wt)),iv d,none,none,none,none,none]);rw[tS (by lia)]at c;exact(EE (n:=5) (g:=Bp cP cR) (args:=abS cR P a b n w W f hs d) (sq (AU c rfl) (FJ (DU (by have:=RU (fa:=Ab 3) (fb:=gc (.int 20)) (fs:=abS cR P a b n w W f hs d++[none,none,none,none,none]) (a:=d) (b:=20) (Aa rfl) Ay;rwa[tQ hd]at this) rfl)))).trans rfl
theorem UG:N0 cR "calls_left" 0 1 (bO cR P a b n w W::x)=.nx (bO cR P a b (n-1) w W::x):=by unfold N0;rw[J2 rfl];simp only[XO,NP,Vj];rfl
theorem Bq(hn:0<n)(hd:d<=20)(hP:∀fs,DT cP "row" fs (.t P)=true)(iV:Bl cP [vl P,vl (.str f),vl (.str m)]=.ok (.t (.tup [.tup (xs.map T.str),body])) [vl P,vl (.str f),vl (.str m)])
  (hx:xs.Nodup) (lV:xs.length=ps.length+rest.length) (hz:∀h∈ps,h.sz<=900) (hl:ps.length+rest.length<=100) (hw:w.length<=80000) :
  AV cP cR (abS cR P a b n w W f (.mk m ps::rest) d)=.ok (.t .v) (abS cR P a b (n-1) (w++[wi body (Ez xs (ps++rest)) (d+1) false]) W f (.mk m ps::rest) d):=by
 generalize hA:((Th.mk m ps::rest).map wt)=A;have c:=Lo (cR:=cR) (P:=P) (a:=a) (b:=b) (n:=n) (w:=w) (W:=W) (x:=[vl (.str f),vl (.lst A),iv d,none,none,none,none,none]);rw[tS (by lia)]at c;have s6:AL 8 (fz (Ag Aw (Cj false [none] (itU (fz (Ab 5))) (tgN 0) EX (fz (Ai (Ak 1 BQ) (Ad (fz (Ab 0)) Ah)))) (slF (Ab 2) (C5 (gc (.int 1))) noP))) [bO cR P a b (n-1) w W,vl (.str f),vl (.lst A),iv d,vl (.str m),vl (.tup (ps.map Th.t)),vl (.tup (xs.map T.str)),vl body,none]=.nx [bO cR P a b (n-1) w W,vl (.str f),vl (.lst A),iv d,vl (.str m),vl (.tup (ps.map Th.t)),vl (.tup (xs.map T.str)),vl body,vl (.lst ((ps++rest).map wt))]:=by
  generalize hF:[bO cR P a b (n-1) w W,vl (.str f),vl (.lst A),iv d,vl (.str m),vl (.tup (ps.map Th.t)),vl (.tup (xs.map T.str)),vl body,none]=F;obtain⟨y,_,e⟩:=EO (fe:=fz (Ai (Ak 1 BQ) (Ad (fz (Ab 0)) Ah))) (p:=Th.t) (q:=wt) (rest:=[]) ps none [] Aq (λh mh=>Am (BX (rs:=[.t h.t]) (Ae (Am (Aa rfl)) Au) rfl rfl (EY h (hz h mh)))) (by show _<=1000000;simp;lia);have e1:=DY (src:=[none]) (fi:=itU (fz (Ab 5))) (fs:=F) (ts:=ps.map Th.t) (O3 (Am (Aa (by subst hF;rfl)))) ⟨tJ,rfl⟩ e (AS rfl);rw[ue]at e1;have e2:=LQ (f:=Ab 2) (g:=gc (.int 1)) (fs:=F) (ts:=A) (v:=1) (Aa (by subst hF;rfl)) Ay (by decide) (by rw[<- hA];simp);have e3:A.drop (1:Int).toNat=rest.map wt:=by rw[<- hA];rfl
  rw[e3]at e2;refine AI (t:=.lst ((ps++rest).map wt)) ?_ (by subst hF;rfl);rw[tL];exact GW e1 e2 (by show _<=1000000;rw[sU,sU];lia)
 have s7:AE (DI cR "waiting" 0 (An Ar (Ac (fz (Ab 7)) (Ac (fz (Ny (Ac (Ab 6) (Ac (Ab 8) Ah)))) (Ac (Ag Aw (Ab 3) (gc (.int 1))) (Ac (gc (.o false)) Ah)))))) [bO cR P a b (n-1) w W,vl (.str f),vl (.lst A),iv d,vl (.str m),vl (.tup (ps.map Th.t)),vl (.tup (xs.map T.str)),vl body,vl (.lst ((ps++rest).map wt))]=.nx [bO cR P a b (n-1) (w++[wi body (Ez xs (ps++rest)) (d+1) false]) W,vl (.str f),vl (.lst A),iv d,vl (.str m),vl (.tup (ps.map Th.t)),vl (.tup (xs.map T.str)),vl body,vl (.lst ((ps++rest).map wt))]:=by refine Td (SM (Am (Aa rfl)) ?_ (Aj (Aa rfl) Ay Br)) (by lia);refine Fc (o:=.l (xs.map λx=>(.inr x:Key)) ((ps++rest).map wt)) ?_;unfold Ny;rw[Ao (f:=Ab 6) (t:=.tup (xs.map T.str)) (Aa rfl) (Ao (f:=Ab 8) (t:=.lst ((ps++rest).map wt)) (Aa rfl) Au)];simp only[Out.bind,QQ,keys_map];rw[if_pos ⟨Dh hx,by rw[sU,sU,t5];exact lV⟩]
 have all:Bp cP cR [bO cR P a b n w W,vl (.str f),vl (.lst A),iv d,none,none,none,none,none]=_:=sq (AU c rfl) (sq (AU (JbY (a:=d) (b:=20) (Aa rfl) Ay (by lia)) rfl) (sq UG (sq (by
  have e0:Ag AB (Ab 2) (gc (.int 0)) [bO cR P a b (n-1) w W,vl (.str f),vl (.lst A),iv d,none,none,none,none,none]=.ok (.t (wt (.mk m ps))) [bO cR P a b (n-1) w W,vl (.str f),vl (.lst A),iv d,none,none,none,none,none] :=
   Aj (Aa rfl) Ay (Eb (ts:=A) rfl (by rw[<- hA];exact DA (j:=0) rfl))
  have e1:Ag AB (Ag AB (Ab 2) (gc (.int 0))) (gc (.int 0)) [bO cR P a b (n-1) w W,vl (.str f),vl (.lst A),iv d,none,none,none,none,none]=.ok (.t (.tup [.str m,.tup (ps.map Th.t)])) [bO cR P a b (n-1) w W,vl (.str f),vl (.lst A),iv d,none,none,none,none,none] :=
   ix (i:=0) (ts:=[(Th.mk m ps).t,.int ((Th.mk m ps).sz:Int),.int ((Th.mk m ps).dp:Int)]) e0 (by simp only[Th.t,Th.Cr];rfl)
  exact Z4 e1 rfl rfl) (sq (Z4 (IX (Ru (x:=P) (ts:=[.str f,.str m]) (Zl (C:=cR) (gs:=RF) (os:=[.val P,.val (.int (n-1)),.la a w,.la b W]) rfl Xl) (hP _) (Ae (Am (Aa rfl)) (Ae (Am (Aa rfl)) Au)) rfl iV)) rfl rfl) (sq s6 s7)))))
 show Bo 5 (Bp cP cR) (abS cR P a b n w W f (.mk m ps::rest) d)=_;unfold Bo;rw[show abS cR P a b n w W f (.mk m ps::rest) d++List.replicate 5 none=[bO cR P a b n w W,vl (.str f),vl (.lst A),iv d,none,none,none,none,none] by rw[<- hA];rfl,all];simp only[<- hA];rfl
end
inductive Ex where
 |nm (x:Str)|mk (m:Str) (as:List Ex)|cl (f:Str) (as:List Ex)
mutual
noncomputable def Ex.t:Ex->T
 |.nm x=>.tup [.str "name",.str x]
 |.mk m as=>.tup [.str "make",.str m,.tup (Ex.ts as)]
 |.cl f as=>.tup [.str "call",.str f,.tup (Ex.ts as)]
noncomputable def Ex.ts:List Ex->List T
 | []=>[]
 |e::es=>e.t::Ex.ts es
end
theorem Ex.Cr:∀es:List Ex,Ex.ts es=es.map Ex.t
 | []=>by simp[Ex.ts]
 |e::es=>by simp[Ex.ts,Ex.Cr es]
abbrev wC(cR:Addr):FS->Out Bool:=MR cR "waiting" 0
abbrev tkF(cR:Addr):FS->Out Rv:=fz (BH cR "taken" 2 (B3 cR) (Ab 0) (Ad (Ai Bx (Ac (Ag AB (Ab 3) (gc (.int 2))) Ah)) Ah))
abbrev wB(cP cR:Addr):FS->SO:=(Av (Hi (fz (Hl cR "waiting" 0)) (AW 4 (Af (tgN 3) (Af (tgN 4) (Af (tgN 5) (Af (tgN 6) AN))))))
  (ifS (asB (Ag (gEq false) (Ag AB (Ab 3) (gc (.int 0))) (gc (.str ("name":Str))))) (AE (DI cR "worths" 0 (Ag AB (Ab 4) (Ag AB (Ab 3) (gc (.int 1)))))) (ifS (Fq (Hh (Ab 6))) (AE (BH cR "await_arguments" 4 (A1 cR) (Ab 0) (Ad (fz (Ab 3)) (Ad (fz (Ab 4)) (Ad (fz (Ab 5)) Ah))))) (ifS (asB (Ag (gEq false) (Ag AB (Ab 3) (gc (.int 0))) (gc (.str ("make":Str))))) (AE (DI cR "worths" 0 (fz (Ai (Ak 2 Kl) (Ad (Ag AB (Ab 3) (gc (.int 1))) (Ad (tkF cR) Ah)))))) (AE (BH cR "await_body" 4 (AV cP cR) (Ab 0) (Ad (Ag AB (Ab 3) (gc (.int 1))) (Ad (tkF cR) (Ad (fz (Ab 5)) Ah)))))))))
theorem Ob:RF.any (·==("await_arguments":Str))=false/\RF.any (·==("taken":Str))=false/\RF.any (·==("await_body":Str))=false/\RF.any (·==("worth":Str))=false:=by decide +kernel
theorem GI:("make":Str)≠"name"/\("call":Str)≠"name"/\("call":Str)≠"make":=by decide +kernel
variable{x1 x2 y3 y4 y5 y6:Option Sl}
variable{as:List T}{ρ:T}
section
variable{n:Int}{W:List T}
abbrev fr(cR:Addr)(P:T)(a b:Addr)(x1 x2:Option Sl)(n:Int)(w W:List T)(y3 y4 y5 y6:Option Sl):FS:=[bO cR P a b n w W,x1,x2,y3,y4,y5,y6]
theorem X5(f3:Fre y3)(f4:Fre y4)(f5:Fre y5)(f6:Fre y6):Hi (fz (Hl cR "waiting" 0)) (AW 4 (Af (tgN 3) (Af (tgN 4) (Af (tgN 5) (Af (tgN 6) AN))))) (fr cR P a b x1 x2 n (w++[wi e ρ d r]) W y3 y4 y5 y6)=.nx (fr cR P a b x1 x2 n w W (vl e) (vl ρ) (iv d) (vl (.o r))):=by
 unfold Hi;rw[(Tz (i:=0) (fs:=fr cR P a b x1 x2 n (w++[wi e ρ d r]) W y3 y4 y5 y6) (ar:=fr cR P a b x1 x2 n w W y3 y4 y5 y6) (gs:=RF) (os:=[.val P,.val (.int n),.la a (w++[wi e ρ d r]),.la b W]) (f:="waiting") (p:=a) (ts:=w) (t:=wi e ρ d r) rfl Jx (by rw[Ts];rfl))];have g3:tgN 3 e (fr cR P a b x1 x2 n w W y3 y4 y5 y6)=some (fr cR P a b x1 x2 n w W (vl e) y4 y5 y6):=tg rfl f3;have g4:tgN 4 ρ (fr cR P a b x1 x2 n w W (vl e) y4 y5 y6)=some (fr cR P a b x1 x2 n w W (vl e) (vl ρ) y5 y6):=tg rfl f4;have g5:tgN 5 (.int d) (fr cR P a b x1 x2 n w W (vl e) (vl ρ) y5 y6)=some (fr cR P a b x1 x2 n w W (vl e) (vl ρ) (iv d) y6):=tg rfl f5;have g6:tgN 6 (.o r) (fr cR P a b x1 x2 n w W (vl e) (vl ρ) (iv d) y6)=some (fr cR P a b x1 x2 n w W (vl e) (vl ρ) (iv d) (vl (.o r))):=tg rfl f6;have gg:AW 4 (Af (tgN 3) (Af (tgN 4) (Af (tgN 5) (Af (tgN 6) AN)))) (wi e ρ d r) (fr cR P a b x1 x2 n w W y3 y4 y5 y6)=some (fr cR P a b x1 x2 n w W (vl e) (vl ρ) (iv d) (vl (.o r))):=by show(Af (tgN 3) (Af (tgN 4) (Af (tgN 5) (Af (tgN 6) AN)))) [e,ρ,.int d,.o r] (fr cR P a b x1 x2 n w W y3 y4 y5 y6)=_;simp only[Af,g3,g4,g5,g6,ub];rfl
 simp only[SO.of,gg]
theorem DV{ρ}{d}:asB (Ag (gEq false) (Ag AB (Ab 3) (gc (.int 0))) (gc (.str z'))) (fr cR P a b x1 x2 n w W (vl (.tup (.str z::ts))) ρ d r)=.ok (decide (z=z')) (fr cR P a b x1 x2 n w W (vl (.tup (.str z::ts))) ρ d r) :=
 GO (ix (Aa rfl) rfl) Ay
theorem NS(f3:Fre y3)(f4:Fre y4)(f5:Fre y5)(f6:Fre y6)(hl:W.length<100000)(hx:Cn (xs.map λx=>(.inr x:Key)) (hs.map wt) (.inr x:Key)=some (wt h)):
  wB cP cR (fr cR P a b x1 x2 n (w++[wi (Ex.nm x).t (Ez xs hs) d r]) W y3 y4 y5 y6)=.nx (fr cR P a b x1 x2 n w (W++[wt h]) (vl (Ex.nm x).t) (vl (Ez xs hs)) (iv d) (vl (.o r))):=by
 refine sq (X5 f3 f4 f5 f6) ?_;have et:(Ex.nm x).t=.tup [.str "name",.str x]:=rfl;rw[et];refine DU (by rw[DV];simp) ?_;refine Ql (aj:=fr cR P a b x1 x2 n w W (vl (.tup [.str "name",.str x])) (vl (Ez xs hs)) (iv d) (vl (.o r))) rfl Dr ?_ rfl Dr hl (by rw[Iy];rfl);exact Aj (Aa rfl) (ix (ts:=[.str "name",.str x]) (Aa rfl) rfl) (IV hx)
theorem NR{aH h:Str}(f3:Fre y3)(f4:Fre y4)(f5:Fre y5)(f6:Fre y6)(hf:aH≠"name")(hl:w.length+as.length<=80000):
  wB cP cR (fr cR P a b x1 x2 n (w++[wi (.tup [.str aH,.str h,.tup as]) ρ d false]) W y3 y4 y5 y6)=.nx (fr cR P a b x1 x2 n (w++[wi (.tup [.str aH,.str h,.tup as]) ρ d true]++as.reverse.map λt=>wi t ρ d false) W (vl (.tup [.str aH,.str h,.tup as])) (vl ρ) (iv d) (vl (.o false))):=by
 refine sq (X5 f3 f4 f5 f6) (AU (by rw[DV];simp[hf]) (DU (CM (Co (b:=false) (Aa rfl))) ?_));exact Dy (OL (gs:=RF) (os:=[.val P,.val (.int n),.la a w,.la b W]) (ts:=[.tup [.str aH,.str h,.tup as],ρ,.int d]) Ob.1 (Ae (Am (Aa rfl)) (Ae (Am (Aa rfl)) (Ae (Am (Aa rfl)) Au))) rfl (AF hl))
theorem NV{ρ}{d}(hl:vs.length<=1000)(ha:as.length=vs.length):tkF cR (fr cR P a b x1 x2 n w (W++vs) (vl (.tup [.str aH,.str h,.tup as])) ρ d r)=.ok (.t (.lst vs)) (fr cR P a b x1 x2 n w W (vl (.tup [.str aH,.str h,.tup as])) ρ d r):=by have l:=BO (f:=Ag AB (Ab 3) (gc (.int 2))) (fs:=fr cR P a b x1 x2 n w (W++vs) (vl (.tup [.str aH,.str h,.tup as])) ρ d r) (ix (Aa rfl) rfl) (.inr rfl);rw[ha]at l;exact Fc (Rw (gs:=RF) (os:=[.val P,.val (.int n),.la a w,.la b (W++vs)]) (ts:=[.int (vs.length:Int)]) Ob.2.1 (Ae l Au) rfl (taken vs hl))
theorem Jy(f3:Fre y3)(f4:Fre y4)(f5:Fre y5)(f6:Fre y6)(hl:hs.length<=1000)(hW:W.length<100000)(ha:as.length=hs.length):
  wB cP cR (fr cR P a b x1 x2 n (w++[wi (.tup [.str "make",.str m,.tup as]) ρ d true]) (W++hs.map wt) y3 y4 y5 y6)=if fits (.mk m hs)=true then .nx (fr cR P a b x1 x2 n w (W++[wt (.mk m hs)]) (vl (.tup [.str "make",.str m,.tup as])) (vl ρ) (iv d) (vl (.o true)))else .exc "TooLong" (fr cR P a b x1 x2 n w W (vl (.tup [.str "make",.str m,.tup as])) (vl ρ) (iv d) (vl (.o true))):=by
 refine sq (X5 f3 f4 f5 f6) (AU (by rw[DV];simp[GI.1]) (AU (CM (Co (b:=true) (Aa rfl))) (DU (by rw[DV];simp) ?_)));have cn:Ad (Ag AB (Ab 3) (gc (.int 1))) (Ad (tkF cR) Ah) (fr cR P a b x1 x2 n w (W++hs.map wt) (vl (.tup [.str "make",.str m,.tup as])) (vl ρ) (iv d) (vl (.o true)))=.ok [.t (.str m),.t (.lst (hs.map wt))] (fr cR P a b x1 x2 n w W (vl (.tup [.str "make",.str m,.tup as])) (vl ρ) (iv d) (vl (.o true))) :=
  Ae (ix (i:=1) (ts:=[.str "make",.str m,.tup as]) (Aa rfl) rfl) (Ae (NV (cR:=cR) (P:=P) (a:=a) (b:=b) (n:=n) (w:=w) (W:=W) (x1:=x1) (x2:=x2) (aH:="make") (h:=m) (as:=as) (vs:=hs.map wt) (ρ:=vl ρ) (d:=iv d) (r:=vl (.o true)) (by simpa using hl) (by simpa using ha)) Au)
 have md:=made m hs hl;cases hf:fits (.mk m hs)with|true =>rw[hf,if_pos rfl]at md;rw[if_pos rfl];exact Ql (C:=cR) (gs:=RF) (os:=[.val P,.val (.int n),.la a w,.la b (W++hs.map wt)]) (iI:=RF) (j9:=[.val P,.val (.int n),.la a w,.la b W]) (p:=b) (ts:=W) (us:=W++hs.map wt) (t:=wt (.mk m hs)) rfl Dr (IX (BX cn rfl rfl md)) rfl Dr hW (by rw[Iy];rfl)|false =>rw[hf,if_neg (by simp)]at md;rw[if_neg (by simp)];exact W3 (C:=cR) (gs:=RF) (os:=[.val P,.val (.int n),.la a w,.la b (W++hs.map wt)]) (p:=b) rfl Dr (T5 (KG cn rfl rfl md))
section
variable{f:Str}{hs:List Th}{d:Int}
theorem KD(hl:hs.length<=1000)(ha:as.length=hs.length):Ad (Ag AB (Ab 3) (gc (.int 1))) (Ad (tkF cR) (Ad (fz (Ab 5)) Ah)) (fr cR P a b x1 x2 n w (W++hs.map wt) (vl (.tup [.str "call",.str f,.tup as])) (vl ρ) (iv d) (vl (.o true)))=.ok ([.str f,.lst (hs.map wt),.int d].map Rv.t) (fr cR P a b x1 x2 n w W (vl (.tup [.str "call",.str f,.tup as])) (vl ρ) (iv d) (vl (.o true))) :=
 Ae (ix (Aa rfl) rfl) (Ae (NV (by simpa using hl) (by simpa using ha)) (Ae (Am (Aa rfl)) Au))
theorem QD(f3:Fre y3)(f4:Fre y4)(f5:Fre y5)(f6:Fre y6)(hl:hs.length<=1000)(ha:as.length=hs.length)(h:AV cP cR (abS cR P a b n w W f hs d)=.exc "TooLong" (abS cR P a b n w W f hs d)):
  wB cP cR (fr cR P a b x1 x2 n (w++[wi (.tup [.str "call",.str f,.tup as]) ρ d true]) (W++hs.map wt) y3 y4 y5 y6)=.exc "TooLong" (fr cR P a b x1 x2 n w W (vl (.tup [.str "call",.str f,.tup as])) (vl ρ) (iv d) (vl (.o true))) :=
 sq (X5 f3 f4 f5 f6) (AU (by rw[DV];simp[GI.2.1]) (AU (CM (Co (b:=true) (Aa rfl))) (AU (by rw[DV];simp[GI.2.2]) (Kp (OM Ob.2.2.1 (KD hl ha) rfl h)))))
theorem NU(f3:Fre y3)(f4:Fre y4)(f5:Fre y5)(f6:Fre y6)(ha:as.length=(Th.mk m ps::rest).length)(hn:0<n)(hd:d<=20)(hP:∀fs,DT cP "row" fs (.t P)=true)(iV:Bl cP [vl P,vl (.str f),vl (.str m)]=.ok (.t (.tup [.tup (xs.map T.str),body])) [vl P,vl (.str f),vl (.str m)])
  (hx:xs.Nodup) (lV:xs.length=ps.length+rest.length) (hz:∀h∈ps,h.sz<=900) (hl:ps.length+rest.length<=100) (hw:w.length<=80000) :
  wB cP cR (fr cR P a b x1 x2 n (w++[wi (.tup [.str "call",.str f,.tup as]) ρ d true]) (W++(Th.mk m ps::rest).map wt) y3 y4 y5 y6)=.nx (fr cR P a b x1 x2 (n-1) (w++[wi body (Ez xs (ps++rest)) (d+1) false]) W (vl (.tup [.str "call",.str f,.tup as])) (vl ρ) (iv d) (vl (.o true))) :=
 sq (X5 f3 f4 f5 f6) (AU (by rw[DV];simp[GI.2.1]) (AU (CM (Co (b:=true) (Aa rfl))) (AU (by rw[DV];simp[GI.2.2]) (Dy (OL Ob.2.2.1 (KD (by simp;lia) ha) rfl (Bq hn hd hP iV hx lV hz hl hw))))))
end
end
structure RC where
 cP:Addr
 cR:Addr
 P:T
 a:Addr
 b:Addr
 x1:Option Sl
 x2:Option Sl
abbrev RC.f(c:RC)(n:Int)(w W:List T)(y3 y4 y5 y6:Option Sl):FS:=fr c.cR c.P c.a c.b c.x1 c.x2 n w W y3 y4 y5 y6
abbrev RC.lp(c:RC):Nat->FS->SO:=Cc (wC c.cR) (wB c.cP c.cR)
def Go(c:RC)(k:Nat)(n:Int)(w W:List T)(n':Int)(w' W':List T):Prop:=∀y3 y4 y5 y6,Fre y3->Fre y4->Fre y5->Fre y6->∀j,∃z3 z4 z5 z6,Fre z3/\Fre z4/\Fre z5/\Fre z6/\c.lp (j+k) (c.f n w W y3 y4 y5 y6)=c.lp j (c.f n' w' W' z3 z4 z5 z6)
def No(c:RC)(k:Nat)(n:Int)(w W:List T):Prop:=∀y3 y4 y5 y6,Fre y3->Fre y4->Fre y5->Fre y6->∀j,∃τ,c.lp (j+k) (c.f n w W y3 y4 y5 y6)=.exc "TooLong" τ
variable{k k1 k2:Nat}{n1 n2:Int}{w1 w2 W1 W2:List T}
section
variable{c:RC}{n:Int}{W:List T}
theorem Go.refl:Go c 0 n w W n w W:=λy3 y4 y5 y6 f3 f4 f5 f6 j=>⟨y3,y4,y5,y6,f3,f4,f5,f6,rfl⟩
theorem Go.then(h:Go c k1 n w W n1 w1 W1)(h2:Go c k2 n1 w1 W1 n2 w2 W2):Go c (k2+k1) n w W n2 w2 W2:=λy3 y4 y5 y6 f3 f4 f5 f6 j=>by obtain⟨z3,z4,z5,z6,g3,g4,g5,g6,e⟩:=h y3 y4 y5 y6 f3 f4 f5 f6 (j+k2);obtain⟨u3,u4,u5,u6,q3,q4,q5,q6,e2⟩:=h2 z3 z4 z5 z6 g3 g4 g5 g6 j;exact⟨u3,u4,u5,u6,q3,q4,q5,q6,by rw[<- Nat.add_assoc,e,e2]⟩
theorem Go.no(h:Go c k1 n w W n1 w1 W1)(h2:No c k2 n1 w1 W1):No c (k2+k1) n w W:=λy3 y4 y5 y6 f3 f4 f5 f6 j=>by obtain⟨z3,z4,z5,z6,g3,g4,g5,g6,e⟩:=h y3 y4 y5 y6 f3 f4 f5 f6 (j+k2);obtain⟨τ,e2⟩:=h2 z3 z4 z5 z6 g3 g4 g5 g6 j;exact⟨τ,by rw[<- Nat.add_assoc,e,e2]⟩
theorem Xk{i}:wC c.cR (c.f n (w++[i]) W y3 y4 y5 y6)=.ok true (c.f n (w++[i]) W y3 y4 y5 y6):=by have:=Tq (i:=0) (fs:=c.f n (w++[i]) W y3 y4 y5 y6) rfl Jx;exact this.trans (by simp)
theorem go1{i}(h:∀y3 y4 y5 y6,Fre y3->Fre y4->Fre y5->Fre y6->∃z3 z4 z5 z6,wB c.cP c.cR (c.f n (w++[i]) W y3 y4 y5 y6)=.nx (c.f n1 w1 W1 (vl z3) (vl z4) (vl z5) (vl z6))):Go c 1 n (w++[i]) W n1 w1 W1:=λy3 y4 y5 y6 f3 f4 f5 f6 j=>by obtain⟨z3,z4,z5,z6,e⟩:=h y3 y4 y5 y6 f3 f4 f5 f6;exact⟨_,_,_,_,AD,AD,AD,AD,LJ Xk e⟩
theorem no1{i}(h:∀y3 y4 y5 y6,Fre y3->Fre y4->Fre y5->Fre y6->∃τ,wB c.cP c.cR (c.f n (w++[i]) W y3 y4 y5 y6)=.exc "TooLong" τ):No c 1 n (w++[i]) W:=λy3 y4 y5 y6 f3 f4 f5 f6 j=>by obtain⟨τ,e⟩:=h y3 y4 y5 y6 f3 f4 f5 f6;refine⟨τ,?_⟩;show Cc _ _ (j+1) _=_;rw[Cc,Xk];show(match wB c.cP c.cR _ with|.nx fs=>_|.cnt fs=>_|.brk fs=>_|o=>o)=_;rw[e]
end
section
variable(c:RC)(s:Nat)(xs:List Str)(hs:List Th)(d:Nat)(n:Int)
def Ev(e:Ex)(v:Th)(n':Int)(k:Nat):Prop:=∀w W,w.length+W.length<=200*d+s->Go c k n (w++[wi e.t (Ez xs hs) d false]) W n' w (W++[wt v])
def EvN(e:Ex)(k:Nat):Prop:=∀w W,w.length+W.length<=200*d+s->No c k n (w++[wi e.t (Ez xs hs) d false]) W
def EvL(es:List Ex)(vs:List Th)(n':Int)(k:Nat):Prop:=∀w W,w.length+W.length+es.length<=200*d+s->Go c k n (w++(es.map λe=>wi e.t (Ez xs hs) d false).reverse) W n' w (W++vs.map wt)
def Jaw(es:List Ex)(k:Nat):Prop:=∀w W,w.length+W.length+es.length<=200*d+s->No c k n (w++(es.map λe=>wi e.t (Ez xs hs) d false).reverse) W
end
variable{c:RC}{s d:Nat}{xs ys:List Str}{hs vs:List Th}{n:Int}{v:Th}{e body:Ex}{es:List Ex}{f:Str}
theorem GN(hx:Cn (xs.map λx=>(.inr x:Key)) (hs.map wt) (.inr x:Key)=some (wt v))(hd:d<=30)(aZ:s<=1000):Ev c s xs hs d n (.nm x) v n 1:=λw W hl=>go1 λy3 y4 y5 y6 f3 f4 f5 f6=>⟨_,_,_,_,NS f3 f4 f5 f6 (by lia) hx⟩
theorem C9:EvL c s xs hs d n [] [] n 0:=λw W _=>by simpa using Go.refl
theorem By(h1:Ev c s xs hs d n e v n1 k1)(h2:EvL c s xs hs d n1 es vs n2 k2):EvL c s xs hs d n (e::es) (v::vs) n2 (k2+k1):=λw W hl=>by
 rw[tM]at hl;have:=(h1 (w++(es.map λe=>wi e.t (Ez xs hs) d false).reverse) W (by simp;lia)).then (h2 w (W++[wt v]) (by simp;lia))
 simpa using this
theorem LA(h1:EvN c s xs hs d n e k1):Jaw c s xs hs d n (e::es) k1:=λw W hl=>by rw[tM]at hl;simpa using (h1 (w++(es.map λe=>wi e.t (Ez xs hs) d false).reverse) W (by simp;lia))
theorem WB(h1:Ev c s xs hs d n e v n1 k1)(h2:Jaw c s xs hs d n1 es k2):Jaw c s xs hs d n (e::es) (k2+k1):=λw W hl=>by rw[tM]at hl;have:=(h1 (w++(es.map λe=>wi e.t (Ez xs hs) d false).reverse) W (by simp;lia)).no (h2 w (W++[wt v]) (by simp;lia));simpa using this
theorem GF{aH h:Str}(hf:aH≠"name")(hl:w.length+es.length<=80000):Go c 1 n (w++[wi (.tup [.str aH,.str h,.tup (Ex.ts es)]) (Ez xs hs) d false]) W n (w++[wi (.tup [.str aH,.str h,.tup (Ex.ts es)]) (Ez xs hs) d true]++(es.map λe=>wi e.t (Ez xs hs) d false).reverse) W :=
 go1 λy3 y4 y5 y6 f3 f4 f5 f6=>⟨_,_,_,_,by have:=NR (cP:=c.cP) (cR:=c.cR) (P:=c.P) (a:=c.a) (b:=c.b) (n:=n) (w:=w) (W:=W) (x1:=c.x1) (x2:=c.x2) (aH:=aH) (h:=h) (as:=Ex.ts es) (ρ:=Ez xs hs) (d:=d) f3 f4 f5 f6 hf (by rw[Ex.Cr,sU];exact hl);rw[this];simp only[Ex.Cr,<- List.map_reverse,ua];rfl⟩
theorem SD(h:EvL c (s+1+es.length) xs hs d n es vs n1 k)(hv:vs.length=es.length)(hf:fits (.mk m vs)=true)(hd:d<=30)(aZ:s+es.length<=500):Ev c s xs hs d n (.mk m es) (.mk m vs) n1 (1+(k+1)):=λw W hl=>by have et:(Ex.mk m es).t=.tup [.str "make",.str m,.tup (Ex.ts es)]:=rfl;rw[et];refine((GF GI.1 (by lia)).then (h _ W (by simp;lia))).then (go1 λy3 y4 y5 y6 f3 f4 f5 f6=>⟨_,_,_,_,(Jy f3 f4 f5 f6 (by lia) (by lia) (by rw[Ex.Cr,sU];lia)).trans (if_pos hf)⟩)
theorem PL(h:Jaw c (s+1+es.length) xs hs d n es k)(aZ:s+es.length<=500)(hd:d<=30):EvN c s xs hs d n (.mk m es) (k+1):=λw W hl=>by have et:(Ex.mk m es).t=.tup [.str "make",.str m,.tup (Ex.ts es)]:=rfl;rw[et];exact(GF GI.1 (by lia)).no (h _ W (by simp;lia))
theorem Ug(h:EvL c (s+1+es.length) xs hs d n es vs n1 k)(hv:vs.length=es.length)(hf:fits (.mk m vs)=false)(hd:d<=30)(aZ:s+es.length<=500):EvN c s xs hs d n (.mk m es) (1+(k+1)):=λw W hl=>by have et:(Ex.mk m es).t=.tup [.str "make",.str m,.tup (Ex.ts es)]:=rfl;rw[et];refine((GF GI.1 (by lia)).then (h _ W (by simp;lia))).no (no1 λy3 y4 y5 y6 f3 f4 f5 f6=>⟨_,(Jy f3 f4 f5 f6 (by lia) (by lia) (by rw[Ex.Cr,sU];lia)).trans (if_neg (by rw[hf];simp))⟩)
structure Row(c:RC)(f m:Str)(ys:List Str)(body:Ex):Prop where
 ins:∀fs,DT c.cP "row" fs (.t c.P)=true
 row:Bl c.cP [vl c.P,vl (.str f),vl (.str m)]=.ok (.t (.tup [.tup (ys.map T.str),body.t])) [vl c.P,vl (.str f),vl (.str m)]
 nd:ys.Nodup
theorem Ph(R:Row c f m ys body)(h:EvL c (s+1+es.length) xs hs d n es (.mk m ps::rest) n1 k)(hv:(Th.mk m ps::rest).length=es.length)(hn:0<n1)(hd:d<=20)(jV:ys.length=ps.length+rest.length)(hz:∀h∈ps,h.sz<=900)(b0:ps.length+rest.length<=100)(aZ:s+es.length<=200){W:List T}(hl:w.length+W.length<=200*d+s):
  Go c (1+(k+1)) n (w++[wi (Ex.cl f es).t (Ez xs hs) d false]) W (n1-1) (w++[wi body.t (Ez ys (ps++rest)) ((d+1:Nat):Int) false]) W:=by
 have et:(Ex.cl f es).t=.tup [.str "call",.str f,.tup (Ex.ts es)]:=rfl;rw[et];refine((GF GI.2.1 (by lia)).then (h _ W (by simp at hv ⊢;lia))).then (go1 λy3 y4 y5 y6 f3 f4 f5 f6=>⟨_,_,_,_,NU f3 f4 f5 f6 (by rw[Ex.Cr,sU];lia) hn (by lia) R.ins R.row R.nd jV hz b0 (by lia)⟩)
theorem Nt(R:Row c f m ys body)(h:EvL c (s+1+es.length) xs hs d n es (.mk m ps::rest) n1 k)(hv:(Th.mk m ps::rest).length=es.length)(hn:0<n1)(hd:d<=20)(jV:ys.length=ps.length+rest.length)(hz:∀h∈ps,h.sz<=900)(b0:ps.length+rest.length<=100)(aZ:s+es.length<=200)
  (hb:Ev c 0 ys (ps++rest) (d+1) (n1-1) body v n2 k2):Ev c s xs hs d n (.cl f es) v n2 (k2+(1+(k+1))):=λw W hl=>(Ph R h hv hn hd jV hz b0 aZ hl).then (hb w W (by lia))
theorem Km(R:Row c f m ys body)(h:EvL c (s+1+es.length) xs hs d n es (.mk m ps::rest) n1 k)(hv:(Th.mk m ps::rest).length=es.length)(hn:0<n1)(hd:d<=20)(jV:ys.length=ps.length+rest.length)(hz:∀h∈ps,h.sz<=900)(b0:ps.length+rest.length<=100)(aZ:s+es.length<=200)
  (hb:EvN c 0 ys (ps++rest) (d+1) (n1-1) body k2):EvN c s xs hs d n (.cl f es) (k2+(1+(k+1))):=λw W hl=>(Ph R h hv hn hd jV hz b0 aZ hl).no (hb w W (by lia))
theorem HZ(h:EvL c (s+1+es.length) xs hs d n es vs n1 k)(hv:vs.length=es.length)(hx:n1<=0\/20<d)(hd:d<=30)(aZ:s+es.length<=200):EvN c s xs hs d n (.cl f es) (1+(k+1)):=λw W hl=>by
 have et:(Ex.cl f es).t=.tup [.str "call",.str f,.tup (Ex.ts es)]:=rfl;rw[et];refine((GF GI.2.1 (by lia)).then (h _ W (by simp;lia))).no (no1 λy3 y4 y5 y6 f3 f4 f5 f6=>⟨_,QD f3 f4 f5 f6 (by lia) (by rw[Ex.Cr,sU];lia) (by
  by_cases h0:n1<=0
  .exact S5 h0 vs
  .exact Qd (by lia) (by lia) vs)⟩)
abbrev rc(cP cR:Addr)(P:T)(xs:List Str)(hs:List Th)(e:Ex)(a b:Addr):RC:=⟨cP,cR,P,a,b,vl (Ez xs hs),vl e.t⟩
theorem Ki:AE (DI cR "waiting" 0 (An Ar (Ac (fz (Ab 2)) (Ac (fz (Ab 1)) (Ac (gc (.int 1)) (Ac (gc (.o false)) Ah)))))) (fr cR P a b (vl (Ez xs hs)) (vl e.t) n [] [] none none none none)=.nx (fr cR P a b (vl (Ez xs hs)) (vl e.t) n ([]++[wi e.t (Ez xs hs) ((1:Nat):Int) false]) [] none none none none) :=
 Td (SM (Am (Aa rfl)) (Am (Aa rfl)) Ay) (by simp)
theorem Qx(h:Ev (rc cP cR P xs hs e a b) 0 xs hs 1 n e v n1 k)(hk:k<4000):∃τ,Bu cP cR [bO cR P a b n [] [],vl (Ez xs hs),vl e.t]=.ok (.t v.t) τ:=by
 obtain⟨z3,z4,z5,z6,_,_,_,_,lp⟩:=h [] [] (by simp) none none none none Aq Aq Aq Aq (4000-k);rw[Nat.sub_add_cancel (by lia)]at lp;obtain⟨j,hj⟩:∃j,4000-k=j+1:=⟨4000-k-1,by lia⟩
 rw[hj]at lp;have we:(rc cP cR P xs hs e a b).lp (j+1) ((rc cP cR P xs hs e a b).f n1 [] ([]++[wt v]) z3 z4 z5 z6)=.nx ((rc cP cR P xs hs e a b).f n1 [] ([]++[wt v]) z3 z4 z5 z6) :=
  Ju (Tq (ts:=[]) rfl Jx)
 rw[we]at lp;exact⟨_,BB (n:=4) (g:=Hb cP cR) (args:=[bO cR P a b n [] [],vl (Ez xs hs),vl e.t]) (sq Ki (sq lp (by refine AO (ix (ts:=[v.t,.int (v.sz:Int),.int (v.dp:Int)]) ?_ rfl);unfold RG;rw[J2 (o:=XO cR P a b n1 [] ([]++[wt v])) rfl];simp only[XO,Dr,if_true];rfl)))⟩
theorem Qy(h:EvN (rc cP cR P xs hs e a b) 0 xs hs 1 n e k)(hk:k<4000):∃τ,Bu cP cR [bO cR P a b n [] [],vl (Ez xs hs),vl e.t]=.exc "TooLong" τ:=by obtain⟨τ,lp⟩:=h [] [] (by simp) none none none none Aq Aq Aq Aq (4000-k);rw[Nat.sub_add_cancel (by lia)]at lp;exact⟨_,EE (sq Ki (FJ lp))⟩
theorem T9{cm:List FO}(hv:fv fs=.ok (.t t) aj)(h0:aj[i]?=some (some (.bor (.ins C gs os))))(hl:gs.length<900)(hp:C7 gs os f (.val t)=some (dm,cm))(e:aj.set i (some (.bor (.ins C dm cm)))=ar):HY C f i fv fs=.nx ar:=by unfold HY;rw[hv];simp only[SO.of,JbG,J2 h0];rw[if_pos ⟨trivial,hl⟩,hp];simp only;rw[show FL.putAt aj i (.ins C dm cm)=ar by unfold FL.putAt;rw[h0];exact e]
theorem QS{m:Int}:CK cR [some (.bor (.ins cR [] [])),vl P,iv m]=.ok (.t .v) [some (.bor (.ins cR RF [.val P,.val (.int m),.lst [],.lst []])),vl P,iv m]:=by
 have h1:("program":Str)≠"calls_left"/\("program":Str)≠"waiting"/\("program":Str)≠"worths"/\("calls_left":Str)≠"waiting"/\("calls_left":Str)≠"worths"/\("waiting":Str)≠"worths":=by decide +kernel
 have nl:∀fs,An Er Ah fs=.ok (.nw (.lst [])) fs:=λ_=>rfl
 have all:Fi cR [some (.bor (.ins cR [] [])),vl P,iv m]=.nx [some (.bor (.ins cR RF [.val P,.val (.int m),.lst [],.lst []])),vl P,iv m]:=by refine sq (T9 (Am (Aa rfl)) rfl (by simp) rfl rfl) ?_;refine sq (T9 (dm:=["program","calls_left"]) (cm:=[.val P,.val (.int m)]) (Am (Aa rfl)) rfl (by simp) (by simp[C7,h1]) rfl) ?_;refine sq (GJ (C:=cR) (gs:=["program","calls_left"]) (os:=[.val P,.val (.int m)]) (dm:=["program","calls_left","waiting"]) (cm:=[.val P,.val (.int m),.lst []]) (o:=.lst []) (nl _) rfl (by simp) (by simp[C7,h1]) rfl) ?_;exact GJ (C:=cR) (gs:=["program","calls_left","waiting"]) (os:=[.val P,.val (.int m),.lst []]) (dm:=RF) (cm:=[.val P,.val (.int m),.lst [],.lst []]) (o:=.lst []) (nl _) rfl (by simp) (by simp[C7,h1]) rfl
 show Bo 0 (Fi cR) _=_;unfold Bo;rw[show [some (Sl.bor (.ins cR [] [])),vl P,iv m]++List.replicate 0 none=[some (.bor (.ins cR [] [])),vl P,iv m]from rfl,all];rfl
variable{hx hy:Th}
abbrev sXY:List Str:=["x","y"]
abbrev D8(hx hy:Th):T:=.dF [.inr "x",.inr "y"] [hx.t,hy.t]
abbrev LV(P:T)(hx hy:Th)(e:Ex)(n:Int):FS:=[vl P,vl (D8 hx hy),vl e.t,iv n]
theorem KY:("x":Str)≠"y":=by decide +kernel
theorem LU(zx:hx.sz<=900)(zy:hy.sz<=900):Dq (itI (Ab 1)) (AW 2 (Af (tgN 5) (Af (tgN 6) AN))) (Dg (fz (Ai (Ak 1 BQ) (Ad (fz (Ab 6)) Ah))) (Ab 4) (fz (Ab 5))) [vl P,vl (D8 hx hy),vl e.t,iv n,some (.own (.l [] [])),none,none]=.nx [vl P,vl (D8 hx hy),vl e.t,iv n,some (.own (.l [.inr "x",.inr "y"] [wt hx,wt hy])),vl (.str "y"),vl hy.t]:=by
 have hi:itI (Ab 1) [vl P,vl (D8 hx hy),vl e.t,iv n,some (.own (.l [] [])),none,none]=.ok [.tup [.str "x",hx.t],.tup [.str "y",hy.t]] [vl P,vl (D8 hx hy),vl e.t,iv n,some (.own (.l [] [])),none,none]:=rfl;have cw:∀(h:Th)(x4 x5:Option Sl),h.sz<=900->fz (Ai (Ak 1 BQ) (Ad (fz (Ab 6)) Ah)) [vl P,vl (D8 hx hy),vl e.t,iv n,x4,x5,vl h.t]=.ok (.t (wt h)) [vl P,vl (D8 hx hy),vl e.t,iv n,x4,x5,vl h.t]:=λh x4 x5 hz=>Am (BX (Ae (Am (Aa rfl)) Au) rfl rfl (EY h hz))
 unfold Dq;rw[hi];simp only[SO.of];rw[DG (DB (by exact tg rfl Aq) (by exact tg rfl Aq)) (JI rfl (cw hx _ _ zx) (Am (Aa rfl)) rfl (by decide) rfl)];rw[DG (DB (by exact tg rfl AD) (by exact tg rfl AD)) (JI rfl (cw hy _ _ zy) (Am (Aa rfl)) (by simp[KY]) (by decide) rfl)];rfl
noncomputable abbrev nmF(cP cR:Addr):FS->Out Rv:=newMeth cR "worth" 3 (Bu cP cR) (Ai (E6 cR 3 (CK cR)) (Ad (fz (Ab 0)) (Ad (fz (Ab 3)) Ah))) (Ad (fz (Ab 4)) (Ad (fz (Ab 2)) Ah))
theorem TR(h:∀A:Nat->Addr,Ak 3 (Bu cP cR) [.nw (XO cR P (A 2) (A 3) n [] []),.t (Ez sXY [hx,hy]),.t e.t] [vl P,vl (D8 hx hy),vl e.t,iv n,vl (Ez sXY [hx,hy]),x5,x6]=r):
  nmF cP cR [vl P,vl (D8 hx hy),vl e.t,iv n,some (.own (.l [.inr "x",.inr "y"] [wt hx,wt hy])),x5,x6]=r:=by
 have mk:Ai (E6 cR 3 (CK cR)) (Ad (fz (Ab 0)) (Ad (fz (Ab 3)) Ah)) [vl P,vl (D8 hx hy),vl e.t,iv n,some (.own (.l [.inr "x",.inr "y"] [wt hx,wt hy])),x5,x6]=.ok (.nw (.ins cR RF [.val P,.val (.int n),.lst [],.lst []])) [vl P,vl (D8 hx hy),vl e.t,iv n,some (.own (.l [.inr "x",.inr "y"] [wt hx,wt hy])),x5,x6] :=
  IM (Ae (Am (Aa rfl)) (Ae (Am (Aa rfl)) Au)) rfl rfl QS
 have fa:Ad (fz (Ab 4)) (Ad (fz (Ab 2)) Ah) [vl P,vl (D8 hx hy),vl e.t,iv n,some (.own (.l [.inr "x",.inr "y"] [wt hx,wt hy])),x5,x6]=.ok [.t (Ez sXY [hx,hy]),.t e.t] [vl P,vl (D8 hx hy),vl e.t,iv n,vl (Ez sXY [hx,hy]),x5,x6] :=rfl;show newMeth cR "worth" 3 (Bu cP cR) _ _ _=_;unfold newMeth;rw[mk];simp only[Out.bind];rw[if_pos ⟨trivial,Ob.2.2.2⟩,fa];exact(if_pos (λA=>Eq.trans (h A) (h (λi=>i)).symm)).trans (h (λi=>i))
theorem LR(zx:hx.sz<=900)(zy:hy.sz<=900)(h:∀a b,∃k n1,k<4000/\Ev (rc cP cR P sXY [hx,hy] e a b) 0 sXY [hx,hy] 1 n e v n1 k):∃τ,f_run cP cR (LV P hx hy e n)=.ok (.t v.t) τ:=by exact⟨_,BB (sq (show AL 4 EK _=.nx [vl P,vl (D8 hx hy),vl e.t,iv n,some (.own (.l [] [])),none,none]from rfl) (sq (LU zx zy) (AO (TR λA=>by obtain⟨k,n1,hk,h⟩:=h (A 2) (A 3);obtain⟨τ,e1⟩:=Qx h hk;exact ME rfl rfl e1))))⟩
theorem LS(zx:hx.sz<=900)(zy:hy.sz<=900)(h:∀a b,∃k,k<4000/\EvN (rc cP cR P sXY [hx,hy] e a b) 0 sXY [hx,hy] 1 n e k):∃τ,f_run cP cR (LV P hx hy e n)=.exc "TooLong" τ:=by exact⟨_,EE (sq (show AL 4 EK _=.nx [vl P,vl (D8 hx hy),vl e.t,iv n,some (.own (.l [] [])),none,none]from rfl) (sq (LU zx zy) (QW (TR λA=>by obtain⟨k,hk,h⟩:=h (A 2) (A 3);obtain⟨τ,e1⟩:=Qy h hk;exact NC rfl rfl e1))))⟩
abbrev leaf(k0:Str):Th:=.mk k0 []
noncomputable def chn(k1:Str)(t:Th):Nat->Th
 |0=>t
 |c+1=>.mk k1 [chn k1 t c]
theorem ES(k1:Str)(t:Th):∀c,(chn k1 t c).sz=c+t.sz/\(chn k1 t c).dp=c+t.dp
 |0=>by simp[chn]
 |c+1=>by
  have:=ES k1 t c;simp[chn,Th.sz,Th.szs,Th.dp,Th.dps]
  lia
theorem DQ(k0:Str):(leaf k0).sz=1/\(leaf k0).dp=1:=by simp[leaf,Th.sz,Th.szs,Th.dp,Th.dps]
noncomputable def full(k0 k2:Str):Nat->Th
 |0=>leaf k0
 |c+1=>.mk k2 [full k0 k2 c,full k0 k2 c]
theorem Lv(k0 k2:Str):∀c,(full k0 k2 c).sz+1=2^(c+1)/\(full k0 k2 c).dp=c+1
 |0=>by simp[full,DQ]
 |c+1=>by
  have:=Lv k0 k2 c;simp only[full,Th.sz,Th.szs,Th.dp,Th.dps];rw[Nat.pow_succ]
  lia
theorem lk1{y}:Cn ([y].map λx=>(.inr x:Key)) ([h].map wt) (.inr y:Key)=some (wt h):=by simp[Cn]
theorem lk2{x}{y}(hn:x≠y):Cn ([x,y].map λx=>(.inr x:Key)) ([h,g].map wt) (.inr x:Key)=some (wt h)/\Cn ([x,y].map λx=>(.inr x:Key)) ([h,g].map wt) (.inr y:Key)=some (wt g):=by
 constructor
 .simp[Cn]
 .simp[Cn,hn]
variable{k0 k1 k2 nn:Str}
section
variable{kd:Str}
theorem OS(hd:d<=30)(aZ:s<=100):Ev c s xs hs d n (.mk k0 []) (leaf k0) n 2 :=
 SD C9 rfl (by have:=DQ k0;unfold fits leaf at *;simp[this]) hd (by simpa using tY aZ (by decide))
theorem e0(R0:Row c f k0 [] (.mk k0 []))(R1:Row c f k1 [nn] (.cl f [.nm nn])):∀(ch s:Nat)(xs:List Str)(hs:List Th)(x:Str)(d:Nat)(n:Int),ch<=100->s<=50->d<=21->Cn (xs.map λx=>(.inr x:Key)) (hs.map wt) (.inr x:Key)=some (wt (chn k1 (leaf k0) ch)) ->
  (((ch:Int)+1<=n/\d+ch<=20)->∃k,k<=3*ch+5/\Ev c s xs hs d n (.cl f [.nm x]) (leaf k0) (n-(ch+1)) k)/\(¬((ch:Int)+1<=n/\d+ch<=20)->∃k,k<=3*ch+5/\EvN c s xs hs d n (.cl f [.nm x]) k)
 |0,s,xs,hs,x,d,n,hc,aZ,hd,hx=>by have ea:EvL c (s+1+[Ex.nm x].length) xs hs d n [.nm x] [leaf k0] n (0+1):=By (GN hx (by lia) (by simp;lia)) C9;refine⟨λh=>⟨2+(1+((0+1)+1)),by lia,?_⟩,λh=>⟨1+((0+1)+1),by lia,HZ ea rfl (by lia) (by lia) (by simp;lia)⟩⟩;have:=Nt R0 ea rfl (by lia) (by lia) rfl (by simp) (by simp) (by simp;lia) (OS (by lia) (by lia));simpa using this
 |ch+1,s,xs,hs,x,d,n,hc,aZ,hd,hx=>by
  have ea:EvL c (s+1+[Ex.nm x].length) xs hs d n [.nm x] [chn k1 (leaf k0) (ch+1)] n (0+1):=By (GN hx (by lia) (by simp;lia)) C9;by_cases hg:0<n/\d<=20
  .obtain⟨i1,i2⟩:=e0 R0 R1 ch 0 [nn] [chn k1 (leaf k0) ch] nn (d+1) (n-1) (by lia) (by lia) (by lia) lk1;have hz:∀h∈[chn k1 (leaf k0) ch],h.sz<=900:=by
    intro h m;rw[tK.mp m,(ES k1 (leaf k0) ch).1,(DQ k0).1]
    lia
   constructor
   .intro h;obtain⟨k,hk,ek⟩:=i1 (by push_cast at h;lia);refine⟨k+(1+((0+1)+1)),by lia,?_⟩;have:=Nt R1 ea rfl hg.1 hg.2 rfl hz (by simp) (by simp;lia) ek;have e:n-1-((ch:Int)+1)=n-(((ch+1:Nat):Int)+1):=by push_cast;lia
    rwa[e]at this
   .intro h;obtain⟨k,hk,ek⟩:=i2 (by push_cast at h;lia);exact⟨k+(1+((0+1)+1)),by lia,Km R1 ea rfl hg.1 hg.2 rfl hz (by simp) (by simp;lia) ek⟩
  .exact⟨λh=>absurd h (by push_cast;lia),λh=>⟨1+((0+1)+1),by lia,HZ ea rfl (by lia) (by lia) (by simp;lia)⟩⟩
theorem e1(R0:Row c f k0 [] (.mk k0 []))(R1:Row c f k1 [nn] (.mk k2 [.cl f [.nm nn],.cl f [.nm nn]])):∀(ch s:Nat)(xs:List Str)(hs:List Th)(x:Str)(d:Nat)(n:Int),ch<=7->s<=50->d+ch<=20->Cn (xs.map λx=>(.inr x:Key)) (hs.map wt) (.inr x:Key)=some (wt (chn k1 (leaf k0) ch)) ->
  ((2:Int)^(ch+1)-1<=n->∃k,k+5<=10*2^ch/\Ev c s xs hs d n (.cl f [.nm x]) (full k0 k2 ch) (n-(2^(ch+1)-1)) k)/\(¬(2:Int)^(ch+1)-1<=n->∃k,k+5<=10*2^ch/\EvN c s xs hs d n (.cl f [.nm x]) k)
 |0,s,xs,hs,x,d,n,hc,aZ,hd,hx=>by have ea:EvL c (s+1+[Ex.nm x].length) xs hs d n [.nm x] [leaf k0] n (0+1):=By (GN hx (by lia) (by simp;lia)) C9;refine⟨λh=>⟨2+(1+((0+1)+1)),by decide,?_⟩,λh=>⟨1+((0+1)+1),by decide,HZ ea rfl (by lia) (by lia) (by simp;lia)⟩⟩;have:=Nt R0 ea rfl (by lia) (by lia) rfl (by simp) (by simp) (by simp;lia) (OS (by lia) (by lia));exact this
 |ch+1,s,xs,hs,x,d,n,hc,aZ,hd,hx=>by
  have ea:EvL c (s+1+[Ex.nm x].length) xs hs d n [.nm x] [chn k1 (leaf k0) (ch+1)] n (0+1):=By (GN hx (by lia) (by simp;lia)) C9;have p1:(2:Int)^(ch+1+1)=2*2^(ch+1):=by rw[Int.pow_succ];lia
  have p3:(1:Int)<=2^(ch+1):=by have:=Int.pow_pos (n:=2) (m:=ch+1) (by decide);lia
  have hz:∀h∈[chn k1 (leaf k0) ch],h.sz<=900:=by
   intro h m;rw[tK.mp m,(ES k1 (leaf k0) ch).1,(DQ k0).1]
   lia
  have q:=Nat.pow_pos (a:=2) (n:=ch) (by decide);by_cases hg:0<n
  .obtain⟨i1,i2⟩:=e1 R0 R1 ch (0+1+2) [nn] [chn k1 (leaf k0) ch] nn (d+1) (n-1) (by lia) (by lia) (by lia) lk1;by_cases h1:(2:Int)^(ch+1)-1<=n-1
   .obtain⟨k,hk,ek⟩:=i1 h1;obtain⟨j1,j2⟩:=e1 R0 R1 ch (0+1+2) [nn] [chn k1 (leaf k0) ch] nn (d+1) (n-1-(2^(ch+1)-1)) (by lia) (by lia) (by lia) lk1;constructor
    .intro h;obtain⟨k',fY,ic⟩:=j1 (by lia);have ff:=Lv k0 k2 (ch+1);have q2:(2:Nat)^(ch+1+1)<=2^8:=Nat.pow_le_pow_right (by decide) (by lia);have mk:=SD (m:=k2) (By ek (By ic C9)) rfl (by show fits (full k0 k2 (ch+1))=true;unfold fits;simp;lia) (by lia) (by simp);refine⟨(1+((0+k'+k)+1))+(1+((0+1)+1)),by lia,?_⟩;have:=Nt R1 (ps:=[chn k1 (leaf k0) ch]) (rest:=[]) ea rfl hg (by lia) rfl hz (by simp) (by simp;lia) mk;rw[p1];have e:n-1-(2^(ch+1)-1)-(2^(ch+1)-1)=n-(2*(2:Int)^(ch+1)-1):=by lia
     rwa[e]at this
    .intro h;obtain⟨k',fY,ic⟩:=j2 (by lia);have mk:=PL (m:=k2) (WB ek (LA (es:=[]) ic)) (by simp) (by lia);exact⟨((k'+k)+1)+(1+((0+1)+1)),by lia,Km R1 (ps:=[chn k1 (leaf k0) ch]) (rest:=[]) ea rfl hg (by lia) rfl hz (by simp) (by simp;lia) mk⟩
   .obtain⟨k,hk,ek⟩:=i2 h1;refine⟨λh=>absurd h (by lia),λh=>?_⟩;exact⟨(k+1)+(1+((0+1)+1)),by lia,Km R1 (ps:=[chn k1 (leaf k0) ch]) (rest:=[]) ea rfl hg (by lia) rfl hz (by simp) (by simp;lia) (PL (m:=k2) (LA (es:=[.cl f [.nm nn]]) ek) (by simp) (by lia))⟩
  .exact⟨λh=>absurd h (by lia),λh=>⟨1+((0+1)+1),by lia,HZ ea rfl (by lia) (by lia) (by simp;lia)⟩⟩
theorem e2(hB:t.sz=B/\t.dp=B)(k6:B<=100)(lJ:nn≠kd)(R0:Row c f k0 [kd] (.nm kd))(R1:Row c f k1 [nn,kd] (.mk k1 [.cl f [.nm nn,.nm kd]])):∀(ch s:Nat)(xs:List Str)(hs:List Th)(x y:Str)(d:Nat)(n:Int),ch<=100->s<=50->d<=21 ->
  Cn (xs.map λx=>(.inr x:Key)) (hs.map wt) (.inr x:Key)=some (wt (chn k1 (leaf k0) ch))->Cn (xs.map λx=>(.inr x:Key)) (hs.map wt) (.inr y:Key)=some (wt t) ->
  (((ch:Int)+1<=n/\d+ch<=20/\(ch=0\/ch+B<=40))->∃k,k<=6*ch+5/\Ev c s xs hs d n (.cl f [.nm x,.nm y]) (chn k1 t ch) (n-(ch+1)) k)/\(¬((ch:Int)+1<=n/\d+ch<=20/\(ch=0\/ch+B<=40))->∃k,k<=6*ch+5/\EvN c s xs hs d n (.cl f [.nm x,.nm y]) k)
 |0,s,xs,hs,x,y,d,n,hc,aZ,hd,hx,hy=>by have ea:EvL c (s+1+[Ex.nm x,Ex.nm y].length) xs hs d n [.nm x,.nm y] [leaf k0,t] n (0+1+1):=By (GN hx (by lia) (by simp;lia)) (By (GN hy (by lia) (by simp;lia)) C9);refine⟨λh=>⟨1+(1+((0+1+1)+1)),by lia,?_⟩,λh=>⟨1+((0+1+1)+1),by lia,HZ ea rfl (by lia) (by lia) (by simp;lia)⟩⟩;have:=Nt R0 ea rfl (by lia) (by lia) rfl (by simp) (by simp) (by simp;lia) (GN lk1 (by lia) (by lia));simpa[chn]using this
 |ch+1,s,xs,hs,x,y,d,n,hc,aZ,hd,hx,hy=>by
  have ea:EvL c (s+1+[Ex.nm x,Ex.nm y].length) xs hs d n [.nm x,.nm y] [chn k1 (leaf k0) (ch+1),t] n (0+1+1):=By (GN hx (by lia) (by simp;lia)) (By (GN hy (by lia) (by simp;lia)) C9);by_cases hg:0<n/\d<=20
  .obtain⟨i1,i2⟩:=e2 hB k6 lJ R0 R1 ch (0+1+1) [nn,kd] [chn k1 (leaf k0) ch,t] nn kd (d+1) (n-1) (by lia) (by lia) (by lia) (lk2 lJ).1 (lk2 lJ).2;have hz:∀h∈[chn k1 (leaf k0) ch],h.sz<=900:=by
    intro h m;rw[tK.mp m,(ES k1 (leaf k0) ch).1,(DQ k0).1]
    lia
   have cs:=ES k1 t (ch+1);by_cases hi:((ch:Int)+1<=n-1/\d+1+ch<=20/\(ch=0\/ch+B<=40))
   .obtain⟨k,hk,ek⟩:=i1 hi;have el:EvL c (0+1+1) [nn,kd] [chn k1 (leaf k0) ch,t] (d+1) (n-1) [.cl f [.nm nn,.nm kd]] [chn k1 t ch] (n-1-(ch+1)) (0+k):=By ek C9;by_cases hb:ch+1+B<=40
    .refine⟨λh=>?_,λh=>absurd (show _/\_/\_ from⟨by push_cast;lia,by lia,.inr hb⟩) h⟩;have mk:=SD el rfl (by show fits (chn k1 t (ch+1))=true;unfold fits;simp;lia) (by lia) (by simp);refine⟨(1+((0+k)+1))+(1+((0+1+1)+1)),by lia,?_⟩;have:=Nt R1 ea rfl hg.1 hg.2 rfl hz (by simp) (by simp;lia) mk;have e:n-1-((ch:Int)+1)=n-(((ch+1:Nat):Int)+1):=by push_cast;lia
     rwa[e]at this
    .refine⟨λh=>absurd h.2.2 (by lia),λh=>?_⟩;have mk:=Ug el rfl (by show fits (chn k1 t (ch+1))=false;unfold fits;simp;lia) (by lia) (by simp);exact⟨(1+((0+k)+1))+(1+((0+1+1)+1)),by lia,Km R1 ea rfl hg.1 hg.2 rfl hz (by simp) (by simp;lia) mk⟩
   .obtain⟨k,hk,ek⟩:=i2 hi;refine⟨λh=>absurd h (by push_cast;lia),λh=>?_⟩;exact⟨(k+1)+(1+((0+1+1)+1)),by lia,Km R1 ea rfl hg.1 hg.2 rfl hz (by simp) (by simp;lia) (PL (m:=k1) (LA (es:=[]) ek) (by simp) (by lia))⟩
  .exact⟨λh=>absurd h (by push_cast;lia),λh=>⟨1+((0+1+1)+1),by lia,HZ ea rfl (by lia) (by lia) (by simp;lia)⟩⟩
end
abbrev SF:List Str:=["stock","heads","kinds_by_name","own","lessers"]
theorem QO:(("heads":Str) == "stock")=false/\(("kinds_by_name":Str) == "stock")=false/\(("kinds_by_name":Str) == "heads")=false/\(("own":Str) == "stock")=false/\(("own":Str) == "heads")=false/\(("own":Str) == "kinds_by_name")=false /\
  (("lessers":Str) == "stock")=false/\(("lessers":Str) == "heads")=false/\(("lessers":Str) == "kinds_by_name")=false/\(("lessers":Str) == "own")=false:=by decide +kernel
theorem Kh(h:fo fs=.ok (.t (.ins C gs ts)) fs)(hv:Jq gs ts f=some t):CJ C f fo fs=.ok (.t t) fs:=by unfold CJ;rw[h];show Sg C f (.t (.ins C gs ts)) fs=_;simp only[Sg,if_true,hv];rfl
noncomputable def HN(x:Str):T:=.tup [.str "name",.str x]
structure Sco where
 zY:Addr
 z0:Addr
 K:Kd
 k:Str
 hk:List Key
 hv:List T
 xs:List Str
 own:Str
 ls:List Str
 nk:Nat
noncomputable def Sco.t(s:Sco):T:=.ins s.zY SF [stT s.z0 s.K,.l s.hk s.hv,.l (s.xs.map λx=>(.inr x:Key)) (s.xs.map λ_=>T.str s.k),.str s.own,.lst (s.ls.map HN)]
variable{s:Sco}
theorem PB(h:fo fs=.ok (.t s.t) fs):CJ s.zY "stock" fo fs=.ok (.t (stT s.z0 s.K)) fs:=Kh h (by simp[Jq])
theorem PC(h:fo fs=.ok (.t s.t) fs):CJ s.zY "heads" fo fs=.ok (.t (.l s.hk s.hv)) fs:=Kh h (by simp[Jq,QO])
theorem ZP(h:fo fs=.ok (.t s.t) fs):CJ s.zY "kinds_by_name" fo fs=.ok (.t (.l (s.xs.map λx=>(.inr x:Key)) (s.xs.map λ_=>T.str s.k))) fs:=Kh h (by simp[Jq,QO])
theorem Jbw(h:fo fs=.ok (.t s.t) fs):CJ s.zY "own" fo fs=.ok (.t (.str s.own)) fs:=Kh h (by simp[Jq,QO])
theorem ZO(h:fo fs=.ok (.t s.t) fs):CJ s.zY "lessers" fo fs=.ok (.t (.lst (s.ls.map HN))) fs:=Kh h (by simp[Jq,QO])
structure SOk(s:Sco):Prop where
 W:Well s.K
 one:∀kd∈s.K,kd.1=s.k
 hd:Cn s.hk s.hv (.inr s.own:Key)=some (.tup [.tup (List.replicate s.nk (.str s.k)),.str s.k])
 yy:s.xs.Nodup
def Okx(s:Sco):Nat->Ex->Prop
 |0,_=>False
 |_+1,.nm x=>x∈s.xs
 |n+1,.mk m es=>(∃kd∈s.K,(m,List.replicate es.length s.k)∈kd.2)/\∀e∈es,Okx s n e
 |n+1,.cl f es=>f=s.own/\es.length=s.nk/\(∃x∈s.ls,es[0]?=some (.nm x))/\∀e∈es,Okx s n e
theorem J9(x:Str):∀ls:List Str,TZ (HN x) (ls.map HN)=some (decide (x∈ls))
 | []=>by simp[TZ]
 |y::ls=>by
  have e:eqT 9 (HN y) (HN x)=some (decide (y=x)):=by unfold HN;rw[I0];simp only[Js,LC];by_cases h:y=x<;>simp[h]
  rw[sW,TZ,e,J9 x ls];by_cases h:y=x
  .simp[h]
  .have h2:¬x=y:=λz=>h z.symm
   simp[h,h2]
theorem ninT{fa}{ls:List Str}(h1:fa fs=.ok (.t (HN x)) fs)(h2:fb fs=.ok (.t (.lst (ls.map HN))) fs)(h:x∈ls):asB (Ag Kc fa fb) fs=.ok false fs:=by refine Bs (Aj h1 h2 ?_);unfold Kc;simp only[Cs,ub,J9,h,decide_true];rfl
theorem NO{f}:∀{xs:List Str}{ys:List α}{i:Nat}{x:Str}{y:α},xs.Nodup->xs.length=ys.length->xs[i]?=some x->ys[i]?=some y->Cn (xs.map λx=>(.inr x:Key)) (ys.map f) (.inr x:Key)=some (f y)
 | [],_,i,x,y,_,_,e,_=>by simp at e
 |a::xs,[],i,x,y,_,hl,_,_=>by simp at hl
 |a::xs,b::ys,0,x,y,_,_,e1,e2=>by simp at e1 e2;subst e1 e2;simp[Cn]
 |a::xs,b::ys,i+1,x,y,nd,hl,e1,e2=>by
  simp at e1 e2 hl;have ne:¬a=x:=λz=>(tN.mp nd).1 (z▸(uu e1))
  have:=NO (f:=f) (tN.mp nd).2 hl e1 e2;simp[Cn,ne];simpa using this
theorem Uw(O:SOk s)(h:x∈s.xs):Cn (s.xs.map λx=>(.inr x:Key)) (s.xs.map λ_=>T.str s.k) (.inr x:Key)=some (.str s.k):=by
 obtain⟨i,hi,e⟩:=uV h;have e1:s.xs[i]?=some x:=by rw[sV hi,e]
 exact NO O.yy rfl e1 e1
theorem Cf(O:SOk s)(h:x∈s.xs):B7 s.zY [vl s.t,vl (.str x)]=.ok (.t (.str s.k)) [vl s.t,vl (.str x)]:=by exact(BB (sq (AU (Bs (Aj (Am (Aa rfl)) (ZP (Aa rfl)) (by rw[TY,Uw O h];rfl))) rfl) (AO (Aj (ZP (Aa rfl)) (Am (Aa rfl)) (IV (Uw O h)))))).trans rfl
theorem QK:(["makers_by_kind","parts_by_maker","home_by_maker"]:List Str).any (·==("kinds":Str))=false/\(["makers_by_kind","parts_by_maker","home_by_maker"]:List Str).any (·==("makers":Str))=false/\(["makers_by_kind","parts_by_maker","home_by_maker"]:List Str).any (·==("parts":Str))=false:=by decide +kernel
theorem V5{ps}(O:SOk s)(hk:kd∈s.K)(hr:(m,ps)∈kd.2):Bt s.zY s.z0 [vl s.t,vl (.str "make"),vl (.str m)]=.ok (.t (.tup [.tup (ps.map T.str),.str s.k])) [vl s.t,vl (.str "make"),vl (.str m)]:=by exact(BB (n:=0) (g:=D3 s.zY s.z0) (args:=[vl s.t,vl (.str "make"),vl (.str m)]) (D9 (DU rfl (AO (BS (g:=Ar) (ts:=[.tup (ps.map T.str),.str s.k]) (Ao (Am (Ru (ts:=[.str m]) (PB (Aa rfl)) (EJ QK.2.2) (Ae (Am (Aa rfl)) Au) rfl (LP O.W hk hr))) (Ao (by have:=O.one kd hk;rw[<- this];exact Am (Ru (ts:=[.str m]) (PB (Aa rfl)) (EJ RL) (Ae (Am (Aa rfl)) Au) rfl (UJ O.W hk hr))) Au)) rfl (show 2<=big by decide) rfl))))).trans rfl
theorem V6(O:SOk s):Bt s.zY s.z0 [vl s.t,vl (.str "call"),vl (.str s.own)]=.ok (.t (.tup [.tup (List.replicate s.nk (.str s.k)),.str s.k])) [vl s.t,vl (.str "call"),vl (.str s.own)]:=by have c:asB (Ag (gEq false) (Ab 1) (gc (.str ("make":Str)))) [vl s.t,vl (.str "call"),vl (.str s.own)]=.ok false [vl s.t,vl (.str "call"),vl (.str s.own)]:=rfl;exact(BB (sq (AU c rfl) (sq (AU (Bs (Aj (Am (Aa rfl)) (PC (Aa rfl)) (by rw[TY,O.hd];rfl))) rfl) (AO (Aj (PC (Aa rfl)) (Am (Aa rfl)) (IV O.hd)))))).trans rfl
theorem Xi{f}{j}{y}(h:f fs=.ok (.t (.tup [x,y,z])) aj)(h1:tgN i x aj=some aB)(h2:tgN j y aB=some dY)(h3:tgN k z dY=some ar):Hi f (AW 3 (Af (tgN i) (Af (tgN j) (Af (tgN k) AN)))) fs=.nx ar:=by
 have g:AW 3 (Af (tgN i) (Af (tgN j) (Af (tgN k) AN))) (.tup [x,y,z]) aj=some ar:=by show(Af (tgN i) (Af (tgN j) (Af (tgN k) AN))) [x,y,z] aj=_;simp only[Af,h1,h2,h3,ub];rfl
 unfold Hi;rw[h];simp only[SO.of,g]
theorem Jb2{f}{j}{m}{v}{y}(h:f fs=.ok (.t (.tup [x,y,z,u,v])) aj)(h1:tgN i x aj=some aB)(h2:tgN j y aB=some dY)(h3:tgN k z dY=some dE)(h4:tgN l u dE=some fs5)(h5:tgN m v fs5=some ar):
  Hi f (AW 5 (Af (tgN i) (Af (tgN j) (Af (tgN k) (Af (tgN l) (Af (tgN m) AN)))))) fs=.nx ar:=by
 have g:AW 5 (Af (tgN i) (Af (tgN j) (Af (tgN k) (Af (tgN l) (Af (tgN m) AN))))) (.tup [x,y,z,u,v]) aj=some ar:=by show(Af (tgN i) (Af (tgN j) (Af (tgN k) (Af (tgN l) (Af (tgN m) AN))))) [x,y,z,u,v] aj=_;simp only[Af,h1,h2,h3,h4,h5,ub];rfl
 unfold Hi;rw[h];simp only[SO.of,g]
theorem Z8{f}(h:f fs=.ok false aj):Qn f g fs=.ok false aj:=by unfold Qn;rw[h];rfl
theorem Ut{f}(h:f fs=.ok true aj)(e:g aj=r):Qn f g fs=r:=by unfold Qn;rw[h];exact e
theorem JbW{fa}(h1:fa fs=.ok (.t (.str z)) fs)(h2:fb fs=.ok (.t (.str z)) fs):asB (Ag (gEq true) fa fb) fs=.ok false fs:=by refine Bs (Aj h1 h2 ?_);simp[gEq,plV,okT,show N9 (V.str z) (V.str z)=true from rfl]
theorem Jaj{fa}{m}(h1:fa fs=.ok (.t (.int n)) fs)(h2:fb fs=.ok (.t (.int m)) fs)(h:n=m):asB (Ag (gEq true) fa fb) fs=.ok false fs:=by subst h;refine Bs (Aj h1 h2 ?_);simp[gEq,plV,okT,show N9 (V.int n) (V.int n)=true from rfl]
abbrev kwB(rec:FS->Out Rv):FS->SO:=ifS (asB (Ag (gEq true) (fz (Ai (Ak 2 rec) (Ad (fz (Ab 0)) (Ad (fz (Ab 7)) Ah)))) (Ab 8))) (λ_=>.bad) nxS
theorem OV{k}{x3}:∀(es:List Ex)(y7 y8:Option Sl),Fre y7->Fre y8->(∀e∈es,rec [vl S,vl e.t]=.ok (.t (.str k)) [vl S,vl e.t])->∃z7 z8,DW (AW 2 (Af (tgN 7) (Af (tgN 8) AN))) (kwB rec) (es.map λe=>.tup [e.t,.str k]) [vl S,x1,x2,x3,x4,x5,x6,y7,y8]=.nx [vl S,x1,x2,x3,x4,x5,x6,z7,z8]
 | [],y7,y8,_,_,_=>⟨y7,y8,by simp[DW]⟩
 |e::es,y7,y8,f7,f8,h=>by
  obtain⟨z7,z8,lp⟩:=OV es (vl e.t) (vl (.str k)) AD AD λe m=>h e (sZ _ m)
  refine⟨z7,z8,?_⟩;have b:kwB rec [vl S,x1,x2,x3,x4,x5,x6,vl e.t,vl (.str k)]=.nx [vl S,x1,x2,x3,x4,x5,x6,vl e.t,vl (.str k)] :=
   AU (JbW (Am (BX (Ae (Am (Aa rfl)) (Ae (Am (Aa rfl)) Au)) rfl rfl (h e tZ))) (Aa rfl)) rfl
  rw[sW,DG (DB (by exact tg rfl f7) (by exact tg rfl f8)) b,lp]
theorem JR(k:Str):∀es:List Ex,FL.pairs (es.map Ex.t) (List.replicate es.length (.str k))=es.map λe=>.tup [e.t,.str k]
 | []=>rfl
 |e::es=>by rw[sW,tM,uM,FL.pairs,JR k es];rfl
theorem OU(he:∀e∈es,rec [vl s.t,vl e.t]=.ok (.t (.str s.k)) [vl s.t,vl e.t])
  (ht:Qn (asB (Ag (gEq false) (Ab 2) (gc (.str ("call":Str))))) (Qn (asB (Ag (gEq false) (Ab 3) (CJ s.zY "own" (Ab 0)))) (asB (Ag Kc (Ag AB (Ab 4) (gc (.int 0))) (CJ s.zY "lessers" (Ab 0))))) [vl s.t,x1,vl (.str aH),vl (.str h),vl (.tup (es.map Ex.t)),vl (.tup (List.replicate es.length (.str s.k))),vl (.str s.k),none,none]=.ok false [vl s.t,x1,vl (.str aH),vl (.str h),vl (.tup (es.map Ex.t)),vl (.tup (List.replicate es.length (.str s.k))),vl (.str s.k),none,none]) :
  ∃z7 z8,(Av (ifS (asB (Ag (gEq true) (Ai Bx (Ac (Ab 4) Ah)) (Ai Bx (Ac (Ab 5) Ah)))) (λ_=>.bad) nxS)
  (Av (ifS (Qn (asB (Ag (gEq false) (Ab 2) (gc (.str ("call":Str))))) (Qn (asB (Ag (gEq false) (Ab 3) (CJ s.zY "own" (Ab 0)))) (asB (Ag Kc (Ag AB (Ab 4) (gc (.int 0))) (CJ s.zY "lessers" (Ab 0)))))) (λ_=>.bad) nxS)
  (Av (Dq (itZ (Ab 4) (Ab 5)) (AW 2 (Af (tgN 7) (Af (tgN 8) AN))) (kwB rec))
  (retS (Ab 6))))) [vl s.t,x1,vl (.str aH),vl (.str h),vl (.tup (es.map Ex.t)),vl (.tup (List.replicate es.length (.str s.k))),vl (.str s.k),none,none]=.ret (.t (.str s.k)) [vl s.t,x1,vl (.str aH),vl (.str h),vl (.tup (es.map Ex.t)),vl (.tup (List.replicate es.length (.str s.k))),vl (.str s.k),z7,z8]:=by
 obtain⟨z7,z8,lp⟩:=OV (x6:=vl (.str s.k)) es none none Aq Aq he;refine⟨z7,z8,?_⟩;have hz:itZ (Ab 4) (Ab 5) [vl s.t,x1,vl (.str aH),vl (.str h),vl (.tup (es.map Ex.t)),vl (.tup (List.replicate es.length (.str s.k))),vl (.str s.k),none,none]=.ok (FL.pairs (es.map Ex.t) (List.replicate es.length (.str s.k))) [vl s.t,x1,vl (.str aH),vl (.str h),vl (.tup (es.map Ex.t)),vl (.tup (List.replicate es.length (.str s.k))),vl (.str s.k),none,none]:=rfl;refine sq (AU (Jaj (BO (f:=Ab 4) (fs:=[vl s.t,x1,vl (.str aH),vl (.str h),vl (.tup (es.map Ex.t)),vl (.tup (List.replicate es.length (.str s.k))),vl (.str s.k),none,none]) (ts:=es.map Ex.t) (Aa rfl) (.inr rfl)) (BO (f:=Ab 5) (fs:=[vl s.t,x1,vl (.str aH),vl (.str h),vl (.tup (es.map Ex.t)),vl (.tup (List.replicate es.length (.str s.k))),vl (.str s.k),none,none]) (ts:=List.replicate es.length (.str s.k)) (Aa rfl) (.inr rfl)) (by simp)) rfl) (sq (AU ht rfl) (sq ?_ (AO (Aa rfl))));unfold Dq;rw[hz,JR];exact lp
theorem Bd(O:SOk s):∀(n:Nat)(e:Ex),Okx s n e->AQ s.zY s.z0 n [vl s.t,vl e.t]=.ok (.t (.str s.k)) [vl s.t,vl e.t]
 |0,e,h=>h.elim
 |n+1,.nm x,h=>by have et:(Ex.nm x).t=.tup [.str "name",.str x]:=rfl;rw[et];have c:asB (Ag (gEq false) (Ag AB (Ab 1) (gc (.int 0))) (gc (.str ("name":Str)))) [vl s.t,vl (.tup [.str "name",.str x]),none,none,none,none,none,none,none]=.ok true [vl s.t,vl (.tup [.str "name",.str x]),none,none,none,none,none,none,none]:=rfl;exact(BB (D9 (DU c (AO (BX (Ae (Am (Aa rfl)) (Ae (ix (Aa rfl) rfl) Au)) rfl rfl (Cf O h)))))).trans rfl
 |n+1,.mk m es,h=>by
  obtain⟨⟨kd,hk,hr⟩,ha⟩:=h;have et:(Ex.mk m es).t=.tup [.str "make",.str m,.tup (es.map Ex.t)]:=by simp[Ex.t,Ex.Cr]
  rw[et];have c:asB (Ag (gEq false) (Ag AB (Ab 1) (gc (.int 0))) (gc (.str ("name":Str)))) [vl s.t,vl (.tup [.str "make",.str m,.tup (es.map Ex.t)]),none,none,none,none,none,none,none]=.ok false [vl s.t,vl (.tup [.str "make",.str m,.tup (es.map Ex.t)]),none,none,none,none,none,none,none]:=rfl;have hm:=V5 O hk hr;rw[List.map_replicate]at hm;obtain⟨z7,z8,tl⟩:=OU (es:=es) (λe m=>Bd O n e (ha e m)) (Z8 (by rw[GO (x:="make") (y:="call") (Aa rfl) Ay];simp[Ne.symm GI.2.2]));exact(BB (n:=7) (g:=Cz s.zY s.z0 (AQ s.zY s.z0 n)) (args:=[vl s.t,vl (.tup [.str "make",.str m,.tup (es.map Ex.t)])]) (sq (AU c rfl) (sq (Xi (Am (Aa rfl)) rfl rfl rfl) (sq (Z4 (Am (BX (rs:=[.t s.t,.t (.str "make"),.t (.str m)]) (Ae (Am (Aa rfl)) (Ae (Am (Aa rfl)) (Ae (Am (Aa rfl)) Au))) rfl rfl hm)) rfl rfl) tl)))).trans rfl
 |n+1,.cl f es,h=>by
  obtain⟨rfl,hl,⟨x,hx,e0⟩,ha⟩:=h;have et:(Ex.cl s.own es).t=.tup [.str "call",.str s.own,.tup (es.map Ex.t)]:=by simp[Ex.t,Ex.Cr]
  rw[et];have hm:=V6 O;rw[<- hl]at hm;obtain⟨z7,z8,tl⟩:=OU (s:=s) (rec:=AQ s.zY s.z0 n) (aH:="call") (h:=s.own) (x1:=vl (.tup [.str "call",.str s.own,.tup (es.map Ex.t)])) (es:=es) (λe m=>Bd O n e (ha e m)) (Ut ((GO (x:="call") (y:="call") (Aa rfl) Ay).trans (by rw[tQ rfl])) (Ut ((GO (x:=s.own) (y:=s.own) (Aa rfl) (Jbw (Aa rfl))).trans (by rw[tQ rfl])) (ninT (ix (i:=0) (Aa rfl) (by rw[t7,e0];simp[Ex.t,HN])) (ZO (Aa rfl)) hx)));exact(BB (n:=7) (g:=Cz s.zY s.z0 (AQ s.zY s.z0 n)) (args:=[vl s.t,vl (.tup [.str "call",.str s.own,.tup (es.map Ex.t)])]) (sq (AU rfl rfl) (sq (Xi (Am (Aa rfl)) rfl rfl rfl) (sq (Z4 (Am (BX (rs:=[.t s.t,.t (.str "call"),.t (.str s.own)]) (Ae (Am (Aa rfl)) (Ae (Am (Aa rfl)) (Ae (Am (Aa rfl)) Au))) rfl rfl hm)) rfl rfl) tl)))).trans rfl
abbrev Tg(x:Str):Prop:=A0 [vl (.str x)]=.ok (.t (.o true)) [vl (.str x)]
abbrev cnB:FS->SO:=(Av (ifS (Fq (Hh (fz (Ai (Ak 1 A0) (Ad (fz (Ab 2)) Ah))))) (λ_=>.bad) nxS)
  (Av (ifS (asB (Ag (DK false) (fz (Ab 2)) (Ab 1))) (λ_=>.bad) nxS)
  (Dg (gc (.o true)) (Ab 1) (fz (Ab 2)))))
theorem P2{x0}:∀(xs:List Str)(ks:List Str)(vs:List T)(y2:Option Sl),Fre y2->(ks++xs).Nodup->(∀x∈xs,Tg x)->ks.length+xs.length<=1000->∃z1 z2,DW (tgN 2) cnB (xs.map T.str) [x0,some (.own (.l (ks.map λx=>(.inr x:Key)) vs)),y2]=.nx [x0,z1,z2]
 | [],ks,vs,y2,_,_,_,_=>⟨some (.own (.l (ks.map λx=>(.inr x:Key)) vs)),y2,by simp only[uH,DW]⟩
 |x::xs,ks,vs,y2,f2,nd,hn,hl=>by
  rw[tM]at hl;obtain⟨z1,z2,e⟩:=P2 xs (ks++[x]) (vs++[.o true]) (vl (.str x)) AD (by simpa using nd) (λy m=>hn y (sZ _ m)) (by rw[t5];simp;lia);refine⟨z1,z2,?_⟩;have b9:(.inr x:Key)∉ks.map λx=>(.inr x:Key):=YW (λm=>(sT.mp nd).2.2 x m x (by simp) rfl)
  have b:cnB [x0,some (.own (.l (ks.map λx=>(.inr x:Key)) vs)),vl (.str x)]=.nx [x0,some (.own (.l ((ks++[x]).map λx=>(.inr x:Key)) (vs++[.o true]))),vl (.str x)]:=by refine sq (Ka (CM (Co (IX (BX (Ae (Am (Aa rfl)) Au) rfl rfl (hn x tZ))))) rfl) ?_;refine sq (AU (Bs (Jj (Am (Aa rfl)) (Dv rfl) (by rw[V3 (Jai rfl),DL b9];rfl))) rfl) ?_;exact JI rfl Ay (Am (Aa rfl)) (any_false b9) (by show _<1000000;rw[sU];lia) (by rw[tL];rfl)
  rw[sW,DG (tg rfl f2) b,e]
theorem CP(nd:xs.Nodup)(hn:∀x∈xs,Tg x)(hl:xs.length<=1000):Cy [vl (.lst (xs.map T.str))]=.ok (.t .v) [vl (.lst (xs.map T.str))]:=by
 obtain⟨z1,z2,e⟩:=P2 xs [] [] none Aq (by simpa using nd) hn (by simpa using hl);have all:Dz [vl (.lst (xs.map T.str)),none,none]=.nx [vl (.lst (xs.map T.str)),z1,z2]:=by refine sq (show AL 1 EK _=.nx [vl (.lst (xs.map T.str)),some (.own (.l [] [])),none]from rfl) ?_;unfold Dq;rw[GA (Am (Aa rfl))];exact e
 show Bo 2 Dz _=_;unfold Bo;rw[show [vl (.lst (xs.map T.str))]++List.replicate 2 none=[vl (.lst (xs.map T.str)),none,none]from rfl,all];rfl
theorem Ja7(ho:fo fs=.ok (.t x) aj)(hi:DT C m aj (.t x)=true)(ha:fa aj=.ok (ts.map Rv.t) aB)(hp:ts.length+1=p)(hf:Fn ((x::ts).map vl)=.ok (.nw o) τ):BH C m p Fn fo fa fs=.ok (.nw o) aB:=by unfold BH;rw[ho];show(if DT C m aj (.t x)=true then _ else _)=_;rw[if_pos hi,ha];show Ak p Fn ((x::ts).map Rv.t) aB=_;have e1:=RM (x::ts);exact Qb (by simpa using hp) (by rw[e1];exact J3 _) (by rw[e1,O8];exact hf)
theorem Gx{f}(h:f fs=.ok (.t (.tup ts)) fs):fz (Ai Cu (Ac f Ah)) fs=.ok (.t (.lst ts)) fs:=Fc (o:=.lst ts) (BU (Ao h Au) rfl)
variable{z0:Addr}
section
variable{K:Kd}(W:Well K)
include W
theorem Lh{f}(m:kd∈K)(hi:fs[i]?=some (vl (stT z0 K)))(hf:f fs=.ok (.t (.str kd.1)) fs):fz (BH z0 "makers" 2 (Az z0) (fz (Ab i)) (Ad f Ah)) fs=.ok (.t (.lst ((kd.2.map (·.1)).map T.str))) fs :=
 Fc (Ja7 (ts:=[.str kd.1]) (Am (Aa hi)) (EJ QK.2.1) (Ae hf Au) rfl (N6 W m))
omit W in
theorem HQ(hi:fs[i]?=some (vl (stT z0 K))):fz (Hv z0 "kinds" 1 (AR z0) (fz (Ab i)) Ah) fs=.ok (.t (.lst ((K.map (·.1)).map T.str))) fs :=
 Fc (Rx (Am (Aa hi)) (EJ QK.1) QL)
theorem EI(hx:x∉mks K):Dj z0 [vl (stT z0 K),vl (.str x)]=.ok (.t (.o false)) [vl (stT z0 K),vl (.str x)]:=by
 obtain⟨y,_,e⟩:=EO (fe:=Ag (DK false) (fz (Ab 1)) (fz (BH z0 "makers" 2 (Az z0) (fz (Ab 2)) (Ad (fz (Ab 0)) Ah)))) (q:=λ_=>T.o false) (rest:=[vl (.str x),vl (stT z0 K)]) K none [] Aq (λkd m=>by
  refine Aj (Am (Aa (t:=.str x) rfl)) (Lh W m rfl (Am (Aa rfl))) ?_;rw[Pa];have:x∉kd.2.map (·.1):=λh=>hx (vb.mpr ⟨kd,m,h⟩)
  simp only[this,decide_false];rfl) (by show _<=1000000;have:=W.hi;simp;lia)
 have e3:=DY (src:=[none,some 1,some 0]) (fi:=itU (fz (Hv z0 "kinds" 1 (AR z0) (fz (Ab 0)) Ah))) (fs:=[vl (stT z0 K),vl (.str x)]) (ts:=K.map λkd=>T.str kd.1) (by have:=HQ (z0:=z0) (K:=K) (i:=0) (fs:=[vl (stT z0 K),vl (.str x)]) rfl;rw[ua]at this;exact GA this) ⟨tJ,rfl⟩ e (AS rfl);rw[ue]at e3;exact(BB (n:=0) (g:=Ii z0) (args:=[vl (stT z0 K),vl (.str x)]) (AO (by
  refine BU (Ao e3 Au) ?_;have eb:Dn (K.map λ_=>T.o false)=some (K.map λ_=>false):=by have:=Hf (K.map λ_=>false);rwa[ua]at this
  have en:(K.map λ_=>false).any id=false:=by simp
  simp only[Zc,Cs,ub,eb,en];rfl))).trans rfl
structure Fd where
 nm:Str
 zX:List Str
 rows:List (Str×List Str×Ex)
noncomputable def Fd.kT(k:Str)(g:Fd):T:=.tup (List.replicate (1+g.zX.length) (.str k))
noncomputable def rwT(r:Str×List Str×Ex):T:=.tup [.tup (r.2.1.map T.str),r.2.2.t]
noncomputable def Fd.t(k:Str)(g:Fd):T:=.tup [.str g.nm,g.kT k,.str k,.tup (g.zX.map T.str),.tup (g.rows.map rwT)]
theorem Dm{g:Fd}(cZ:kd∈K)(hn:Tg g.nm)(qJ:(.inr g.nm:Key)∉hk)(jS:g.nm∉mks K)(ho:g.zX.length<=2)(hr:g.rows.length=kd.2.length):
  Cg z0 [vl (stT z0 K),vl (.l hk hv),vl (g.t kd.1)]=.ok (.t .v) [vl (stT z0 K),vl (.l hk hv),vl (g.t kd.1)]:=by
 generalize hF:(λx8:Option Sl=>[vl (stT z0 K),vl (.l hk hv),vl (g.t kd.1),vl (.str g.nm),vl (g.kT kd.1),vl (.str kd.1),vl (.tup (g.zX.map T.str)),vl (.tup (g.rows.map rwT)),x8])=F;have F0:∀x,(F x)[0]?=some (vl (stT z0 K)):=λx=>by subst hF;rfl
 have F3:∀x,(F x)[3]?=some (vl (.str g.nm)):=λx=>by subst hF;rfl
 have F4:∀x,(F x)[4]?=some (vl (g.kT kd.1)):=λx=>by subst hF;rfl
 have F6:∀x,(F x)[6]?=some (vl (.tup (g.zX.map T.str))):=λx=>by subst hF;rfl
 have F7:∀x,(F x)[7]?=some (vl (.tup (g.rows.map rwT))):=λx=>by subst hF;rfl
 have F8:∀x,(F x)[8]?=some x:=λx=>by subst hF;rfl
 have Fs:∀x y,(F x).set 8 y=F y:=λx y=>by subst hF;rfl
 have ib:Hi (fz (Ab 2)) (AW 5 (Af (tgN 3) (Af (tgN 4) (Af (tgN 5) (Af (tgN 6) (Af (tgN 7) AN)))))) [vl (stT z0 K),vl (.l hk hv),vl (g.t kd.1),none,none,none,none,none,none]=.nx (F none):=by subst hF;exact rfl
 have c2:∀x,orT (asB (Ag (DK false) (fz (Ab 3)) (Ab 1))) (Hh (fz (Ai (Ak 2 (Dj z0)) (Ad (fz (Ab 0)) (Ad (fz (Ab 3)) Ah))))) (F x)=.ok false (F x):=λx =>Yn (Bs (Aj (Am (Aa (F3 x))) (Aa (by subst hF;rfl)) (by rw[TY,DL qJ];rfl))) (Co (Am (BX (Ae (Am (Aa (F0 x))) (Ae (Am (Aa (F3 x))) Au)) rfl rfl (EI W jS))))
 have l4:∀x,Ai Bx (Ac (Ab 4) Ah) (F x)=.ok (.t (.int ((1+g.zX.length:Nat):Int))) (F x):=λx=>by have:=BO (Aa (F4 x)) (.inr rfl);rwa[List.length_replicate]at this
 have hx:∀ts:List T,(∀t∈ts,t=T.str kd.1)->∀x,Fre x->∃y,DW (tgN 8) (ifS (asB (Ag (DK true) (fz (Ab 8)) (fz (Hv z0 "kinds" 1 (AR z0) (fz (Ab 0)) Ah)))) (λ_=>.bad) nxS) ts (F x)=.nx (F y):=by
  intro ts
  induction ts with
  |nil=>exact λ_ x _=>⟨x,rfl⟩
  |cons t ts ih =>
   intro h x fx;obtain⟨y,e⟩:=ih (λt m=>h t (sZ _ m)) (vl (.str kd.1)) AD;refine⟨y,?_⟩;have bb:ifS (asB (Ag (DK true) (fz (Ab 8)) (fz (Hv z0 "kinds" 1 (AR z0) (fz (Ab 0)) Ah)))) (λ_=>.bad) nxS (F (vl (.str kd.1)))=.nx (F (vl (.str kd.1))) :=
    AU (Bs (Aj (Am (Aa (F8 _))) (HQ (F0 _)) (by rw[Pa];simp only[show kd.1∈K.map (·.1)from t8.mpr ⟨kd,cZ,rfl⟩,decide_true];rfl))) rfl
   rw[h t tZ,DG ((tg (F8 x) fx).trans (by rw[Fs])) bb,e]
 obtain⟨y,lp⟩:=hx (List.replicate (1+g.zX.length) (T.str kd.1)++[T.str kd.1]) (λt m=>by
  rcases tE.mp m with m|m
  .exact(List.mem_replicate.mp m).2
  .simpa using m) none Aq
 have s5:Dq (itU (fz (Ag Aw (fz (Ai Cu (Ac (Ab 4) Ah))) (An Cw (Ac (fz (Ab 5)) Ah))))) (tgN 8) (ifS (asB (Ag (DK true) (fz (Ab 8)) (fz (Hv z0 "kinds" 1 (AR z0) (fz (Ab 0)) Ah)))) (λ_=>.bad) nxS) (F none)=.nx (F y):=by unfold Dq;rw[GA (GW (Gx (Aa (F4 none))) (FX (Ao (Am (Aa (by subst hF;rfl))) Au) rfl (show 1<=big by decide)) (by show _<=1000000;simp;lia))];exact lp
 have c6:asB (Ag (gEq true) (Ai Bx (Ac (Ab 6) Ah)) (Ag Di (Ai Bx (Ac (Ab 4) Ah)) (gc (.int 1)))) (F y)=.ok false (F y) :=
  Jaj (by
  have:=BO (Aa (F6 y)) (.inr rfl);rwa[sU]at this) (Aj (l4 y) Ay (by rw[HW,show((1+g.zX.length:Nat):Int)-1=(g.zX.length:Int) by push_cast;lia])) rfl
 have l8:Ai Bx (Ac (fz (BH z0 "makers" 2 (Az z0) (fz (Ab 0)) (Ad (Ag AB (Ab 4) (gc (.int 0))) Ah))) Ah) (F y)=.ok (.t (.int (kd.2.length:Int))) (F y):=by have:=BO (Lh W cZ (F0 y) (ix (i:=0) (ts:=List.replicate (1+g.zX.length) (.str kd.1)) (Aa (F4 y)) (by rw[uO];simp))) (.inl rfl);rwa[sU,sU]at this
 have all:D4 z0 [vl (stT z0 K),vl (.l hk hv),vl (g.t kd.1),none,none,none,none,none,none]=.nx (F y) :=
  sq ib (sq (AU (CM (Co (Am (BX (Ae (Am (Aa (F3 _))) Au) rfl rfl hn)))) rfl) (sq (AU (c2 _) rfl) (sq (AU (Jf Ay (l4 _) Ay (by lia) (by lia)) rfl) (sq s5 (sq (AU c6 rfl) (AU (Jaj (by
  have:=BO (ts:=g.rows.map rwT) (Aa (F7 y)) (.inr rfl);rwa[sU,hr]at this) l8 rfl) rfl))))))
 show Bo 6 (D4 z0) _=_;unfold Bo;rw[show [vl (stT z0 K),vl (.l hk hv),vl (g.t kd.1)]++List.replicate 6 none=[vl (stT z0 K),vl (.l hk hv),vl (g.t kd.1),none,none,none,none,none,none]from rfl,all];subst hF;rfl
end
theorem Kw{p}{rest}:∀(xs:List α)(x:Option Sl)(ay:List T),Fre x->(∀a∈xs,ft (vl (p a)::rest)=.ok true (vl (p a)::rest))->(∀a∈xs,fe (vl (p a)::rest)=.ok (.t (q a)) (vl (p a)::rest))->ay.length+xs.length<=big ->
  ∃y,Fre y/\Dc (tgN 0) ft fe (xs.map p) (x::rest) ay=some (ay++xs.map q,y::rest)
 | [],x,ay,hx,_,_,_=>⟨x,hx,by simp[Dc]⟩
 |a::xs,x,ay,hx,ht,h,hl=>by
  obtain⟨y,hy,e⟩:=Kw xs (vl (p a)) (ay++[q a]) AD (λb m=>ht b (sZ _ m)) (λb m=>h b (sZ _ m)) (by simp at hl ⊢;lia);refine⟨y,hy,?_⟩;have h1:tgN 0 (p a) (x::rest)=some (vl (p a)::rest):=tg rfl hx;have h3:ay.length<big:=by simp at hl;lia
  simp only[sW,Dc,h1,ht a tZ,h a tZ,if_pos h3,e];simp
theorem MU:BK s.zY [some (.bor (.ins s.zY [] [])),vl (stT s.z0 s.K),vl (.l s.hk s.hv),vl (.l (s.xs.map λx=>(.inr x:Key)) (s.xs.map λ_=>T.str s.k)),vl (.str s.own),vl (.lst (s.ls.map HN))] =
  .ok (.t .v) [some (.bor (.ins s.zY SF [.val (stT s.z0 s.K),.val (.l s.hk s.hv),.val (.l (s.xs.map λx=>(.inr x:Key)) (s.xs.map λ_=>T.str s.k)),.val (.str s.own),.val (.lst (s.ls.map HN))])),vl (stT s.z0 s.K),vl (.l s.hk s.hv),vl (.l (s.xs.map λx=>(.inr x:Key)) (s.xs.map λ_=>T.str s.k)),vl (.str s.own),vl (.lst (s.ls.map HN))]:=by
 have h1:("stock":Str)≠"heads"/\("stock":Str)≠"kinds_by_name"/\("stock":Str)≠"own"/\("stock":Str)≠"lessers"/\("heads":Str)≠"kinds_by_name"/\("heads":Str)≠"own"/\("heads":Str)≠"lessers"/\("kinds_by_name":Str)≠"own"/\("kinds_by_name":Str)≠"lessers"/\("own":Str)≠"lessers":=by decide +kernel
 generalize ea:stT s.z0 s.K=A;generalize eb:T.l s.hk s.hv=B;generalize ec:T.l (s.xs.map λx=>(.inr x:Key)) (s.xs.map λ_=>T.str s.k)=D;generalize ed:T.str s.own=E;generalize ee:T.lst (s.ls.map HN)=F;have all:D5 s.zY [some (.bor (.ins s.zY [] [])),vl A,vl B,vl D,vl E,vl F]=.nx [some (.bor (.ins s.zY SF [.val A,.val B,.val D,.val E,.val F])),vl A,vl B,vl D,vl E,vl F]:=by refine sq (T9 (Am (Aa rfl)) rfl (by simp) rfl rfl) ?_;refine sq (T9 (dm:=["stock","heads"]) (cm:=[.val A,.val B]) (Am (Aa rfl)) rfl (by simp) (by simp[C7,h1]) rfl) ?_;refine sq (T9 (C:=s.zY) (gs:=["stock","heads"]) (os:=[.val A,.val B]) (dm:=["stock","heads","kinds_by_name"]) (cm:=[.val A,.val B,.val D]) (Am (Aa rfl)) rfl (by simp) (by simp[C7,h1]) rfl) ?_;refine sq (T9 (C:=s.zY) (gs:=["stock","heads","kinds_by_name"]) (os:=[.val A,.val B,.val D]) (dm:=["stock","heads","kinds_by_name","own"]) (cm:=[.val A,.val B,.val D,.val E]) (Am (Aa rfl)) rfl (by simp) (by simp[C7,h1]) rfl) ?_;exact T9 (C:=s.zY) (gs:=["stock","heads","kinds_by_name","own"]) (os:=[.val A,.val B,.val D,.val E]) (dm:=SF) (cm:=[.val A,.val B,.val D,.val E,.val F]) (Am (Aa rfl)) rfl (by simp) (by simp[C7,h1]) rfl
 show Bo 0 (D5 s.zY) _=_;unfold Bo;rw[show [some (Sl.bor (.ins s.zY [] [])),vl A,vl B,vl D,vl E,vl F]++List.replicate 0 none=[some (.bor (.ins s.zY [] [])),vl A,vl B,vl D,vl E,vl F]from rfl,all];rfl
variable{zY:Addr}{g:Fd}{hk:List Key}{hv:List T}
section
variable{K:Kd}{kd:Str×List (Str×List Str)}
abbrev sco(zY z0:Addr)(K:Kd)(k:Str)(hk:List Key)(hv:List T)(g:Fd)(ys:List Str):Sco:=⟨zY,z0,K,k,hk,hv,ys++g.zX,g.nm,ys,1+g.zX.length⟩
theorem DZ(O:SOk (sco zY z0 K kd.1 hk hv g ys))(cZ:kd∈K)(hm:(m,List.replicate ys.length kd.1)∈kd.2)(hn:∀x∈ys++g.zX,Tg x)(hl:ys.length+g.zX.length<=100)(hb:Okx (sco zY z0 K kd.1 hk hv g ys) 8 body):
  B1 zY z0 [vl (stT z0 K),vl (.l hk hv),vl (g.t kd.1),vl (.str m),vl (rwT (m,ys,body))]=.ok (.t .v) [vl (stT z0 K),vl (.l hk hv),vl (g.t kd.1),vl (.str m),vl (rwT (m,ys,body))]:=by
 generalize hF:(λrY rZ r8:Option Sl=>[vl (stT z0 K),vl (.l hk hv),vl (g.t kd.1),vl (.str m),vl (rwT (m,ys,body)),vl (.str g.nm),vl (g.kT kd.1),vl (.str kd.1),vl (.tup (g.zX.map T.str)),vl (.tup (g.rows.map rwT)),vl (.tup (ys.map T.str)),vl body.t,rY,rZ,r8])=F;have F0:∀x y z,(F x y z)[0]?=some (vl (stT z0 K)):=λx y z=>by subst hF;rfl
 have F1:∀x y z,(F x y z)[1]?=some (vl (.l hk hv)):=λx y z=>by subst hF;rfl
 have F5:∀x y z,(F x y z)[5]?=some (vl (.str g.nm)):=λx y z=>by subst hF;rfl
 have F6:∀x y z,(F x y z)[6]?=some (vl (g.kT kd.1)):=λx y z=>by subst hF;rfl
 have kL:∀x y z,(F x y z)[10]?=some (vl (.tup (ys.map T.str))):=λx y z=>by subst hF;rfl
 have kM:∀x y z,(F x y z)[12]?=some x:=λx y z=>by subst hF;rfl
 have kl:∀x y z,(F x y z)[13]?=some y:=λx y z=>by subst hF;rfl
 have mG:∀x y z,(F x y z)[14]?=some z:=λx y z=>by subst hF;rfl
 have oV:∀x y z u,(F x y z).set 12 u=F u y z:=λx y z u=>by subst hF;rfl
 have oW:∀x y z u,(F x y z).set 13 u=F x u z:=λx y z u=>by subst hF;rfl
 have oX:∀x y z u,(F x y z).set 14 u=F x y u:=λx y z u=>by subst hF;rfl
 have L:∀x y z,(F x y z).length=15:=λx y z=>by subst hF;rfl
 let P:T:=.tup (List.replicate ys.length (.str kd.1))
 have rS:AL 12 (fz (BH z0 "parts" 2 (Bk z0) (fz (Ab 0)) (Ad (fz (Ab 3)) Ah))) (F none none none)=.nx (F (vl P) none none):=by have st:=LP (C:=z0) (hs:=IS K) O.W cZ hm;rw[List.map_replicate]at st;exact AI (Am (Ru (ts:=[.str m]) (Am (Aa (F0 _ _ _))) (EJ QK.2.2) (Ae (Am (Aa (by subst hF;rfl))) Au) rfl st)) ((Bn (kM _ _ _) Aq).trans (by rw[oV]))
 have nl:∀y z,fz (Ag Aw (fz (Ai Cu (Ac (Ab 10) Ah))) (fz (Ai Cu (Ac (Ab 8) Ah)))) (F (vl P) y z)=.ok (.t (.lst ((ys++g.zX).map T.str))) (F (vl P) y z):=λy z=>by rw[tL];exact GW (Gx (Aa (kL _ _ _))) (Gx (Aa (by subst hF;rfl))) (by show _<=1000000;simp;lia)
 let D:T:=.l ((ys++g.zX).map λx=>(.inr x:Key)) ((ys++g.zX).map λ_=>T.str kd.1)
 have last:asB (Ag (gEq true) (fz (Ai (Ak 2 (AQ zY z0 8)) (Ad (fz (Ai (E6 zY 6 (BK zY)) (Ad (fz (Ab 0)) (Ad (fz (Ab 1)) (Ad (fz (Ab 13)) (Ad (fz (Ab 5)) (Ad (fz (Ab 14)) Ah))))))) (Ad (fz (Ab 11)) Ah)))) (Ab 7)) (F (vl P) (vl D) (vl (.lst (ys.map HN))))=.ok false (F (vl P) (vl D) (vl (.lst (ys.map HN)))) :=
  JbW (Am (BX (rs:=[.t (sco zY z0 K kd.1 hk hv g ys).t,.t body.t]) (Ae (by
  have mk:=IM (C:=zY) (p:=6) (Fn:=BK zY) (rs:=[.t (stT z0 K),.t (.l hk hv),.t D,.t (.str g.nm),.t (.lst (ys.map HN))]) (Ae (Am (Aa (F0 (vl P) (vl D) (vl (.lst (ys.map HN)))))) (Ae (Am (Aa (F1 _ _ _))) (Ae (Am (Aa (kl _ _ _))) (Ae (Am (Aa (F5 _ _ _))) (Ae (Am (Aa (mG _ _ _))) Au))))) rfl rfl (MU (s:=sco zY z0 K kd.1 hk hv g ys));have:=Fc mk;exact this) (Ae (Am (Aa (by subst hF;rfl))) Au)) rfl rfl (Bd O 8 body hb))) (Aa (by subst hF;rfl))
 have all:Ew zY z0 [vl (stT z0 K),vl (.l hk hv),vl (g.t kd.1),vl (.str m),vl (rwT (m,ys,body)),none,none,none,none,none,none,none,none,none,none]=.nx (F (vl P) (vl D) (vl (.lst (ys.map HN)))):=by
  refine sq (Jb2 (Am (Aa rfl)) rfl rfl rfl rfl rfl) (sq (ar:=F none none none) (Z4 (x:=.tup (ys.map T.str)) (y:=body.t) (Am (Aa rfl)) rfl (by subst hF;rfl)) ?_);exact sq rS (sq (AU (Jaj (by
  have:=BO (Aa (kL (vl P) none none)) (.inr rfl);rwa[sU]at this) (by
  have:=BO (ts:=List.replicate ys.length (.str kd.1)) (Aa (kM (vl P) none none)) (.inr rfl);rwa[List.length_replicate]at this) rfl) rfl) (sq (Dy (BX (rs:=[.t (.lst ((ys++g.zX).map T.str))]) (Ae (nl none none) Au) rfl rfl (CP O.yy hn (by simp;lia)))) (sq (by
  have k1:slF (Ab 6) (C5 (gc (.int 1))) noP (F (vl P) none none)=.ok (.t (.tup (List.replicate g.zX.length (.str kd.1)))) (F (vl P) none none):=by unfold slF;rw[Aa (F6 _ _ _)];have:=Kt (xs:=List.replicate (1+g.zX.length) (T.str kd.1)) (v:=1) (by decide) (by simp);rw[List.drop_replicate,show 1+g.zX.length-(1:Int).toNat=g.zX.length by simp]at this;show Xe (.t (g.kT kd.1)) (some 1) none (F (vl P) none none)=_;unfold Fd.kT;simp only[Xe,Cs,this];rfl
  have k2:fz (Ag Aw (fz (Ai Cu (Ac (Ab 12) Ah))) (fz (Ai Cu (Ac (slF (Ab 6) (C5 (gc (.int 1))) noP) Ah)))) (F (vl P) none none)=.ok (.t (.lst ((ys++g.zX).map λ_=>T.str kd.1))) (F (vl P) none none):=by have:=GW (Gx (Aa (kM (vl P) none none))) (Gx k1) (by show _<=1000000;simp;lia);rw[tL,List.map_const',List.map_const'];exact this
  refine AI (t:=D) (Fc (o:=.l ((ys++g.zX).map λx=>(.inr x:Key)) ((ys++g.zX).map λ_=>T.str kd.1)) ?_) ((Bn (kl _ _ _) Aq).trans (by rw[oW]));unfold Ny;rw[Ao (nl none none) (Ao k2 Au)];simp only[Out.bind,QQ,keys_map];rw[if_pos ⟨Dh O.yy,by rw[sU,sU]⟩]) (sq (by
  obtain⟨y,_,e⟩:=Kw (ft:=asB (Ag (gEq false) (Ag AB (Ab 1) (fz (Ab 0))) (Ag AB (Ab 2) (gc (.int 0))))) (fe:=An Ar (Ac (gc (.str ("name":Str))) (Ac (fz (Ab 0)) Ah))) (p:=T.str) (q:=HN) (rest:=[vl D,vl (g.kT kd.1)]) ys none [] Aq (λx mx=>by refine(GO (x:=kd.1) (y:=kd.1) (Aj (Aa rfl) (Am (Aa rfl)) (IV (Uw O (x:=x) (tH _ mx)))) (ix (i:=0) (ts:=List.replicate (1+g.zX.length) (.str kd.1)) (Aa rfl) (by rw[uO];simp))).trans ?_;rw[tQ rfl]) (λx mx=>BS (g:=Ar) (ts:=[.str "name",.str x]) (Ao Ay (Ao (Am (Aa rfl)) Au)) rfl (show 2<=big by decide) rfl) (by show _<=1000000;simp;lia);have lz:B0 (F (vl P) (vl D) none) ([none,some 13,some 6].map λo=>o.elim Ini.no Ini.slot)=[none,vl D,vl (g.kT kd.1)]:=by show [none,V2 _ (.slot 13),V2 _ (.slot 6)]=_;simp only[V2,kl,F6]
  have iw:C8 (F (vl P) (vl D) none) ([none,some 13,some 6].map λo=>o.elim Ini.no Ini.slot)=[]:=by
   have h1:FL.AH (F (vl P) (vl D) none) 13=none:=by unfold FL.AH;rw[kl]
   have h2:FL.AH (F (vl P) (vl D) none) 6=none:=by unfold FL.AH;rw[F6]
   unfold C8;show List.filterMap (BN _) [.no,.slot 13,.slot 6]=[];simp[List.filterMap,BN,h1,h2]
  have e3:=DY (src:=[none,some 13,some 6]) (fi:=itU (fz (Ab 10))) (fs:=F (vl P) (vl D) none) (ts:=ys.map T.str) (O3 (Am (Aa (kL _ _ _)))) ⟨by rw[iw];exact tJ,by simp[L]⟩ (by rw[lz];exact e) (AS iw);rw[ue]at e3;exact AI e3 ((Bn (mG _ _ _) Aq).trans (by rw[oX]))) (AU last rfl)))))
 show Bo 10 (Ew zY z0) _=_;unfold Bo;rw[show [vl (stT z0 K),vl (.l hk hv),vl (g.t kd.1),vl (.str m),vl (rwT (m,ys,body))]++List.replicate 10 none=[vl (stT z0 K),vl (.l hk hv),vl (g.t kd.1),vl (.str m),vl (rwT (m,ys,body)),none,none,none,none,none,none,none,none,none,none]from rfl,all];subst hF;rfl
end
abbrev PF:List Str:=["stock","heads","rows_by_function"]
theorem U9:(("heads":Str) == "stock")=false/\(("rows_by_function":Str) == "stock")=false/\(("rows_by_function":Str) == "heads")=false:=by decide +kernel
theorem TH:("stock":Str)≠"heads"/\("stock":Str)≠"rows_by_function"/\("heads":Str)≠"rows_by_function":=by decide +kernel
variable{x1 x2:FO}
theorem Ux:A9 PF [x0,x1,x2] "heads"=some x1:=rfl
theorem To:A9 PF [x0,x1,x2] "rows_by_function"=some x2:=rfl
theorem UN:Bw PF [x0,x1,x2] "heads" y=[x0,y,x2]:=rfl
theorem Tt:Bw PF [x0,x1,x2] "rows_by_function" y=[x0,x1,y]:=rfl
theorem JQ{n}{ts:List T}(h:fs[0]?=some (some (.bor o)))(ha:fa ((C4 fs).set 0 (vl (toT o)))=.ok (ts.map Rv.t) ((C4 fs).set 0 (vl (toT o))))(hp:ts.length=n)(hf:Fn (ts.map vl)=.ok (.t .v) τ):AE (ID 0 (Ai (Ak n Fn) fa)) fs=.nx fs:=by refine Dy (r:=.t .v) ?_;unfold ID;rw[J2 h];have e1:=RM ts;have:=BX (p:=n) (Fn:=Fn) (t:=.v) (τ:=τ) ha (by simpa using hp) (by rw[e1];exact J3 _) (by rw[e1,O8];exact hf);simp only[this];rfl
variable{j z:Nat}{ks:List Key}{ds:List FO}{k:Str}
section
variable{gs:List Str}
theorem SH(h0:fs[i]?=some (some (.bor (.ins C gs os))))(hj:fs[j]?=some (vl (.str k)))(hf:A9 gs os f=some o)(ho:Z5 o=some (ks,ds))(hn:(.inr k:Key)∉ks)(hl:ks.length<1000)
  (e:fs.set i (some (.bor (.ins C gs (Bw gs os f (.dO (ks++[.inr k]) (ds++[.l [] []]))))))=ar):LD C f i j fs=.nx ar:=by
 unfold LD;simp only[J2 h0,hj,hf,if_true,HD,ho];rw[if_pos ⟨show ks.length<1000000 by lia,any_false hn⟩];rw[show FL.putAt fs i (.ins C gs (Bw gs os f (.dO (ks++[.inr k]) (ds++[.l [] []]))))=ar by unfold FL.putAt;rw[h0];exact e]
theorem Hz{d}:∀{ks:List Key}{ds:List FO},ks.length=ds.length->kk∉ks->Io (ks++[kk]) (ds++[d]) kk=some d
 | [],[],_,_=>by simp[Io]
 | [],_::_,h,_=>by simp at h
 |_::_,[],h,_=>by simp at h
 |a::ks,b::ds,h,n=>by simp only[uL,Io];rw[if_neg λz=>n (by simp[z])];exact Hz (by simpa using h) λm=>n (sZ _ m)
theorem HG{d}:∀{ks:List Key}{ds:List FO},ks.length=ds.length->kk∉ks->Iv (ks++[kk]) (ds++[d]) kk x=ds++[x]
 | [],[],_,_=>by simp[Iv]
 | [],_::_,h,_=>by simp at h
 |_::_,[],h,_=>by simp at h
 |a::ks,b::ds,h,n=>by simp only[uL,Iv];rw[if_neg λz=>n (by simp[z]),HG (by simpa using h) λm=>n (sZ _ m)]
theorem SI(hv:fv fs=.ok (.t t) aj)(h0:aj[i]?=some (some (.bor (.ins C gs os))))(hj:aj[j]?=some (vl (.str k)))(hz:aj[z]?=some (vl (.str k2)))(hf:A9 gs os f=some (.dO (ks++[.inr k]) (ds++[.l eX dq])))(hl:ks.length=ds.length)(hn:(.inr k:Key)∉ks)(gD:(.inr k2:Key)∉eX)(b0:eX.length<1000)
  (e:aj.set i (some (.bor (.ins C gs (Bw gs os f (.dO (ks++[.inr k]) (ds++[.l (eX++[.inr k2]) (dq++[t])]))))))=ar):dput2 C f i j z fv fs=.nx ar:=by
 have h3:E2 eX dq (.inr k2:Key) t=(eX++[.inr k2],dq++[t]):=by unfold E2;rw[any_false gD];rfl
 unfold dput2;rw[hv];simp only[SO.of,J2 h0,hj,hz,hf,if_true,HD,Hz hl hn,HG hl hn,h3];rw[if_pos (show eX.length<big from show eX.length<1000000 by lia)];rw[show FL.putAt aj i (.ins C gs (Bw gs os f (.dO (ks++[.inr k]) (ds++[.l (eX++[.inr k2]) (dq++[t])]))))=ar by unfold FL.putAt;rw[h0];exact e]
end
abbrev EV(g:Fd):Key:=.inr g.nm
noncomputable def hvT(k:Str)(g:Fd):T:=.tup [g.kT k,.str k]
abbrev NJ(r:Str×List Str×Ex):Key:=.inr r.1
noncomputable def rvT(g:Fd)(r:Str×List Str×Ex):T:=.tup [.tup ((r.2.1++g.zX).map T.str),r.2.2.t]
noncomputable def rwO(g:Fd):FO:=.l (g.rows.map NJ) (g.rows.map (rvT g))
noncomputable def pO(cP:Addr)(S:T)(k:Str)(D:List Fd)(R:FO):FO:=.ins cP PF [.val S,.l (D.map EV) (D.map (hvT k)),R]
abbrev Gg(D:List Fd):FO:=.dO (D.map EV) (D.map rwO)
structure FOk(K:Kd)(kd:Str×List (Str×List Str))(zY z0:Addr)(D:List Fd)(g:Fd):Prop where
 nm:Tg g.nm
 new:g.nm∉D.map (·.nm)
 yr:g.nm∉mks K
 zX:g.zX.length<=2
 rws:g.rows.map (·.1)=kd.2.map (·.1)
 yz:∀r∈g.rows,(r.1,List.replicate r.2.1.length kd.1)∈kd.2
 nd:∀r∈g.rows,(r.2.1++g.zX).Nodup
 nms:∀r∈g.rows,∀x∈r.2.1++g.zX,Tg x
 ok:∀r∈g.rows,∀hk hv,Okx (sco zY z0 K kd.1 hk hv g r.2.1) 8 r.2.2
variable{D:List Fd}{x2:Option Sl}
section
variable{K:Kd}{kd:Str×List (Str×List Str)}
theorem IQ(h:g.nm∉D.map (·.nm)):(.inr g.nm:Key)∉D.map EV:=λm=>by obtain⟨a,ma,e⟩:=t8.mp m;exact h (t8.mpr ⟨a,ma,Sum.inr.inj e⟩)
theorem Pd(h:g.nm∉D.map (·.nm))(k:Str):Cn ((D++[g]).map EV) ((D++[g]).map (hvT k)) (.inr g.nm:Key)=some (hvT k g):=by induction D with|nil=>simp[Cn]|cons a D ih =>simp only[sW,tm,not_or]at h;simp only[uL,sW,Cn];rw[if_neg λz=>h.1 (Sum.inr.inj z).symm];exact ih h.2
abbrev riB(cP zY z0:Addr):FS->SO:=(Av (AE (ID 0 (Ai (Ak 5 (B1 zY z0)) (Ad (fz (Ab 1)) (Ad (CJ cP "heads" (Ab 0)) (Ad (fz (Ab 3)) (Ad (fz (Ab 9)) (Ad (fz (Ab 10)) Ah))))))))
  (dput2 cP "rows_by_function" 0 4 9 (An Ar (Ac (Ag Aw (Ai BP (Ac (Ag AB (Ab 10) (gc (.int 0))) Ah)) (Ai BP (Ac (Ab 7) Ah))) (Ac (Ag AB (Ab 10) (gc (.int 1))) Ah)))))
theorem JF(W:Well K)(cZ:kd∈K)(one:∀a∈K,a.1=kd.1)(G:FOk K kd zY z0 D g)(hD:D.length<=100):∀(R Q:List (Str×List Str×Ex))(y9 cJ:Option Sl),Q++R=g.rows->Fre y9->Fre cJ ->
  ∃z9 gu,Fre z9/\Fre gu/\DW (AW 2 (Af (tgN 9) (Af (tgN 10) AN))) (riB cP zY z0) (R.map λr=>.tup [.str r.1,rwT r]) [some (.bor (pO cP (stT z0 K) kd.1 (D++[g]) (.dO (D.map EV++[EV g]) (D.map rwO++[.l (Q.map NJ) (Q.map (rvT g))])))),vl (stT z0 K),x2,vl (g.t kd.1),vl (.str g.nm),vl (g.kT kd.1),vl (.str kd.1),vl (.tup (g.zX.map T.str)),vl (.tup (g.rows.map rwT)),y9,cJ] =
   .nx [some (.bor (pO cP (stT z0 K) kd.1 (D++[g]) (Gg (D++[g])))),vl (stT z0 K),x2,vl (g.t kd.1),vl (.str g.nm),vl (g.kT kd.1),vl (.str kd.1),vl (.tup (g.zX.map T.str)),vl (.tup (g.rows.map rwT)),z9,gu]
 | [],Q,y9,cJ,hq,f9,gJ=>⟨y9,cJ,f9,gJ,by rw[ug]at hq;simp only[uH,DW,Gg,tL,sW,hq,rwO]⟩
 |r::R,Q,y9,cJ,hq,f9,gJ=>by
  have mr:r∈g.rows:=by rw[<- hq];simp
  obtain⟨z9,gu,g9,jr,lp⟩:=JF W cZ one G hD R (Q++[r]) (vl (.str r.1)) (vl (rwT r)) (by rw[t9];exact hq) AD AD;refine⟨z9,gu,g9,jr,?_⟩;have yV:(g.rows.map (·.1)).Nodup:=by rw[G.rws];obtain⟨A,B,eK⟩:=List.append_of_mem cZ;have:=W.yV;rw[eK,IK,FR]at this;exact(sT.mp (sT.mp this).2.1).1
  have hQ:Q.length<=4:=by
   have h1:=congrArg List.length hq;have h2:=congrArg List.length G.rws;have h3:=(W.rw kd cZ).2;simp at h1 h2
   lia
  have h2:(r.1,List.replicate r.2.1.length kd.1)∈kd.2:=G.yz r mr;have b0:r.2.1.length<=2:=by simpa using W.two kd cZ _ h2
  have ck:=DZ (ys:=r.2.1) (⟨W,one,Pd G.new kd.1,G.nd r mr⟩) cZ h2 (G.nms r mr) (by have:=G.zX;lia) (G.ok r mr _ _);generalize hS:FO.dO (D.map EV++[EV g]) (D.map rwO++[.l (Q.map NJ) (Q.map (rvT g))])=RO;have pk:AE (ID 0 (Ai (Ak 5 (B1 zY z0)) (Ad (fz (Ab 1)) (Ad (CJ cP "heads" (Ab 0)) (Ad (fz (Ab 3)) (Ad (fz (Ab 9)) (Ad (fz (Ab 10)) Ah))))))) [some (.bor (pO cP (stT z0 K) kd.1 (D++[g]) RO)),vl (stT z0 K),x2,vl (g.t kd.1),vl (.str g.nm),vl (g.kT kd.1),vl (.str kd.1),vl (.tup (g.zX.map T.str)),vl (.tup (g.rows.map rwT)),vl (.str r.1),vl (rwT r)]=.nx [some (.bor (pO cP (stT z0 K) kd.1 (D++[g]) RO)),vl (stT z0 K),x2,vl (g.t kd.1),vl (.str g.nm),vl (g.kT kd.1),vl (.str kd.1),vl (.tup (g.zX.map T.str)),vl (.tup (g.rows.map rwT)),vl (.str r.1),vl (rwT r)] :=
   JQ (ts:=[stT z0 K,.l ((D++[g]).map EV) ((D++[g]).map (hvT kd.1)),g.t kd.1,.str r.1,rwT r]) rfl (Ae (Am (Aa rfl)) (Ae (Kh (gs:=PF) (Aa rfl) (by simp[Jq,U9,toT,NI])) (Ae (Am (Aa rfl)) (Ae (Am (Aa rfl)) (Ae (Am (Aa rfl)) Au))))) rfl ck
  have tp:∀{f:FS->Out Rv}{fs:FS}{ts:List T},f fs=.ok (.t (.tup ts)) fs->Ai BP (Ac f Ah) fs=.ok (.t (.tup ts)) fs:=λh=>BU (Ao h Au) rfl
  have dv:An Ar (Ac (Ag Aw (Ai BP (Ac (Ag AB (Ab 10) (gc (.int 0))) Ah)) (Ai BP (Ac (Ab 7) Ah))) (Ac (Ag AB (Ab 10) (gc (.int 1))) Ah)) [some (.bor (pO cP (stT z0 K) kd.1 (D++[g]) RO)),vl (stT z0 K),x2,vl (g.t kd.1),vl (.str g.nm),vl (g.kT kd.1),vl (.str kd.1),vl (.tup (g.zX.map T.str)),vl (.tup (g.rows.map rwT)),vl (.str r.1),vl (rwT r)]=.ok (.t (rvT g r)) [some (.bor (pO cP (stT z0 K) kd.1 (D++[g]) RO)),vl (stT z0 K),x2,vl (g.t kd.1),vl (.str g.nm),vl (g.kT kd.1),vl (.str kd.1),vl (.tup (g.zX.map T.str)),vl (.tup (g.rows.map rwT)),vl (.str r.1),vl (rwT r)] :=
   BS (g:=Ar) (ts:=[.tup ((r.2.1++g.zX).map T.str),r.2.2.t]) (Ao (Aj (tp (ix (i:=0) (ts:=[.tup (r.2.1.map T.str),r.2.2.t]) (Aa rfl) rfl)) (tp (Aa rfl)) (by rw[tL];exact Z0 (by show _<=1000000;have:=G.zX;simp;lia))) (Ao (ix (i:=1) (ts:=[.tup (r.2.1.map T.str),r.2.2.t]) (Aa rfl) rfl) Au)) rfl (show 2<=big by decide) rfl
  have b:=sq pk (SI (ar:=[some (.bor (pO cP (stT z0 K) kd.1 (D++[g]) (.dO (D.map EV++[EV g]) (D.map rwO++[.l (Q.map NJ++[NJ r]) (Q.map (rvT g)++[rvT g r])])))),vl (stT z0 K),x2,vl (g.t kd.1),vl (.str g.nm),vl (g.kT kd.1),vl (.str kd.1),vl (.tup (g.zX.map T.str)),vl (.tup (g.rows.map rwT)),vl (.str r.1),vl (rwT r)]) (i:=0) (j:=4) (z:=9) (C:=cP) (f:="rows_by_function") (gs:=PF) (os:=[.val (stT z0 K),.l ((D++[g]).map EV) ((D++[g]).map (hvT kd.1)),RO]) (ks:=D.map EV) (ds:=D.map rwO) (k:=g.nm) (k2:=r.1) (eX:=Q.map NJ) (dq:=Q.map (rvT g)) dv rfl rfl rfl (by rw[To,<- hS]) (by simp) (IQ G.new) (λm=>by obtain⟨q,mq,e⟩:=t8.mp m;rw[<- hq,tL,sT]at yV;exact yV.2.2 q.1 (t8.mpr ⟨q,mq,rfl⟩) r.1 (by simp) (Sum.inr.inj e)) (by simp;lia) (by rw[Tt];rfl));subst hS;rw[sW,DG (DB (by exact tg rfl f9) (by exact tg rfl gJ)) b];rw[tL,tL]at lp;exact lp
end
section
variable{K:Kd}{kd:Str×List (Str×List Str)}
abbrev fnB(cP zY z0:Addr):FS->SO:=(Av (AE (ID 0 (Ai (Ak 3 (Cg z0)) (Ad (fz (Ab 1)) (Ad (CJ cP "heads" (Ab 0)) (Ad (fz (Ab 3)) Ah))))))
  (Av (Hi (fz (Ab 3)) (AW 5 (Af (tgN 4) (Af (tgN 5) (Af (tgN 6) (Af (tgN 7) (Af (tgN 8) AN)))))))
  (Av (CO cP "heads" 0 4 (An Ar (Ac (Ai BP (Ac (Ab 5) Ah)) (Ac (fz (Ab 6)) Ah))))
  (Av (LD cP "rows_by_function" 0 4)
  (Dq (itZ (fz (BH z0 "makers" 2 (Az z0) (fz (Ab 1)) (Ad (Ag AB (Ab 5) (gc (.int 0))) Ah))) (Ab 8)) (AW 2 (Af (tgN 9) (Af (tgN 10) AN))) (riB cP zY z0))))))
def RwO(D:List Fd)(o:FO):Prop:=Z5 o=some (D.map EV,D.map rwO)
theorem UP:RwO [] (.l [] []):=rfl
theorem XJ:RwO D (Gg D):=rfl
theorem HK:∀(R:List (Str×List Str×Ex)),FL.pairs ((R.map (·.1)).map T.str) (R.map rwT)=R.map λr=>.tup [.str r.1,rwT r]
 | []=>rfl
 |r::R=>by simp only[sW,FL.pairs,HK R]
theorem Zj(W:Well K)(cZ:kd∈K)(one:∀a∈K,a.1=kd.1)(G:FOk K kd zY z0 D g)(hD:D.length<=100)(hR:RwO D RO)(f4:Fre y4)(f5:Fre y5)(f6:Fre y6)(f7:Fre y7)(f8:Fre y8)(f9:Fre y9)(gJ:Fre cJ):
  ∃z9 gu,Fre z9/\Fre gu/\fnB cP zY z0 [some (.bor (pO cP (stT z0 K) kd.1 D RO)),vl (stT z0 K),x2,vl (g.t kd.1),y4,y5,y6,y7,y8,y9,cJ]=.nx [some (.bor (pO cP (stT z0 K) kd.1 (D++[g]) (Gg (D++[g])))),vl (stT z0 K),x2,vl (g.t kd.1),vl (.str g.nm),vl (g.kT kd.1),vl (.str kd.1),vl (.tup (g.zX.map T.str)),vl (.tup (g.rows.map rwT)),z9,gu]:=by
 obtain⟨z9,gu,g9,jr,lp⟩:=JF W cZ one G hD g.rows [] y9 cJ rfl f9 gJ;refine⟨z9,gu,g9,jr,?_⟩;have ck:=Dm (z0:=z0) W (hk:=D.map EV) (hv:=D.map (hvT kd.1)) cZ G.nm (IQ G.new) G.yr G.zX (by simpa using congrArg List.length G.rws);have s4:LD cP "rows_by_function" 0 4 [some (.bor (pO cP (stT z0 K) kd.1 (D++[g]) RO)),vl (stT z0 K),x2,vl (g.t kd.1),vl (.str g.nm),vl (g.kT kd.1),vl (.str kd.1),vl (.tup (g.zX.map T.str)),vl (.tup (g.rows.map rwT)),y9,cJ]=.nx [some (.bor (pO cP (stT z0 K) kd.1 (D++[g]) (.dO (D.map EV++[EV g]) (D.map rwO++[.l (([]:List (Str×List Str×Ex)).map NJ) (([]:List (Str×List Str×Ex)).map (rvT g))])))),vl (stT z0 K),x2,vl (g.t kd.1),vl (.str g.nm),vl (g.kT kd.1),vl (.str kd.1),vl (.tup (g.zX.map T.str)),vl (.tup (g.rows.map rwT)),y9,cJ] :=
  SH (i:=0) (j:=4) (C:=cP) (f:="rows_by_function") (gs:=PF) (os:=[.val (stT z0 K),.l ((D++[g]).map EV) ((D++[g]).map (hvT kd.1)),RO]) (k:=g.nm) rfl rfl To hR (IQ G.new) (by simp;lia) (by rw[Tt];rfl)
 refine sq (JQ (ts:=[stT z0 K,.l (D.map EV) (D.map (hvT kd.1)),g.t kd.1]) rfl (Ae (Am (Aa rfl)) (Ae (Kh (gs:=PF) (Aa rfl) (by simp[Jq,U9,toT,NI])) (Ae (Am (Aa rfl)) Au))) rfl ck) (sq (Jb2 (Am (Aa rfl)) (tg rfl f4) (tg rfl f5) (tg rfl f6) (tg rfl f7) (tg rfl f8)) (sq (by refine Jb (i:=0) (j:=4) (C:=cP) (f:="heads") (gs:=PF) (os:=[.val (stT z0 K),.l (D.map EV) (D.map (hvT kd.1)),RO]) (k:=g.nm) (t:=hvT kd.1 g) (BS (g:=Ar) (ts:=[g.kT kd.1,.str kd.1]) (Ao (BU (Ao (Aa rfl) Au) rfl) (Ao (Am (Aa rfl)) Au)) rfl (show 2<=big by decide) rfl) rfl rfl Ux (IQ G.new) (by show _<1000000;simp;lia) ?_;rw[UN];unfold pO;rw[tL,tL];rfl) (sq s4 ?_)));generalize hS:[some (Sl.bor (pO cP (stT z0 K) kd.1 (D++[g]) (.dO (D.map EV++[EV g]) (D.map rwO++[.l (([]:List (Str×List Str×Ex)).map NJ) (([]:List (Str×List Str×Ex)).map (rvT g))])))),vl (stT z0 K),x2,vl (g.t kd.1),vl (.str g.nm),vl (g.kT kd.1),vl (.str kd.1),vl (.tup (g.zX.map T.str)),vl (.tup (g.rows.map rwT)),y9,cJ]=L at *;have hm:fz (BH z0 "makers" 2 (Az z0) (fz (Ab 1)) (Ad (Ag AB (Ab 5) (gc (.int 0))) Ah)) L=.ok (.t (.lst ((kd.2.map (·.1)).map T.str))) L :=
  Lh W cZ (by rw[<- hS];rfl) (ix (i:=0) (ts:=List.replicate (1+g.zX.length) (.str kd.1)) (Aa (by rw[<- hS];rfl)) (by rw[uO];simp))
 have hz:itZ (fz (BH z0 "makers" 2 (Az z0) (fz (Ab 1)) (Ad (Ag AB (Ab 5) (gc (.int 0))) Ah))) (Ab 8) L=.ok (g.rows.map λr=>.tup [.str r.1,rwT r]) L:=by unfold itZ;rw[hm];simp only[Out.bnd,Out.bind];rw[Aa (show L[8]?=some (vl (.tup (g.rows.map rwT))) by rw[<- hS];rfl)];simp only[QQ];rw[<- G.rws,HK]
 unfold Dq;rw[hz];exact lp
theorem Pt(W:Well K)(cZ:kd∈K)(one:∀a∈K,a.1=kd.1):∀(R D:List Fd)(RO:FO)(y3 y4 y5 y6 y7 y8 y9 cJ:Option Sl),RwO D RO->(∀A g B,D++R=A++g::B->FOk K kd zY z0 A g)->D.length+R.length<=100->Fre y3->Fre y4->Fre y5->Fre y6->Fre y7->Fre y8->Fre y9->Fre cJ ->
  ∃jj τ,RwO (D++R) jj/\(R≠[]->jj=Gg (D++R))/\DW (tgN 3) (fnB cP zY z0) (R.map (Fd.t kd.1)) [some (.bor (pO cP (stT z0 K) kd.1 D RO)),vl (stT z0 K),x2,y3,y4,y5,y6,y7,y8,y9,cJ]=.nx (some (.bor (pO cP (stT z0 K) kd.1 (D++R) jj))::vl (stT z0 K)::x2::τ)
 | [],D,RO,y3,y4,y5,y6,y7,y8,y9,cJ,hR,_,_,_,_,_,_,_,_,_,_=>⟨RO,[y3,y4,y5,y6,y7,y8,y9,cJ],by simpa using hR,λh=>(h rfl).elim,by simp[DW]⟩
 |g::R,D,RO,y3,y4,y5,y6,y7,y8,y9,cJ,hR,hG,hl,f3,f4,f5,f6,f7,f8,f9,gJ=>by
  rw[tM]at hl;obtain⟨z9,gu,g9,jr,e⟩:=Zj W cZ one (hG D g R rfl) (by lia) hR f4 f5 f6 f7 f8 f9 gJ;obtain⟨jj,τ,h1,h2,h3⟩:=Pt W cZ one R (D++[g]) (Gg (D++[g])) (vl (g.t kd.1)) (vl (.str g.nm)) (vl (g.kT kd.1)) (vl (.str kd.1)) (vl (.tup (g.zX.map T.str))) (vl (.tup (g.rows.map rwT))) z9 gu XJ (λA a B h=>hG A a B (by rw[<- h];simp)) (by simp;lia) AD AD AD AD AD AD g9 jr;have ea:D++[g]++R=D++g::R:=by simp
  rw[ea]at h1 h2 h3;refine⟨jj,τ,h1,λ_=>?_,?_⟩
  .cases R with
   |nil =>simp only[uH,DW,t9,uL,ue]at h3;injection h3 with h3;injection h3 with h3 _;injection h3 with h3;injection h3 with h3;unfold pO at h3;injection h3 with _ _ h3;injection h3 with _ h3;injection h3 with _ h3;injection h3 with h3 _;exact h3.symm
   |cons a R=>exact h2 (by simp)
  .rw[sW,DG (tg rfl f3) e,h3]
theorem JL(W:Well K)(cZ:kd∈K)(one:∀a∈K,a.1=kd.1)(bV:G≠[])(hl:G.length<=100)(hG:∀A g B,G=A++g::B->FOk K kd zY z0 A g):
  BE cP zY z0 [some (.bor (.ins cP [] [])),vl (stT z0 K),vl (.lst (G.map (Fd.t kd.1)))]=.ok (.t .v) [some (.bor (pO cP (stT z0 K) kd.1 G (Gg G))),vl (stT z0 K),vl (.lst (G.map (Fd.t kd.1)))]:=by
 obtain⟨RO,τ,_,h2,lp⟩:=Pt W cZ one G [] (.l [] []) none none none none none none none none UP hG (by simpa using hl) Aq Aq Aq Aq Aq Aq Aq Aq;rw[ue]at lp h2;rw[h2 bV]at lp;have nk:∀fs,EK fs=.ok (.nw (.l [] [])) fs:=λ_=>rfl
 have all:Dd cP zY z0 [some (.bor (.ins cP [] [])),vl (stT z0 K),vl (.lst (G.map (Fd.t kd.1))),none,none,none,none,none,none,none,none]=.nx (some (.bor (pO cP (stT z0 K) kd.1 G (Gg G)))::vl (stT z0 K)::vl (.lst (G.map (Fd.t kd.1)))::τ):=by refine sq (T9 (Am (Aa rfl)) rfl (by simp) rfl rfl) ?_;refine sq (GJ (dm:=["stock","heads"]) (cm:=[.val (stT z0 K),.l [] []]) (o:=.l [] []) (nk _) rfl (by simp) (by simp[C7,TH]) rfl) ?_;refine sq (GJ (C:=cP) (gs:=["stock","heads"]) (os:=[.val (stT z0 K),.l [] []]) (dm:=PF) (cm:=[.val (stT z0 K),.l [] [],.l [] []]) (o:=.l [] []) (nk _) rfl (by simp) (by simp[C7,TH]) rfl) ?_;unfold Dq;rw[GA (Am (Aa (t:=.lst (G.map (Fd.t kd.1))) rfl))];exact lp
 show Bo 8 (Dd cP zY z0) _=_;unfold Bo;rw[show [some (Sl.bor (.ins cP [] [])),vl (stT z0 K),vl (.lst (G.map (Fd.t kd.1)))]++List.replicate 8 none=[some (.bor (.ins cP [] [])),vl (stT z0 K),vl (.lst (G.map (Fd.t kd.1))),none,none,none,none,none,none,none,none]from rfl,all];rfl
end
structure Nn where
 n0:Str
 n1:Str
 n2:Str
 n3:Str
 n4:Str
 n5:Str
 n6:Str
 n7:Str
 n8:Str
abbrev Nn.t(N:Nn):T:=.lst [.str N.n0,.str N.n1,.str N.n2,.str N.n3,.str N.n4,.str N.n5,.str N.n6,.str N.n7,.str N.n8]
noncomputable def Nn.g0(N:Nn):Fd:=⟨N.n6,[],[(N.n0,[],.mk N.n0 []),(N.n1,[N.n3],.cl N.n6 [.nm N.n3]),(N.n2,[N.n3,N.n4],.cl N.n6 [.nm N.n4])]⟩
noncomputable def Nn.g1(N:Nn):Fd:=⟨N.n7,[],[(N.n0,[],.mk N.n0 []),(N.n1,[N.n3],.mk N.n2 [.cl N.n7 [.nm N.n3],.cl N.n7 [.nm N.n3]]),(N.n2,[N.n3,N.n4],.mk N.n0 [])]⟩
noncomputable def Nn.g2(N:Nn):Fd:=⟨N.n8,[N.n5],[(N.n0,[],.nm N.n5),(N.n1,[N.n3],.mk N.n1 [.cl N.n8 [.nm N.n3,.nm N.n5]]),(N.n2,[N.n3,N.n4],.cl N.n8 [.nm N.n3,.nm N.n5])]⟩
theorem rows0(N:Nn):Es [vl N.t,vl (.str N.n6),vl (.tup []),iv 0]=.ok (.t (.tup (N.g0.rows.map rwT))) [vl N.t,vl (.str N.n6),vl (.tup []),iv 0]:=rfl
theorem rows1(N:Nn):Es [vl N.t,vl (.str N.n7),vl (.tup []),iv 1]=.ok (.t (.tup (N.g1.rows.map rwT))) [vl N.t,vl (.str N.n7),vl (.tup []),iv 1]:=rfl
theorem Jcl(N:Nn):Es [vl N.t,vl (.str N.n8),vl (.tup [.str N.n5]),iv 2]=.ok (.t (.tup (N.g2.rows.map rwT))) [vl N.t,vl (.str N.n8),vl (.tup [.str N.n5]),iv 2]:=rfl
abbrev Nn.kd(N:Nn):Str×List (Str×List Str):=(N.n5,[(N.n0,[]),(N.n1,[N.n5]),(N.n2,[N.n5,N.n5])])
abbrev Nn.K(N:Nn):Kd:=[N.kd]
abbrev Nn.gs(N:Nn):List Fd:=[N.g0,N.g1,N.g2]
structure NOk(N:Nn):Prop where
 nd:[N.n0,N.n1,N.n2,N.n3,N.n4,N.n5,N.n6,N.n7,N.n8].Nodup
 nm:∀x∈[N.n0,N.n1,N.n2,N.n3,N.n4,N.n5,N.n6,N.n7,N.n8],Tg x
 ln:∀x∈[N.n0,N.n1,N.n2,N.n3,N.n4,N.n5,N.n6,N.n7,N.n8],x.length<=12
variable{N:Nn}
section
variable(H:NOk N)
include H
theorem Jaz:Well N.K:=by
 have nd:=H.nd;simp only[tN,tm,tO,or_false,not_or,tJ,and_true]at nd;refine⟨by simp,by simp,by simp,λkd m=>?_,λkd m=>?_,?_,λx m=>?_,λx m=>?_,λkd m r mr=>?_,λkd m r mr x mx=>?_,λD kd R e r e0 x mx=>?_⟩
 .simp only[tm,tO,or_false]at m;subst m;exact H.nm _ (by simp)
 .simp only[tm,tO,or_false]at m;subst m;simp
 .simp only[mks,uB,vc,sW,uH,ug,tN,tm,tO,or_false,not_or,tJ,and_true];exact⟨⟨nd.1.1,nd.1.2.1⟩,nd.2.1.1,by simp⟩
 .simp only[mks,uB,vc,sW,uH,ug,tm,tO,or_false]at m;exact H.nm x (by rcases m with rfl|rfl|rfl<;>simp)
 .simp only[mks,uB,vc,sW,uH,ug,tm,tO,or_false]at m;exact H.ln x (by rcases m with rfl|rfl|rfl<;>simp)
 .simp only[tm,tO,or_false]at m;subst m;simp only[tm,tO,or_false]at mr;rcases mr with rfl|rfl|rfl<;>simp
 .simp only[tm,tO,or_false]at m;subst m;simp only[tm,tO,or_false]at mr;rcases mr with rfl|rfl|rfl<;>simp at mx ⊢<;>exact mx
 .cases D with|nil =>simp only[ue,List.cons.injEq]at e;obtain⟨rfl,_⟩:=e;simp at e0;subst e0;simp at mx|cons a D=>simp at e
theorem Jb0:∀A g B,N.gs=A++g::B->FOk N.K N.kd zY z0 A g:=by
 have nd:=H.nd;simp only[tN,tm,tO,or_false,not_or,tJ,and_true]at nd;obtain⟨⟨a1,a2,a3,a4,a5,a6,a7,a8⟩,⟨b2,b3,b4,b5,b6,b7,b8⟩,⟨c3,c4,c5,c6,c7,c8⟩,⟨d4,d5,d6,d7,d8⟩,⟨e5,e6,e7,e8⟩,⟨f6,f7,f8⟩,⟨g7,g8⟩,h8⟩:=nd;have nm:=H.nm;simp only[List.forall_mem_cons]at nm;obtain⟨m0,m1,m2,m3,m4,m5,m6,m7,m8,_⟩:=nm;have one:∀(g:Fd)(A:List Fd),g.nm∉A.map (·.nm)->Tg g.nm->g.nm∉mks N.K->g.zX.length<=2->g.rows.map (·.1)=N.kd.2.map (·.1)->(∀r∈g.rows,(r.1,List.replicate r.2.1.length N.n5)∈N.kd.2/\(r.2.1++g.zX).Nodup/\(∀x∈r.2.1++g.zX,Tg x)/\∀hk hv,Okx (sco zY z0 N.K N.n5 hk hv g r.2.1) 8 r.2.2)->FOk N.K N.kd zY z0 A g :=
  λg A h1 h2 h3 h4 h5 h6=>⟨h2,h1,h3,h4,h5,λr m=>(h6 r m).1,λr m=>(h6 r m).2.1,λr m=>(h6 r m).2.2.1,λr m=>(h6 r m).2.2.2⟩
 intro A g B e
 match A,e with
 | [],e=>cases e;exact(by
  refine one _ _ (by simp) m6 (by simp[mks,Nn.g0];exact⟨Ne.symm a6,Ne.symm b6,Ne.symm c6⟩) (by simp[Nn.g0]) rfl ?_;intro r mr;simp only[Nn.g0,tm,tO,or_false]at mr;rcases mr with rfl|rfl|rfl
  .simp[Nn.g0,Okx]
  .simp[Nn.g0,Okx];exact m3
  .simp[Nn.g0,Okx,d4];exact⟨m3,m4⟩)
 | [_],e=>cases e;exact(by
  refine one _ _ (by simp[Nn.g0,Nn.g1];exact Ne.symm g7) m7 (by simp[mks,Nn.g1];exact⟨Ne.symm a7,Ne.symm b7,Ne.symm c7⟩) (by simp[Nn.g1]) rfl ?_;intro r mr;simp only[Nn.g1,tm,tO,or_false]at mr;rcases mr with rfl|rfl|rfl
  .simp[Nn.g1,Okx]
  .simp[Nn.g1,Okx];exact m3
  .simp[Nn.g1,Okx,d4];exact⟨m3,m4⟩)
 | [_,_],e=>cases e;exact(by
  refine one _ _ (by simp[Nn.g0,Nn.g1,Nn.g2];exact⟨Ne.symm g8,Ne.symm h8.1⟩) m8 (by simp[mks,Nn.g2];exact⟨Ne.symm a8,Ne.symm b8,Ne.symm c8⟩) (by simp[Nn.g2]) rfl ?_;intro r mr;simp only[Nn.g2,tm,tO,or_false]at mr;rcases mr with rfl|rfl|rfl
  .simp[Nn.g2,Okx];exact m5
  .simp[Nn.g2,Okx,d5];exact⟨m3,m5⟩
  .simp[Nn.g2,Okx,d4,d5,e5];exact⟨m3,m4,m5⟩)
 |_::_::_::A,e=>simp at e
end
noncomputable def rdT(g:Fd):T:=.l (g.rows.map NJ) (g.rows.map (rvT g))
noncomputable def Hk(cP z0:Addr)(K:Kd)(k:Str)(G:List Fd):T:=.ins cP PF [stT z0 K,.l (G.map EV) (G.map (hvT k)),.l (G.map EV) (G.map rdT)]
theorem LO{f}:∀xs:List α,NI (xs.map f)=xs.map λx=>toT (f x)
 | []=>by simp[NI]
 |x::xs=>by simp[NI,LO xs]
theorem U0:toT (pO cP (stT z0 K) k G (Gg G))=Hk cP z0 K k G:=by unfold pO Hk;simp only[toT,NI,Gg,LO];rfl
theorem JaP:PF.any (·==("row":Str))=false:=rfl
theorem XQ(hG:(G.map EV).Nodup)(mg:g∈G)(hr:(g.rows.map NJ).Nodup)(mr:r∈g.rows):
  Bl cP [vl (Hk cP z0 K k G),vl (.str g.nm),vl (.str r.1)]=.ok (.t (rvT g r)) [vl (Hk cP z0 K k G),vl (.str g.nm),vl (.str r.1)]:=by
 have v1:Cn (G.map EV) (G.map rdT) (.inr g.nm:Key)=some (rdT g):=De mg hG;have v2:Cn (g.rows.map NJ) (g.rows.map (rvT g)) (.inr r.1:Key)=some (rvT g r):=De mr hr;have fr:CJ cP "rows_by_function" (Ab 0) [vl (Hk cP z0 K k G),vl (.str g.nm),vl (.str r.1)]=.ok (.t (.l (G.map EV) (G.map rdT))) [vl (Hk cP z0 K k G),vl (.str g.nm),vl (.str r.1)]:=Kh (Aa rfl) (by simp[Jq,U9]);have i1:Ag AB (CJ cP "rows_by_function" (Ab 0)) (fz (Ab 1)) [vl (Hk cP z0 K k G),vl (.str g.nm),vl (.str r.1)]=.ok (.t (rdT g)) [vl (Hk cP z0 K k G),vl (.str g.nm),vl (.str r.1)]:=Aj fr (Am (Aa rfl)) (IV v1);exact(BB
  (sq (AU (Bs (Aj (Am (Aa rfl)) fr (by rw[TY,v1];rfl))) rfl) (sq (AU (Bs (Aj (Am (Aa rfl)) i1 (by unfold rdT;rw[TY,v2];rfl))) rfl) (AO (Aj i1 (Am (Aa rfl)) (IV v2)))))).trans rfl
section
variable(H:NOk N)
include H
theorem YM:(N.gs.map EV).Nodup/\∀g∈N.gs,(g.rows.map NJ).Nodup:=by have nd:=H.nd;simp only[tN,tm,tO,or_false,not_or,tJ,and_true]at nd;obtain⟨⟨a1,a2,a3,a4,a5,a6,a7,a8⟩,⟨b2,b3,b4,b5,b6,b7,b8⟩,⟨c3,c4,c5,c6,c7,c8⟩,⟨d4,d5,d6,d7,d8⟩,⟨e5,e6,e7,e8⟩,⟨f6,f7,f8⟩,⟨g7,g8⟩,h8⟩:=nd;refine⟨by simp[Nn.g0,Nn.g1,Nn.g2,g7,g8,h8],λg m=>?_⟩;simp only[tm,tO,or_false]at m;rcases m with rfl|rfl|rfl<;>simp[Nn.g0,Nn.g1,Nn.g2,a1,a2,b2]
theorem Xd(hc:c.cP=cP)(hP:c.P=Hk cP z0 N.K N.n5 N.gs)(mg:g∈N.gs)(mr:r∈g.rows):Row c g.nm r.1 (r.2.1++g.zX) r.2.2:=by
 obtain⟨A,B,e⟩:=(List.append_of_mem mg)
 refine⟨λfs=>?_,?_,(Jb0 H (zY:=0) (z0:=z0) A g B e).nd r mr⟩
 .rw[hP,hc];show(decide (cP=cP)&&!PF.any (·==("row":Str)))=true;rw[JaP];simp
 .rw[hP,hc];exact XQ (YM H).1 mg ((YM H).2 g mg) mr
end
abbrev pgB:FS->SO:=(Av (AL 5 (slF (An Ar (Ac (Ag AB (Ab 0) (gc (.int 5))) Ah)) noP (C5 (Ai Nh (Ac (Ag (gEq false) (Ab 4) (gc (.int 2))) Ah)))))
  (Av (AL 6 (Ag Pj (An Ar (Ac (fz (Ab 1)) Ah)) (Ag Aw (gc (.int 1)) (Ai Bx (Ac (Ab 5) Ah)))))
  (AE (BC Fv (Ab 3) (Ac (An Ar (Ac (Ag AB (Ab 0) (Ag Aw (gc (.int 6)) (Ab 4))) (Ac (fz (Ab 6)) (Ac (fz (Ab 1)) (Ac (fz (Ab 5)) (Ac (fz (Ai (Ak 4 Es) (Ad (fz (Ab 0)) (Ad (Ag AB (Ab 0) (Ag Aw (gc (.int 6)) (Ab 4))) (Ad (fz (Ab 5)) (Ad (fz (Ab 4)) Ah)))))) Ah)))))) Ah)))))
theorem pg0(N:Nn)(S:T):pgB [vl N.t,vl (.str N.n5),vl S,some (.own (.lst [])),iv 0,none,none]=.nx [vl N.t,vl (.str N.n5),vl S,some (.own (.lst [N.g0.t N.n5])),iv 0,vl (.tup []),vl (.tup [.str N.n5])]:=rfl
theorem pg1(N:Nn)(S:T)(a:T):pgB [vl N.t,vl (.str N.n5),vl S,some (.own (.lst [a])),iv 1,vl (.tup []),vl (.tup [.str N.n5])]=.nx [vl N.t,vl (.str N.n5),vl S,some (.own (.lst [a,N.g1.t N.n5])),iv 1,vl (.tup []),vl (.tup [.str N.n5])]:=rfl
theorem pg2(N:Nn)(S:T)(a b:T):pgB [vl N.t,vl (.str N.n5),vl S,some (.own (.lst [a,b])),iv 2,vl (.tup []),vl (.tup [.str N.n5])]=.nx [vl N.t,vl (.str N.n5),vl S,some (.own (.lst [a,b,N.g2.t N.n5])),iv 2,vl (.tup [.str N.n5]),vl (.tup [.str N.n5,.str N.n5])]:=rfl
theorem Lp(H:NOk N):Dk cP zY z0 [vl N.t]=.ok (.nw (pO cP (stT z0 N.K) N.n5 N.gs (Gg N.gs))) [vl N.t]:=by
 have W:=Jaz H;have s2:=AI (i:=2) (ar:=[vl N.t,vl (.str N.n5),vl (stT z0 N.K),none,none,none,none]) (Fc (IM (fs:=[vl N.t,vl (.str N.n5),none,none,none,none,none]) (fa:=Ad (An Cw (Ac (An Ar (Ac (fz (Ab 1)) (Ac (An Cw (Ac (An Ar (Ac (Ag AB (Ab 0) (gc (.int 0))) (Ac (An Ar Ah) Ah))) (Ac (An Ar (Ac (Ag AB (Ab 0) (gc (.int 1))) (Ac (An Ar (Ac (fz (Ab 1)) Ah)) Ah))) (Ac (An Ar (Ac (Ag AB (Ab 0) (gc (.int 2))) (Ac (An Ar (Ac (fz (Ab 1)) (Ac (fz (Ab 1)) Ah))) Ah))) Ah)))) Ah))) Ah)) Ah) rfl rfl rfl (MS (C:=z0) W))) rfl;exact(K4 (n:=6) (g:=Ij cP zY z0) (args:=[vl N.t]) (sq rfl (sq s2 (sq rfl (sq rfl (AO (IM (C:=cP) (p:=3) (Fn:=BE cP zY z0) (rs:=[.t (stT z0 N.K),.t (.lst (N.gs.map (Fd.t N.n5)))]) (fs:=[vl N.t,vl (.str N.n5),vl (stT z0 N.K),some (.own (.lst (N.gs.map (Fd.t N.n5)))),iv 2,vl (.tup [.str N.n5]),vl (.tup [.str N.n5,.str N.n5])]) (aj:=[vl N.t,vl (.str N.n5),vl (stT z0 N.K),vl (.lst (N.gs.map (Fd.t N.n5))),iv 2,vl (.tup [.str N.n5]),vl (.tup [.str N.n5,.str N.n5])]) (fa:=Ad (fz (Ab 2)) (Ad (fz (Ab 3)) Ah)) rfl rfl rfl
  (JL (cP:=cP) (zY:=zY) (z0:=z0) W (kd:=N.kd) (by simp) (by simp) (by simp) (by simp) (Jb0 H))))))))).trans rfl
abbrev lf(N:Nn):Th:=leaf N.n0
theorem TU(k0:Str):(leaf k0).t=.tup [.str k0,.tup []]:=rfl
theorem Ic{x1}:∀(ts:List T)(t:Th)(x4:Option Sl),Fre x4->∃y4,DW (tgN 4) (AL 3 (An Ar (Ac (Ag AB (Ab 0) (gc (.int 1))) (Ac (An Ar (Ac (fz (Ab 3)) Ah)) Ah)))) ts [vl N.t,x1,x2,vl t.t,x4]=.nx [vl N.t,x1,x2,vl (chn N.n1 t ts.length).t,y4]
 | [],t,x4,_=>⟨x4,by simp[DW,chn]⟩
 |a::ts,t,x4,f4=>by
  obtain⟨y4,e⟩:=Ic ts (.mk N.n1 [t]) (vl a) AD;refine⟨y4,?_⟩;have b:AL 3 (An Ar (Ac (Ag AB (Ab 0) (gc (.int 1))) (Ac (An Ar (Ac (fz (Ab 3)) Ah)) Ah))) [vl N.t,x1,x2,vl t.t,vl a]=.nx [vl N.t,x1,x2,vl (Th.mk N.n1 [t]).t,vl a]:=rfl;have ec:∀n,chn N.n1 (.mk N.n1 [t]) n=chn N.n1 t (n+1):=by
   intro n
   induction n with|zero=>rfl|succ n ih=>rw[chn,ih];rfl
  rw[DG (tg (j:=4) rfl f4) b,e,ec,tM]
theorem J5(c:Nat)(t:Th)(hc:c<1000):B8 [vl N.t,iv (c:Int),vl t.t]=.ok (.t (chn N.n1 t c).t) [vl N.t,iv (c:Int),vl t.t]:=by
 obtain⟨y4,e⟩:=Ic (FL.upTo 0 c) t none Aq;have l:(FL.upTo 0 c).length=c:=by simp[FL.upTo]
 rw[l]at e;exact(BB (sq (ar:=[vl N.t,iv (c:Int),vl t.t,vl t.t,none]) rfl (sq (IY (Ao (Aa rfl) Au) (by lia) e) (AO (Aa rfl))))).trans rfl
noncomputable def tre(N:Nn):Nat->Nat->Th
 |0,_=>lf N
 |f+1,n=>if n<3 then chn N.n1 (lf N) (n-1)else .mk N.n2 [tre N f ((n-1)/2),tre N f (n-1-(n-1)/2)]
theorem EH:∀(f n:Nat),1<=n->n<=2^f->1<=f->n<=900->BI f [vl N.t,iv (n:Int)]=.ok (.t (tre N f n).t) [vl N.t,iv (n:Int)]/\(tre N f n).sz=n/\(tre N f n).dp<=f+1
 |0,n,_,_,h,_=>by lia
 |f+1,n,h1,h2,_,h9=>by
  have c:∀x2,asB (Ag gLt (Ab 1) (gc (.int 3))) [vl N.t,iv (n:Int),x2]=.ok (decide ((n:Int)<3)) [vl N.t,iv (n:Int),x2]:=λx2=>Bs (Aj (Aa rfl) Ay rfl)
  by_cases h3:n<3
  .have ez:=ES N.n1 (lf N) (n-1);have el:(lf N).sz=1/\(lf N).dp=1:=DQ N.n0;have et:tre N (f+1) n=chn N.n1 (lf N) (n-1):=by rw[tre,if_pos h3]
   rw[et];refine⟨?_,by lia,by lia⟩;have ch:=J5 (N:=N) (n-1) (lf N) (by lia);rw[show(((n-1:Nat)):Int)=(n:Int)-1 by lia,TU]at ch;exact(BB (n:=1) (args:=[vl N.t,iv (n:Int)]) (D9 (DU (show asB (Ag gLt (Ab 1) (gc (.int 3))) [vl N.t,iv (n:Int),none]=.ok true [vl N.t,iv (n:Int),none] by rw[c none,tQ (show(n:Int)<3 by lia)]) (AO (BX (rs:=[.t N.t,.t (.int ((n:Int)-1)),.t (.tup [.str N.n0,.tup []])]) rfl rfl rfl ch))))).trans rfl
  .have hp:(2:Nat)^(f+1)=2*2^f:=by rw[Nat.pow_succ];lia
   have hf:1<=f:=by cases f with|zero=>simp at h2;lia|succ f=>lia
   obtain⟨a1,a2,a3⟩:=EH f ((n-1)/2) (by lia) (by lia) hf (by lia);obtain⟨b1,b2,b3⟩:=EH f (n-1-(n-1)/2) (by lia) (by lia) hf (by lia);have et:tre N (f+1) n=.mk N.n2 [tre N f ((n-1)/2),tre N f (n-1-(n-1)/2)]:=by rw[tre,if_neg h3]
   rw[et];refine⟨?_,by simp[Th.sz,Th.szs];lia,by simp[Th.dp,Th.dps];lia⟩;have qf:(Th.mk N.n2 [tre N f ((n-1)/2),tre N f (n-1-(n-1)/2)]).t=.tup [.str N.n2,.tup [(tre N f ((n-1)/2)).t,(tre N f (n-1-(n-1)/2)).t]]:=rfl;rw[qf];have e1:((n:Int)-1)/2=(((n-1)/2:Nat):Int):=by lia
   have e2:(n:Int)-1-(((n-1)/2:Nat):Int)=((n-1-(n-1)/2:Nat):Int):=by lia
   have s2:AL 2 (Ag GH (Ag Di (Ab 1) (gc (.int 1))) (gc (.int 2))) [vl N.t,iv (n:Int),none]=.nx [vl N.t,iv (n:Int),iv (((n-1)/2:Nat):Int)]:=by rw[<- e1];rfl
   generalize hL:[vl N.t,iv (n:Int),iv (((n-1)/2:Nat):Int)]=L at *;have g0:L[0]?=some (vl N.t):=by rw[<- hL];rfl
   have g2:L[2]?=some (iv (((n-1)/2:Nat):Int)):=by rw[<- hL];rfl
   have c2:fz (Ai (Ak 2 (BI f)) (Ad (fz (Ab 0)) (Ad (Ag Di (Ag Di (Ab 1) (gc (.int 1))) (Ab 2)) Ah))) L=.ok (.t (tre N f (n-1-(n-1)/2)).t) L :=
    Am (BX (rs:=[.t N.t,.t (.int ((n-1-(n-1)/2:Nat):Int))]) (Ae (Am (Aa g0)) (Ae (Aj (Aj (Aa (by rw[<- hL];rfl)) Ay HW) (Aa g2) (by rw[HW,e2])) Au)) rfl rfl b1)
   have r:retS (An Ar (Ac (Ag AB (Ab 0) (gc (.int 2))) (Ac (An Ar (Ac (fz (Ai (Ak 2 (BI f)) (Ad (fz (Ab 0)) (Ad (fz (Ab 2)) Ah)))) (Ac (fz (Ai (Ak 2 (BI f)) (Ad (fz (Ab 0)) (Ad (Ag Di (Ag Di (Ab 1) (gc (.int 1))) (Ab 2)) Ah)))) Ah))) Ah))) L=.ret (.t (.tup [.str N.n2,.tup [(tre N f ((n-1)/2)).t,(tre N f (n-1-(n-1)/2)).t]])) L :=
    AO (BS (g:=Ar) (ts:=[.str N.n2,.tup [(tre N f ((n-1)/2)).t,(tre N f (n-1-(n-1)/2)).t]]) (Ao (Aj (Aa g0) Ay rfl) (Ao (BS (g:=Ar) (ts:=[(tre N f ((n-1)/2)).t,(tre N f (n-1-(n-1)/2)).t]) (Ao (Am (BX (rs:=[.t N.t,.t (.int (((n-1)/2:Nat):Int))]) (Ae (Am (Aa g0)) (Ae (Am (Aa g2)) Au)) rfl rfl a1)) (Ao c2 Au)) rfl (show 2<=big by decide) rfl) Au)) rfl (show 2<=big by decide) rfl)
   refine(BB (n:=1) (g:=LH (BI f)) (args:=[vl N.t,iv (n:Int)]) (sq (AU (show asB (Ag gLt (Ab 1) (gc (.int 3))) [vl N.t,iv (n:Int),none]=.ok false [vl N.t,iv (n:Int),none] by rw[c none,tS (show ¬(n:Int)<3 by lia)]) rfl) (sq s2 r))).trans ?_;rw[<- hL];rfl
theorem DX{f}:∀(ts:List T),(∀t∈ts,f t t=some true)->Js f ts ts=some true
 | [],_=>rfl
 |t::ts,h=>by rw[Js,h t tZ,ub,DX ts λt m=>h t (sZ _ m)];rfl
theorem PQ:∀{hs:List Th},h∈hs->h.dp<=Th.dps hs
 | [],m=>nomatch m
 |a::hs,m=>by
  rw[Th.dps];rcases tm.mp m with rfl|m
  .lia
  .have:=PQ m
   lia
theorem WC:∀(n:Nat)(h:Th),2*h.dp<=n->eqT n h.t h.t=some true
 |0,h,hl=>by have:=SJ h;lia
 |1,h,hl=>by have:=SJ h;lia
 |n+2,.mk m ps,hl=>by
  have hd:(Th.mk m ps).dp=1+Th.dps ps:=rfl;have et:(Th.mk m ps).t=.tup [.str m,.tup (ps.map Th.t)]:=by simp[Th.t,Th.Cr]
  rw[et,I0,DX]
  .simp
  .intro t mt;simp only[tm,tO,or_false]at mt;rcases mt with rfl|rfl
   .rw[LC];simp
   .rw[I0,DX]
    .simp
    .intro t mt;obtain⟨p,mp,rfl⟩:=t8.mp mt;have:=PQ mp;exact WC n p (by lia)
theorem WG{fa}{h:Th}(hd:h.dp<=80)(h1:fa fs=.ok (.t h.t) fs)(h2:fb fs=.ok (.t h.t) fs):Ag Nk fa fb fs=.ok (.t (.o true)) fs:=by
 refine Aj h1 h2 ?_;have:=WC 182 h (by lia);cases h with
 |mk m ps =>
  have et:(Th.mk m ps).t=.tup [.str m,.tup (ps.map Th.t)]:=by simp[Th.t,Th.Cr]
  rw[et]at this ⊢;have e2:Js (eqT 180) [.str m,.tup (ps.map Th.t)] [.str m,.tup (ps.map Th.t)]=some true:=by
   refine DX _ λt mt=>?_
   simp only[tm,tO,or_false]at mt;have dM:(Th.mk m ps).dp=1+Th.dps ps:=rfl;rcases mt with rfl|rfl
   .rw[LC];simp
   .rw[I0,DX]
    .simp
    .intro t mt;obtain⟨p,mp,rfl⟩:=t8.mp mt;have:=PQ mp;exact WC 179 p (by lia)
  unfold Nk;simp only[K3,e2];rfl
abbrev bF:T:=.o false
abbrev bT:T:=.o true
theorem Jap:P4 "TooLong"=[bF,bF,bF,bF,bF,bF,bF,bF,bF,bF,bT,bF,bF,bF,bF]:=rfl
theorem Yl{f}{g}(h:f fs=.ok (.t (.o true)) aj):orV f g fs=.ok (.t (.o true)) aj:=by unfold orV;rw[h];rfl
theorem Ym{f}{g}(h:f fs=.ok (.t (.o false)) aj)(e:g aj=r):orV f g fs=r:=by unfold orV;rw[h];exact e
theorem Xa:Ed [vl (.zT "TooLong")]=.ok (.t (.int 10)) [vl (.zT "TooLong")]:=rfl
abbrev riA(P:T)(hx hy:Th)(e:Ex)(n:Int)(hZ:T):FS:=[vl P,vl (D8 hx hy),vl e.t,iv n,vl hZ]
theorem QT(h:f_run cP cR (LV P hx hy e n)=.ok (.t v.t) τ):fz (Ai (Ak 4 (f_run cP cR)) (Ad (fz (Ab 0)) (Ad (fz (Ab 1)) (Ad (fz (Ab 2)) (Ad (fz (Ab 3)) Ah))))) [vl P,vl (D8 hx hy),vl e.t,iv n,x4,x5,x6,x7]=.ok (.t v.t) [vl P,vl (D8 hx hy),vl e.t,iv n,x4,x5,x6,x7] :=
 Am (BX (Ae (Am (Aa rfl)) (Ae (Am (Aa rfl)) (Ae (Am (Aa rfl)) (Ae (Am (Aa rfl)) Au)))) rfl rfl h)
theorem UQ(h:f_run cP cR (LV P hx hy e n)=.exc "TooLong" τ):fz (Ai (Ak 4 (f_run cP cR)) (Ad (fz (Ab 0)) (Ad (fz (Ab 1)) (Ad (fz (Ab 2)) (Ad (fz (Ab 3)) Ah))))) [vl P,vl (D8 hx hy),vl e.t,iv n,x4,x5,x6,x7]=.exc "TooLong" [vl P,vl (D8 hx hy),vl e.t,iv n,x4,x5,x6,x7] :=
 T5 (KG (Ae (Am (Aa rfl)) (Ae (Am (Aa rfl)) (Ae (Am (Aa rfl)) (Ae (Am (Aa rfl)) Au)))) rfl rfl h)
theorem V1{b}(h:fs[i]?=some (vl t))(hb:Mm fs (.t t)=some b):Ag (T4 false) (Ab i) (gc .v) fs=.ok (.t (.o b)) fs:=by refine Aj (Aa h) Ay ?_;unfold T4;simp only[hb];rfl
theorem CV(hd:v.dp<=80)(h:∃τ,f_run cP cR (LV P hx hy e n)=.ok (.t v.t) τ):f_Lright cP cR (riA P hx hy e n v.t)=.ok (.t (.o true)) (riA P hx hy e n v.t):=by obtain⟨τ,h⟩:=h;refine(BB (args:=riA P hx hy e n v.t) (sq (ar:=[vl P,vl (D8 hx hy),vl e.t,iv n,vl v.t,vl .v,none,none]) rfl (sq (ar:=[vl P,vl (D8 hx hy),vl e.t,iv n,vl v.t,vl .v,vl .v,none]) rfl (sq (by unfold Xb;rw[AI (ar:=[vl P,vl (D8 hx hy),vl e.t,iv n,vl v.t,vl .v,vl v.t,none]) (QT h) rfl]) (sq (AU (Bs (V1 rfl (by obtain⟨m,et⟩:=v.JbL;rw[et];rfl))) rfl) (AO (Qm (V1 (i:=5) (t:=.v) (b:=true) rfl rfl) (WG hd (Aa rfl) (Aa rfl))))))))).trans rfl
theorem BM(h:∃τ,f_run cP cR (LV P hx hy e n)=.exc "TooLong" τ):f_Lright cP cR (riA P hx hy e n .v)=.ok (.t (.o true)) (riA P hx hy e n .v):=by obtain⟨τ,h⟩:=h;have hc:(λc=>xrs.contains c&&D6 c "SayError") "TooLong"=true:=rfl;have cw:fz (Ai (Ak 1 Ed) (Ad (fz (Ab 5)) Ah)) [vl P,vl (D8 hx hy),vl e.t,iv n,vl .v,vl (.zT "TooLong"),vl .v,none]=.ok (.t (.int 10)) [vl P,vl (D8 hx hy),vl e.t,iv n,vl .v,vl (.zT "TooLong"),vl .v,none] :=rfl;refine(BB (sq (ar:=[vl P,vl (D8 hx hy),vl e.t,iv n,vl .v,vl .v,none,none]) rfl (sq (ar:=[vl P,vl (D8 hx hy),vl e.t,iv n,vl .v,vl .v,vl .v,none]) rfl (sq (by unfold Xb;rw[QP (UQ h)];show Xc 7 (λc=>xrs.contains c&&D6 c "SayError") (AL 5 (fz (Ab 7))) "TooLong" _=_;unfold Xc;rw[if_pos hc];rfl) (D9 (DU (Bs (V1 rfl rfl)) (AO (Aj cw Ay rfl)))))))).trans rfl
theorem Kf{x0}{x3}:∀(ts:List T)(c:Nat)(x5:Option Sl),Fre x5->∃y5,DW (tgN 5) (AL 4 (An Ar (Ac (Ag AB (Ab 1) (gc (.int 2))) (Ac (An Ar (Ac (fz (Ab 4)) (Ac (fz (Ab 4)) Ah))) Ah)))) ts [x0,vl N.t,x2,x3,vl (full N.n0 N.n2 c).t,x5]=.nx [x0,vl N.t,x2,x3,vl (full N.n0 N.n2 (c+ts.length)).t,y5]
 | [],c,x5,_=>⟨x5,by simp[DW]⟩
 |a::ts,c,x5,f5=>by obtain⟨y5,e⟩:=Kf ts (c+1) (vl a) AD;refine⟨y5,?_⟩;have b:AL 4 (An Ar (Ac (Ag AB (Ab 1) (gc (.int 2))) (Ac (An Ar (Ac (fz (Ab 4)) (Ac (fz (Ab 4)) Ah))) Ah))) [x0,vl N.t,x2,x3,vl (full N.n0 N.n2 c).t,vl a]=.nx [x0,vl N.t,x2,x3,vl (full N.n0 N.n2 (c+1)).t,vl a]:=rfl;rw[DG (tg (j:=5) rfl f5) b,e,tM,show c+1+ts.length=c+(ts.length+1) by lia]
abbrev duA(N:Nn)(w:Int)(c b:Int):FS:=[iv w,vl N.t,iv c,iv b]
theorem due0(c b:Int):Bm (duA N 0 c b)=.ok (.t (.tup [.int (c+1),.o (decide (c+1<=20)),(lf N).t])) (duA N 0 c b):=rfl
theorem due2(c b:Int):Bm (duA N 2 c b)=.ok (.t (.tup [.int (c+1),.o (decide (c+1<=20/\(c=0\/c+b<=40))),.v])) (duA N 2 c b):=by
 have e1:∀fs:FS,fs[2]?=some (iv c)->Ag gLe (Ag Aw (Ab 2) (gc (.int 1))) (gc (.int 20)) fs=.ok (.t (.o (decide (c+1<=20)))) fs:=λfs h=>Aj (Aj (Aa h) Ay Br) Ay rfl
 have e2:Ag (gEq false) (Ab 2) (gc (.int 0)) (duA N 2 c b++[none,none])=.ok (.t (.o (decide (c=0)))) (duA N 2 c b++[none,none]):=by refine Aj (Aa rfl) Ay ?_;simp[gEq,plV,okT,show N9 (V.int c) (V.int 0)=true from rfl]
 have ea:Us (Ag gLe (Ag Aw (Ab 2) (gc (.int 1))) (gc (.int 20))) (orV (Ag (gEq false) (Ab 2) (gc (.int 0))) (Ag gLe (Ag Aw (Ab 2) (Ab 3)) (gc (.int 40)))) (duA N 2 c b++[none,none])=.ok (.t (.o (decide (c+1<=20/\(c=0\/c+b<=40))))) (duA N 2 c b++[none,none]):=by
  have ib:=e1 (duA N 2 c b++[none,none]) rfl;by_cases h1:c+1<=20
  .rw[tQ h1]at ib;by_cases h2:c=0
   .rw[tQ h2]at e2;rw[tQ (show c+1<=20/\(c=0\/c+b<=40)from⟨h1,.inl h2⟩)];exact Qm ib (Yl e2)
   .rw[tS h2]at e2;rw[show decide (c+1<=20/\(c=0\/c+b<=40))=decide (c+b<=40) by simp[h1,h2]];exact Qm ib (Ym e2 rfl)
  .rw[tS h1]at ib;rw[tS (show ¬(c+1<=20/\(c=0\/c+b<=40)) by lia)];exact Z7 ib
 refine(BB (sq rfl (sq rfl (D9 (DU rfl (AO (BS (Ao (Aj (Aa rfl) Ay Br) (Ao ea (Ao Ay Au))) rfl (show 3<=big by decide) rfl))))))).trans rfl
theorem due3(c b:Int):Bm (duA N 3 c b)=.ok (.t (.tup [.int 0,.o (decide (1+c+b<=300)),.v])) (duA N 3 c b):=rfl
theorem XF{j}(h0:0<=j)(h1:j<=1000000):Wa (.t (.int 1)) (.t (.int j)) fs=.ok (.t (.int (2^j.toNat))) fs:=by have e:Wa (.t (.int 1)) (.t (.int j)) fs=okT (.int (1*2^j.toNat)) fs:=if_pos ⟨h0,h1,by decide⟩;rw[e,Int.one_mul];unfold okT;exact Eq.refl _
theorem due1(c:Nat)(b:Int)(hc:c<=1000):Bm (duA N 1 c b)=.ok (.t (.tup [.int (2^(c+1)-1),.o true,(full N.n0 N.n2 c).t])) (duA N 1 c b):=by
 obtain⟨y5,lp⟩:=Kf (FL.upTo 0 c) 0 none Aq;have l:(FL.upTo 0 c).length=c:=by simp[FL.upTo]
 rw[l,Nat.zero_add]at lp;have sh:Ag Di (Ag Wa (gc (.int 1)) (Ag Aw (Ab 2) (gc (.int 1)))) (gc (.int 1)) [iv 1,vl N.t,iv (c:Int),iv b,vl (full N.n0 N.n2 c).t,y5]=.ok (.t (.int (2^(c+1)-1))) [iv 1,vl N.t,iv (c:Int),iv b,vl (full N.n0 N.n2 c).t,y5]:=by refine Aj (Aj Ay (Aj (Aa rfl) Ay Br) ?_) Ay HW;rw[XF (by lia) (by lia),show((c:Int)+1).toNat=c+1 by lia]
 exact(BB (n:=2) (g:=Hd) (args:=duA N 1 c b) (sq (ar:=duA N 1 c b++[none,none]) rfl (D9 (DU rfl (sq rfl (sq (IY (n:=c) (Ao (Aa rfl) Au) (by lia) lp) (AO (BS (g:=Ar) (r:=.ok (.t (.tup [.int (2^(c+1)-1),.o true,(full N.n0 N.n2 c).t])) [iv 1,vl N.t,iv (c:Int),iv b,vl (full N.n0 N.n2 c).t,y5]) (Ao sh (Ao (Ay (t:=.o true)) (Ao (f:=fz (Ab 4)) (Am (Aa rfl)) Au))) rfl (show 3<=big by decide) rfl)))))))).trans rfl
def Jar(o:SO):Prop:=∃τ,o=.ret (.t (.o true)) τ
theorem sqR{g}(e:g fs=.nx ar)(r:Jar (h ar)):Jar (Av g h fs):=by obtain⟨τ,r⟩:=r;exact⟨τ,sq e r⟩
variable{sp:Int}
noncomputable abbrev rtF(cP cR:Addr)(m d:FS->Out Rv):FS->Out Rv:=fz (Ai (Ak 5 (f_Lright cP cR)) (Ad (fz (Ab 2)) (Ad (fzW (Ab 12)) (Ad (fz (Ab 8)) (Ad m (Ad d Ah))))))
noncomputable abbrev tlB(cP cR:Addr):FS->SO:=(Av (AL 12 (SK "x" "y" 6 7))
  (Av (ifS (Fq (Hh (Ab 10))) (AL 11 (gc .v)) nxS)
  (Av (ifS (Fq (Hh (rtF cP cR (gc (.int 2000)) (fz (Ab 11))))) (retS (gc (.o false))) nxS)
  (Av (ifS (Fq (Hh (rtF cP cR (fz (Ab 9)) (fz (Ab 11))))) (retS (gc (.o false))) nxS)
  (retS (orV (Ag (gEq false) (Ab 9) (gc (.int 0))) (rtF cP cR (Ag Di (Ab 9) (gc (.int 1))) (gc .v))))))))
theorem last{x0}{x1}{x3}(hd:due'=if lets=true then hZ else .v)(h1:f_Lright cP cR (riA P hx hy e 2000 due')=.ok (.t (.o true)) (riA P hx hy e 2000 due'))(h2:f_Lright cP cR (riA P hx hy e sp due')=.ok (.t (.o true)) (riA P hx hy e sp due'))(h3:sp=0\/f_Lright cP cR (riA P hx hy e (sp-1) .v)=.ok (.t (.o true)) (riA P hx hy e (sp-1) .v)):
  Jar (tlB cP cR [x0,x1,vl P,x3,x4,x5,vl hx.t,vl hy.t,vl e.t,iv sp,vl (.o lets),vl hZ,none]):=by
 refine sqR rfl (sqR (ar:=[x0,x1,vl P,x3,x4,x5,vl hx.t,vl hy.t,vl e.t,iv sp,vl (.o lets),vl due',some (.own (.l [.inr "x",.inr "y"] [hx.t,hy.t]))]) ?_ ?_)
 .subst hd;cases lets<;>rfl
 have c1:rtF cP cR (gc (.int 2000)) (fz (Ab 11)) [x0,x1,vl P,x3,x4,x5,vl hx.t,vl hy.t,vl e.t,iv sp,vl (.o lets),vl due',some (.own (.l [.inr "x",.inr "y"] [hx.t,hy.t]))]=.ok (.t (.o true)) [x0,x1,vl P,x3,x4,x5,vl hx.t,vl hy.t,vl e.t,iv sp,vl (.o lets),vl due',vl (D8 hx hy)] :=
  IX (BX (Ae (Am (Aa rfl)) (Ae rfl (Ae (Am (Aa rfl)) (Ae Ay (Ae (Am (Aa rfl)) Au))))) rfl rfl h1)
 have c2:rtF cP cR (fz (Ab 9)) (fz (Ab 11)) [x0,x1,vl P,x3,x4,x5,vl hx.t,vl hy.t,vl e.t,iv sp,vl (.o lets),vl due',vl (D8 hx hy)]=.ok (.t (.o true)) [x0,x1,vl P,x3,x4,x5,vl hx.t,vl hy.t,vl e.t,iv sp,vl (.o lets),vl due',vl (D8 hx hy)] :=
  IX (BX (Ae (Am (Aa rfl)) (Ae rfl (Ae (Am (Aa rfl)) (Ae (Am (Aa rfl)) (Ae (Am (Aa rfl)) Au))))) rfl rfl h2)
 refine sqR (Ka (CM (Co c1)) rfl) (sqR (Ka (CM (Co c2)) rfl) ⟨[x0,x1,vl P,x3,x4,x5,vl hx.t,vl hy.t,vl e.t,iv sp,vl (.o lets),vl due',vl (D8 hx hy)],AO ?_⟩);have e0:Ag (gEq false) (Ab 9) (gc (.int 0)) [x0,x1,vl P,x3,x4,x5,vl hx.t,vl hy.t,vl e.t,iv sp,vl (.o lets),vl due',vl (D8 hx hy)]=.ok (.t (.o (decide (sp=0)))) [x0,x1,vl P,x3,x4,x5,vl hx.t,vl hy.t,vl e.t,iv sp,vl (.o lets),vl due',vl (D8 hx hy)]:=by refine Aj (Aa rfl) Ay ?_;simp[gEq,plV,okT,show N9 (V.int sp) (V.int 0)=true from rfl]
 by_cases h0:sp=0
 .rw[tQ h0]at e0;exact Yl e0
 .rw[tS h0]at e0;refine Ym e0 ?_;exact IX (BX (Ae (Am (Aa rfl)) (Ae (r:=.t (D8 hx hy)) rfl (Ae (Am (Aa rfl)) (Ae (Aj (Aa rfl) Ay HW) (Ae Ay Au))))) rfl rfl (h3.resolve_left h0))
section
variable(H:NOk N)
include H
abbrev pgT(cP z0:Addr)(N:Nn):T:=Hk cP z0 N.K N.n5 N.gs
theorem szc(N:Nn)(c:Nat)(hc:c<=100):(chn N.n1 (lf N) c).sz<=900:=by
 have:=ES N.n1 (lf N) c;have h2:(lf N).sz=1/\(lf N).dp=1:=DQ N.n0
 lia
theorem Jca(ch:Nat)(hc:ch<=24)(zy:hy.sz<=900)(n:Int):
  (((ch:Int)+1<=n/\ch+1<=20)->∃τ,f_run cP cR (LV (pgT cP z0 N) (chn N.n1 (lf N) ch) hy (.cl N.n6 [.nm "x"]) n)=.ok (.t (lf N).t) τ)/\(¬((ch:Int)+1<=n/\ch+1<=20)->∃τ,f_run cP cR (LV (pgT cP z0 N) (chn N.n1 (lf N) ch) hy (.cl N.n6 [.nm "x"]) n)=.exc "TooLong" τ):=by
 have key:=λa b=>e0 (c:=rc cP cR (pgT cP z0 N) sXY [chn N.n1 (lf N) ch,hy] (.cl N.n6 [.nm "x"]) a b) (Xd H rfl rfl (by simp) (r:=(N.n0,[],.mk N.n0 [])) (by simp[Nn.g0])) (Xd H rfl rfl (g:=N.g0) (by simp) (r:=(N.n1,[N.n3],.cl N.n6 [.nm N.n3])) (by simp[Nn.g0])) ch 0 sXY [chn N.n1 (lf N) ch,hy] "x" 1 n (by lia) (by lia) (by lia) (lk2 KY).1
 refine⟨λh=>LR (szc H N ch (by lia)) zy λa b=>?_,λh=>LS (szc H N ch (by lia)) zy λa b=>?_⟩
 .obtain⟨k,hk,ek⟩:=(key a b).1 ⟨h.1,by lia⟩;exact⟨k,_,by lia,ek⟩
 .obtain⟨k,hk,ek⟩:=(key a b).2 (by lia);exact⟨k,by lia,ek⟩
theorem Jb9(ch:Nat)(hc:ch<=7)(zy:hy.sz<=900)(n:Int):
  ((2:Int)^(ch+1)-1<=n->∃τ,f_run cP cR (LV (pgT cP z0 N) (chn N.n1 (lf N) ch) hy (.cl N.n7 [.nm "x"]) n)=.ok (.t (full N.n0 N.n2 ch).t) τ)/\(¬(2:Int)^(ch+1)-1<=n->∃τ,f_run cP cR (LV (pgT cP z0 N) (chn N.n1 (lf N) ch) hy (.cl N.n7 [.nm "x"]) n)=.exc "TooLong" τ):=by
 have q:(2:Nat)^ch<=2^7:=Nat.pow_le_pow_right (by decide) hc;have key:=λa b=>e1 (c:=rc cP cR (pgT cP z0 N) sXY [chn N.n1 (lf N) ch,hy] (.cl N.n7 [.nm "x"]) a b) (Xd H rfl rfl (by simp) (r:=(N.n0,[],.mk N.n0 [])) (by simp[Nn.g1])) (Xd H rfl rfl (g:=N.g1) (by simp) (r:=(N.n1,[N.n3],.mk N.n2 [.cl N.n7 [.nm N.n3],.cl N.n7 [.nm N.n3]])) (by simp[Nn.g1])) ch 0 sXY [chn N.n1 (lf N) ch,hy] "x" 1 n hc (by lia) (by lia) (lk2 KY).1
 refine⟨λh=>LR (szc H N ch (by lia)) zy λa b=>?_,λh=>LS (szc H N ch (by lia)) zy λa b=>?_⟩
 .obtain⟨k,hk,ek⟩:=(key a b).1 h;exact⟨k,_,by lia,ek⟩
 .obtain⟨k,hk,ek⟩:=(key a b).2 h;exact⟨k,by lia,ek⟩
theorem Jb8(ch B:Nat)(hc:ch<=24)(hB:hy.sz=B/\hy.dp=B)(k6:B<=100)(n:Int):
  (((ch:Int)+1<=n/\ch+1<=20/\(ch=0\/ch+B<=40))->∃τ,f_run cP cR (LV (pgT cP z0 N) (chn N.n1 (lf N) ch) hy (.cl N.n8 [.nm "x",.nm "y"]) n)=.ok (.t (chn N.n1 hy ch).t) τ)/\(¬((ch:Int)+1<=n/\ch+1<=20/\(ch=0\/ch+B<=40))->∃τ,f_run cP cR (LV (pgT cP z0 N) (chn N.n1 (lf N) ch) hy (.cl N.n8 [.nm "x",.nm "y"]) n)=.exc "TooLong" τ):=by
 have nd:=H.nd;simp only[tN,tm,tO,or_false,not_or,tJ,and_true]at nd;have key:=λa b=>e2 (c:=rc cP cR (pgT cP z0 N) sXY [chn N.n1 (lf N) ch,hy] (.cl N.n8 [.nm "x",.nm "y"]) a b) hB k6 nd.2.2.2.1.2.1 (Xd H rfl rfl (by simp) (r:=(N.n0,[],.nm N.n5)) (by simp[Nn.g2])) (Xd H rfl rfl (g:=N.g2) (by simp) (r:=(N.n1,[N.n3],.mk N.n1 [.cl N.n8 [.nm N.n3,.nm N.n5]])) (by simp[Nn.g2])) ch 0 sXY [chn N.n1 (lf N) ch,hy] "x" "y" 1 n (by lia) (by lia) (by lia) (lk2 KY).1 (lk2 KY).2
 refine⟨λh=>LR (szc H N ch (by lia)) (by lia) λa b=>?_,λh=>LS (szc H N ch (by lia)) (by lia) λa b=>?_⟩
 .obtain⟨k,hk,ek⟩:=(key a b).1 ⟨h.1,by lia,h.2.2⟩;exact⟨k,_,by lia,ek⟩
 .obtain⟨k,hk,ek⟩:=(key a b).2 (by lia);exact⟨k,by lia,ek⟩
omit H in
theorem Jb7(zx:hx.sz<=900)(zy:hy.sz<=900)(n:Int):
  (fits (.mk m [hx,hy])=true->∃τ,f_run cP cR (LV P hx hy (.mk m [.nm "x",.nm "y"]) n)=.ok (.t (Th.mk m [hx,hy]).t) τ)/\(fits (.mk m [hx,hy])=false->∃τ,f_run cP cR (LV P hx hy (.mk m [.nm "x",.nm "y"]) n)=.exc "TooLong" τ):=by
 have ea:=λa b=>(By (GN (lk2 KY).1 (by decide) (by decide)) (By (GN (lk2 KY).2 (by decide) (by decide)) C9):EvL (rc cP cR P sXY [hx,hy] (.mk m [.nm "x",.nm "y"]) a b) (0+1+[Ex.nm "x",Ex.nm "y"].length) sXY [hx,hy] 1 n [.nm "x",.nm "y"] [hx,hy] n (0+1+1))
 exact⟨λh=>LR zx zy λa b=>⟨_,_,by decide,SD (ea a b) rfl h (by decide) (by decide)⟩,λh=>LS zx zy λa b=>⟨_,by decide,Ug (ea a b) rfl h (by decide) (by decide)⟩⟩
end
theorem cell{ns:List Int}(h:fs[0]?=some (vl (.zU (ns.map T.int))))(k:Nat):fz (Ai (Ak 2 Ax) (Ad (fz (Ab 0)) (Ad (gc (.int (k:Int))) Ah))) fs=.ok (.t (.int (ns.getD k 0))) fs :=
 Am (BX (Ae (Am (Aa h)) (Ae Ay Au)) rfl rfl (WT ns k))
theorem Dt{m}{ns:List Int}(h:fs[0]?=some (vl (.zU (ns.map T.int))))(k:Nat)(hm:0<m):Ag DE (fz (Ai (Ak 2 Ax) (Ad (fz (Ab 0)) (Ad (gc (.int (k:Int))) Ah)))) (gc (.int m)) fs=.ok (.t (.int (ns.getD k 0%m))) fs:=Aj (cell h k) Ay (Ft hm)
theorem En(x:Int)(m:Nat)(hm:0<m):∃c:Nat,x%(m:Int)=(c:Int)/\c<m:=⟨(x%(m:Int)).toNat,by have:=Int.emod_nonneg x (show(m:Int)≠0 by lia);lia,by have:=Int.emod_lt_of_pos x (show(0:Int)<m by lia);have:=Int.emod_nonneg x (show(m:Int)≠0 by lia);lia⟩
section
variable(h1:fs[1]?=some (vl N.t))
include h1
theorem Je{c}{f}{g}(hf:f fs=.ok (.t (.int (c:Int))) fs)(hc:c<1000)(hg:g fs=.ok (.t t.t) fs):fz (Ai (Ak 3 B8) (Ad (fz (Ab 1)) (Ad f (Ad g Ah)))) fs=.ok (.t (chn N.n1 t c).t) fs :=
 Am (BX (Ae (Am (Aa h1)) (Ae hf (Ae hg Au))) rfl rfl (J5 c t hc))
theorem TV:An Ar (Ac (Ag AB (Ab 1) (gc (.int 0))) (Ac (An Ar Ah) Ah)) fs=.ok (.t (lf N).t) fs:=by rw[TU];exact BS (Ao (Aj (Aa h1) Ay rfl) (Ao rfl Au)) rfl (show 2<=big by decide) rfl
theorem LN{c:Nat}(hi:fs[i]?=some (iv (c:Int)))(h0:1<=c)(hc:c<=900):fz (Ai (Ak 2 (BI 10)) (Ad (fz (Ab 1)) (Ad (fz (Ab i)) Ah))) fs=.ok (.t (tre N 10 c).t) fs :=
 Am (BX (Ae (Am (Aa h1)) (Ae (Am (Aa hi)) Au)) rfl rfl (EH 10 c h0 (by lia) (by decide) hc).1)
theorem FV{c}{w}(h3:fs[3]?=some (iv w))(h4:fs[4]?=some (iv c))(h5:fs[5]?=some (iv b))(h:Bm (duA N w c b)=.ok (.t t) (duA N w c b)):fz (Ai (Ak 4 Bm) (Ad (fz (Ab 3)) (Ad (fz (Ab 1)) (Ad (fz (Ab 4)) (Ad (fz (Ab 5)) Ah))))) fs=.ok (.t t) fs :=
 Am (BX (Ae (Am (Aa h3)) (Ae (Am (Aa h1)) (Ae (Am (Aa h4)) (Ae (Am (Aa h5)) Au)))) rfl rfl h)
end
theorem JaQ{fa}{w}{y}(h3:fs[3]?=some (iv w))(ha:fa fs=.ok (.t (.int x)) fs)(hb:fb fs=.ok (.t (.int y)) fs)(hc:fc fs=.ok (.t (.int z)) fs)(hi:(if(2:Int)<w then 2 else w)=(i:Int))(ht:[T.int x,T.int y,T.int z][i]?=some (.int t)):Ag AB (An Cw (Ac fa (Ac fb (Ac fc Ah)))) (Ai IW (Ac (Ab 3) (Ac (gc (.int 2)) Ah))) fs=.ok (.t (.int t)) fs:=by
 have hm:Ai IW (Ac (Ab 3) (Ac (gc (.int 2)) Ah)) fs=.ok (.t (.int (i:Int))) fs:=by refine BU (Ao (Aa h3) (Ao Ay Au)) ?_;rw[<- hi];simp only[IW];rfl
 exact Aj (FX (Ao ha (Ao hb (Ao hc Au))) rfl (show 3<=big by decide)) hm (Eb rfl (DA ht))
theorem good(cP cR zY z0:Addr):∀ns:List Int,ns.length<=63->CT ns<=2^20->∃fs,f_law cP cR zY z0 [some (.val (.zU (ns.map T.int)))]=.ok (.t (.o true)) fs:=by
 intro ns hl jD;obtain⟨N,H,hN⟩:∃N:Nn,NOk N/\T.lst ((nms (ns.getD 0 0) 9).map T.str)=N.t:=by
  generalize ns.getD 0 0=c;refine⟨⟨nmS c 0,nmS c 1,nmS c 2,nmS c 3,nmS c 4,nmS c 5,nmS c 6,nmS c 7,nmS c 8⟩,⟨OF c (n:=9) (by decide),λx m=>?_,λx m=>?_⟩,rfl⟩
  .obtain⟨k,rfl⟩:=OG (c:=c) (n:=9) m;exact Nd c k
  .obtain⟨k,rfl⟩:=OG (c:=c) (n:=9) m;exact VC c k
 generalize hS:vl (T.zU (ns.map T.int))=S;have s1:AL 1 (fz (Ai (Ak 2 Ee) (Ad (fz (Ai (Ak 2 Ax) (Ad (fz (Ab 0)) (Ad (gc (.int 0)) Ah)))) (Ad (gc (.int 9)) Ah)))) [S,none,none,none,none,none,none,none,none,none,none,none,none]=.nx [S,vl N.t,none,none,none,none,none,none,none,none,none,none,none]:=by have nm:=names (c:=ns.getD 0 0) (n:=9) (by decide) (S7 jD 0);have cl:=cell (ns:=ns) (fs:=[S,none,none,none,none,none,none,none,none,none,none,none,none]) (by rw[hS];rfl) 0;have cc:=Fc (FY (rs:=[.t (.int (ns.getD 0 0)),.t (.int 9)]) (Ae cl (Ae Ay Au)) rfl (by rw[show C8 _ _=[]from rfl];exact tJ) nm (AS rfl));exact AI (t:=N.t) (cc.trans (by rw[<- hN];rfl)) rfl
 have s2:AL 2 (fz (Ai (Ak 1 (Dk cP zY z0)) (Ad (fz (Ab 1)) Ah))) [S,vl N.t,none,none,none,none,none,none,none,none,none,none,none]=.nx [S,vl N.t,vl (pgT cP z0 N),none,none,none,none,none,none,none,none,none,none]:=by have cc:=Fc (FY (rs:=[.t N.t]) (fs:=[S,vl N.t,none,none,none,none,none,none,none,none,none,none,none]) (fa:=Ad (fz (Ab 1)) Ah) (p:=1) (Ae (Am (Aa rfl)) Au) rfl (by rw[show C8 _ _=[]from rfl];exact tJ) (Lp H (cP:=cP) (zY:=zY) (z0:=z0)) (AS rfl));rw[U0]at cc;exact AI cc rfl
 obtain⟨w,hw,w4⟩:=En (ns.getD 1 0) 4 (by decide);have s3:AL 3 (Ag DE (fz (Ai (Ak 2 Ax) (Ad (fz (Ab 0)) (Ad (gc (.int 1)) Ah)))) (gc (.int 4))) [S,vl N.t,vl (pgT cP z0 N),none,none,none,none,none,none,none,none,none,none]=.nx [S,vl N.t,vl (pgT cP z0 N),iv (w:Int),none,none,none,none,none,none,none,none,none]:=by have:=Dt (ns:=ns) (fs:=[S,vl N.t,vl (pgT cP z0 N),none,none,none,none,none,none,none,none,none,none]) (by rw[hS];rfl) 1 (m:=4) (by decide);rw[show ns.getD 1 0%4=(w:Int)from hw]at this;exact AI this rfl
 have ba:Jar (b_law cP cR zY z0 [S,none,none,none,none,none,none,none,none,none,none,none,none]):=by
  refine sqR s1 (sqR s2 (sqR s3 ?_));obtain⟨b8,qp,sF⟩:=En (ns.getD 3 0) 8 (by decide);obtain⟨fF,lU,se⟩:=En (ns.getD 2 0) 25 (by decide);obtain⟨x8,rh,sP⟩:=En (ns.getD 2 0) 8 (by decide);obtain⟨aY,lT,sd⟩:=En (ns.getD 2 0) 21 (by decide);have el:(lf N).sz=1/\(lf N).dp=1:=DQ N.n0;have ey:=ES N.n1 (lf N) (17+b8);have pk:∀(i:Nat)(t:Nat),(if(2:Int)<(w:Int)then 2 else(w:Int))=(i:Int)->[T.int fF,T.int x8,T.int aY][i]?=some (.int t)->AL 4 (Ag AB (An Cw (Ac (Ag DE (fz (Ai (Ak 2 Ax) (Ad (fz (Ab 0)) (Ad (gc (.int 2)) Ah)))) (gc (.int 25))) (Ac (Ag DE (fz (Ai (Ak 2 Ax) (Ad (fz (Ab 0)) (Ad (gc (.int 2)) Ah)))) (gc (.int 8))) (Ac (Ag DE (fz (Ai (Ak 2 Ax) (Ad (fz (Ab 0)) (Ad (gc (.int 2)) Ah)))) (gc (.int 21))) Ah)))) (Ai IW (Ac (Ab 3) (Ac (gc (.int 2)) Ah)))) [S,vl N.t,vl (pgT cP z0 N),iv (w:Int),none,none,none,none,none,none,none,none,none]=.nx [S,vl N.t,vl (pgT cP z0 N),iv (w:Int),iv (t:Int),none,none,none,none,none,none,none,none]:=λi t h1 h2=>by
   have g0:([S,vl N.t,vl (pgT cP z0 N),iv (w:Int),none,none,none,none,none,none,none,none,none]:FS)[0]?=some (vl (.zU (ns.map T.int))):=by rw[hS];rfl
   have a:=Dt g0 2 (m:=25) (by decide);have b:=Dt g0 2 (m:=8) (by decide);have c:=Dt g0 2 (m:=21) (by decide);rw[show ns.getD 2 0%25=(fF:Int)from lU]at a;rw[show ns.getD 2 0%8=(x8:Int)from rh]at b;rw[show ns.getD 2 0%21=(aY:Int)from lT]at c;exact AI (JaQ (w:=(w:Int)) rfl a b c h1 h2) rfl
  have bs:∀(x4:Option Sl),AL 5 (Ag Aw (gc (.int 18)) (Ag DE (fz (Ai (Ak 2 Ax) (Ad (fz (Ab 0)) (Ad (gc (.int 3)) Ah)))) (gc (.int 8)))) [S,vl N.t,vl (pgT cP z0 N),iv (w:Int),x4,none,none,none,none,none,none,none,none]=.nx [S,vl N.t,vl (pgT cP z0 N),iv (w:Int),x4,iv ((18+b8:Nat):Int),none,none,none,none,none,none,none]:=λx4=>by
   have g0:([S,vl N.t,vl (pgT cP z0 N),iv (w:Int),x4,none,none,none,none,none,none,none,none]:FS)[0]?=some (vl (.zU (ns.map T.int))):=by rw[hS];rfl
   have a:=Dt g0 3 (m:=8) (by decide);rw[show ns.getD 3 0%8=(b8:Int)from qp]at a;exact AI (t:=.int ((18+b8:Nat):Int)) (Aj Ay a (by rw[Br];push_cast;rfl)) rfl
  have cx:∀(t:Nat),t<100->AL 6 (fz (Ai (Ak 3 B8) (Ad (fz (Ab 1)) (Ad (fz (Ab 4)) (Ad (An Ar (Ac (Ag AB (Ab 1) (gc (.int 0))) (Ac (An Ar Ah) Ah))) Ah))))) [S,vl N.t,vl (pgT cP z0 N),iv (w:Int),iv (t:Int),iv ((18+b8:Nat):Int),none,none,none,none,none,none,none]=.nx [S,vl N.t,vl (pgT cP z0 N),iv (w:Int),iv (t:Int),iv ((18+b8:Nat):Int),vl (chn N.n1 (lf N) t).t,none,none,none,none,none,none]:=λt ht =>AI (Je rfl (Am (Aa rfl)) (by lia) (TV rfl)) rfl
  have cy:∀(t:Nat),AL 7 (fz (Ai (Ak 3 B8) (Ad (fz (Ab 1)) (Ad (Ag Di (Ab 5) (gc (.int 1))) (Ad (An Ar (Ac (Ag AB (Ab 1) (gc (.int 0))) (Ac (An Ar Ah) Ah))) Ah))))) [S,vl N.t,vl (pgT cP z0 N),iv (w:Int),iv (t:Int),iv ((18+b8:Nat):Int),vl (chn N.n1 (lf N) t).t,none,none,none,none,none,none]=.nx [S,vl N.t,vl (pgT cP z0 N),iv (w:Int),iv (t:Int),iv ((18+b8:Nat):Int),vl (chn N.n1 (lf N) t).t,vl (chn N.n1 (lf N) (17+b8)).t,none,none,none,none,none]:=λt =>AI (Je rfl (Aj (Aa rfl) Ay (by rw[HW,show((18+b8:Nat):Int)-1=((17+b8:Nat):Int) by lia])) (by lia) (TV rfl)) rfl
  generalize hy0:chn N.n1 (lf N) (17+b8)=hy at *;obtain rfl|rfl|rfl|rfl:w=0\/w=1\/w=2\/w=3:=by lia
  .
   refine sqR (pk 0 fF rfl rfl) (sqR (bs _) (sqR (cx fF (by lia)) (sqR (cy fF) ?_)));have et:(Ex.cl N.n6 [.nm "x"]).t=.tup [.str "call",.str N.n6,.tup [.tup [.str "name",.str "x"]]]:=rfl;refine sqR (ar:=[S,vl N.t,vl (pgT cP z0 N),iv 0,iv (fF:Int),iv ((18+b8:Nat):Int),vl (chn N.n1 (lf N) fF).t,vl hy.t,vl (Ex.cl N.n6 [.nm "x"]).t,none,none,none,none]) (by rw[et];rfl) (sqR (AU rfl rfl) (sqR (Xi (FV rfl rfl rfl rfl (due0 _ _)) rfl rfl rfl) (sqR (AU rfl rfl) (sqR (AU rfl rfl) ?_))));have W:=λn=>Jca H (cP:=cP) (cR:=cR) (z0:=z0) fF (by lia) (hy:=hy) (by lia) n
   by_cases h20:fF+1<=20
   .exact last (lets:=decide ((fF:Int)+1<=20)) (hZ:=(lf N).t) (due':=(lf N).t) (by rw[tQ (show(fF:Int)+1<=20 by lia)];rfl) (CV (by lia) ((W 2000).1 (by lia))) (CV (by lia) ((W _).1 (by lia))) (.inr (BM ((W _).2 (by lia))))
   .exact last (lets:=decide ((fF:Int)+1<=20)) (hZ:=(lf N).t) (due':=.v) (by rw[tS (show ¬(fF:Int)+1<=20 by lia)];rfl) (BM ((W 2000).2 (by lia))) (BM ((W _).2 (by lia))) (.inr (BM ((W _).2 (by lia))))
  .
   refine sqR (pk 1 x8 rfl rfl) (sqR (bs _) (sqR (cx x8 (by lia)) (sqR (cy x8) ?_)));have et:(Ex.cl N.n7 [.nm "x"]).t=.tup [.str "call",.str N.n7,.tup [.tup [.str "name",.str "x"]]]:=rfl;refine sqR (ar:=[S,vl N.t,vl (pgT cP z0 N),iv 1,iv (x8:Int),iv ((18+b8:Nat):Int),vl (chn N.n1 (lf N) x8).t,vl hy.t,vl (Ex.cl N.n7 [.nm "x"]).t,none,none,none,none]) (by rw[et];rfl) (sqR (AU rfl rfl) (sqR (Xi (FV rfl rfl rfl rfl (due1 x8 _ (by lia))) rfl rfl rfl) (sqR (AU rfl rfl) (sqR (AU rfl rfl) ?_))));have W:=λn=>Jb9 H (cP:=cP) (cR:=cR) (z0:=z0) x8 (by lia) (hy:=hy) (by lia) n
   have ff:=Lv N.n0 N.n2 x8;have q:(2:Int)^(x8+1)<=2^8:=by
    have:=Nat.pow_le_pow_right (n:=2) (by decide) (show x8+1<=8 by lia)
    exact_mod_cast this
   generalize (2:Int)^(x8+1)=p at *;exact last (lets:=true) (hZ:=(full N.n0 N.n2 x8).t) (due':=(full N.n0 N.n2 x8).t) rfl (CV (by lia) ((W 2000).1 (by lia))) (CV (by lia) ((W _).1 (by lia))) (.inr (BM ((W _).2 (by lia))))
  .
   refine sqR (pk 2 aY rfl rfl) (sqR (bs _) (sqR (cx aY (by lia)) (sqR (cy aY) ?_)));have et:(Ex.cl N.n8 [.nm "x",.nm "y"]).t=.tup [.str "call",.str N.n8,.tup [.tup [.str "name",.str "x"],.tup [.str "name",.str "y"]]]:=by simp[Ex.t,Ex.ts]
   refine sqR (ar:=[S,vl N.t,vl (pgT cP z0 N),iv 2,iv (aY:Int),iv ((18+b8:Nat):Int),vl (chn N.n1 (lf N) aY).t,vl hy.t,vl (Ex.cl N.n8 [.nm "x",.nm "y"]).t,none,none,none,none]) (by rw[et];rfl) (sqR (AU rfl rfl) (sqR (Xi (FV rfl rfl rfl rfl (due2 _ _)) rfl rfl rfl) (sqR (DU rfl (AI (Je rfl (Am (Aa rfl)) (by lia) (Am (Aa rfl))) rfl)) (sqR (AU rfl rfl) ?_))));have hB:hy.sz=18+b8/\hy.dp=18+b8:=by lia
   have W:=λn=>Jb8 H (cP:=cP) (cR:=cR) (z0:=z0) aY (18+b8) (by lia) hB (by lia) n
   have cs:=ES N.n1 hy aY;by_cases hk:aY+1<=20/\(aY=0\/aY+(18+b8)<=40)
   .exact last (lets:=decide ((aY:Int)+1<=20/\((aY:Int)=0\/(aY:Int)+((18+b8:Nat):Int)<=40))) (hZ:=(chn N.n1 hy aY).t) (due':=(chn N.n1 hy aY).t) (by rw[tQ (show(aY:Int)+1<=20/\((aY:Int)=0\/(aY:Int)+((18+b8:Nat):Int)<=40) by lia)];rfl) (CV (by lia) ((W 2000).1 (by lia))) (CV (by lia) ((W _).1 (by lia))) (.inr (BM ((W _).2 (by lia))))
   .exact last (lets:=decide ((aY:Int)+1<=20/\((aY:Int)=0\/(aY:Int)+((18+b8:Nat):Int)<=40))) (hZ:=(chn N.n1 hy aY).t) (due':=.v) (by rw[tS (show ¬((aY:Int)+1<=20/\((aY:Int)=0\/(aY:Int)+((18+b8:Nat):Int)<=40)) by lia)];rfl) (BM ((W 2000).2 (by lia))) (BM ((W _).2 (by lia))) (.inr (BM ((W _).2 (by lia))))
  .
   refine sqR (pk 2 aY rfl rfl) (sqR (bs _) (sqR (cx aY (by lia)) (sqR (cy aY) ?_)));obtain⟨bU,k9,o5⟩:=En (ns.getD 2 0) 18 (by decide);obtain⟨bM,lg,pE⟩:=En (ns.getD 3 0) 18 (by decide);generalize hE:T.tup [.str "call",.str N.n8,.tup [.tup [.str "name",.str "x"]]]=E0;refine sqR (ar:=[S,vl N.t,vl (pgT cP z0 N),iv 3,iv (aY:Int),iv ((18+b8:Nat):Int),vl (chn N.n1 (lf N) aY).t,vl hy.t,vl E0,none,none,none,none]) (by rw[<- hE];rfl) ?_;have tx:=EH (N:=N) 10 (140+bU) (by lia) (by lia) (by decide) (by lia);have ty:=EH (N:=N) 10 (140+bM) (by lia) (by lia) (by decide) (by lia);have et:(Ex.mk N.n2 [.nm "x",.nm "y"]).t=.tup [.str "make",.str N.n2,.tup [.tup [.str "name",.str "x"],.tup [.str "name",.str "y"]]]:=by simp[Ex.t,Ex.ts]
   have ev:(Th.mk N.n2 [tre N 10 (140+bU),tre N 10 (140+bM)]).t=.tup [.str N.n2,.tup [(tre N 10 (140+bU)).t,(tre N 10 (140+bM)).t]]:=by simp[Th.t,Th.ts]
   have kO:ifS (asB (Ag (gEq false) (Ab 3) (gc (.int 3)))) (Av (AL 4 (Ag Aw (gc (.int 140)) (Ag DE (fz (Ai (Ak 2 Ax) (Ad (fz (Ab 0)) (Ad (gc (.int 2)) Ah)))) (gc (.int 18)))))
  (Av (AL 5 (Ag Aw (gc (.int 140)) (Ag DE (fz (Ai (Ak 2 Ax) (Ad (fz (Ab 0)) (Ad (gc (.int 3)) Ah)))) (gc (.int 18)))))
  (Av (AL 6 (fz (Ai (Ak 2 (BI 10)) (Ad (fz (Ab 1)) (Ad (fz (Ab 4)) Ah)))))
  (Av (AL 7 (fz (Ai (Ak 2 (BI 10)) (Ad (fz (Ab 1)) (Ad (fz (Ab 5)) Ah)))))
  (AL 8 (An Ar (Ac (gc (.str ("make":Str))) (Ac (Ag AB (Ab 1) (gc (.int 2))) (Ac (An Ar (Ac (An Ar (Ac (gc (.str ("name":Str))) (Ac (gc (.str ("x":Str))) Ah))) (Ac (An Ar (Ac (gc (.str ("name":Str))) (Ac (gc (.str ("y":Str))) Ah))) Ah))) Ah))))))))) nxS [S,vl N.t,vl (pgT cP z0 N),iv 3,iv (aY:Int),iv ((18+b8:Nat):Int),vl (chn N.n1 (lf N) aY).t,vl hy.t,vl E0,none,none,none,none]=.nx [S,vl N.t,vl (pgT cP z0 N),iv 3,iv ((140+bU:Nat):Int),iv ((140+bM:Nat):Int),vl (tre N 10 (140+bU)).t,vl (tre N 10 (140+bM)).t,vl (Ex.mk N.n2 [.nm "x",.nm "y"]).t,none,none,none,none]:=by refine DU rfl ?_;have a:=Dt (ns:=ns) (fs:=[S,vl N.t,vl (pgT cP z0 N),iv 3,iv (aY:Int),iv ((18+b8:Nat):Int),vl (chn N.n1 (lf N) aY).t,vl hy.t,vl E0,none,none,none,none]) (by rw[hS];rfl) 2 (m:=18) (by decide);rw[show ns.getD 2 0%18=(bU:Int)from k9]at a;have b:=Dt (ns:=ns) (fs:=[S,vl N.t,vl (pgT cP z0 N),iv 3,iv ((140+bU:Nat):Int),iv ((18+b8:Nat):Int),vl (chn N.n1 (lf N) aY).t,vl hy.t,vl E0,none,none,none,none]) (by rw[hS];rfl) 3 (m:=18) (by decide);rw[show ns.getD 3 0%18=(bM:Int)from lg]at b;refine sq (AI (t:=.int ((140+bU:Nat):Int)) (Aj Ay a (by rw[Br];push_cast;rfl)) rfl) (sq (AI (t:=.int ((140+bM:Nat):Int)) (Aj Ay b (by rw[Br];push_cast;rfl)) rfl) (sq (AI (LN rfl rfl (by lia) (by lia)) rfl) (sq (AI (LN rfl rfl (by lia) (by lia)) rfl) ?_)));rw[et];rfl
   refine sqR kO (sqR (Xi (FV rfl rfl rfl rfl (due3 _ _)) rfl rfl rfl) (sqR (AU rfl rfl) (sqR (ar:=[S,vl N.t,vl (pgT cP z0 N),iv 3,iv ((140+bU:Nat):Int),iv ((140+bM:Nat):Int),vl (tre N 10 (140+bU)).t,vl (tre N 10 (140+bM)).t,vl (Ex.mk N.n2 [.nm "x",.nm "y"]).t,iv 0,vl (.o (decide (1+((140+bU:Nat):Int)+((140+bM:Nat):Int)<=300))),vl (Th.mk N.n2 [tre N 10 (140+bU),tre N 10 (140+bM)]).t,none]) (by rw[ev];rfl) ?_)));have W:=λn=>Jb7 (cP:=cP) (cR:=cR) (P:=pgT cP z0 N) (hx:=tre N 10 (140+bU)) (hy:=tre N 10 (140+bM)) (m:=N.n2) (by lia) (by lia) n
   have ez:(Th.mk N.n2 [tre N 10 (140+bU),tre N 10 (140+bM)]).sz=1+(140+bU)+(140+bM):=by simp[Th.sz,Th.szs];lia
   have ed:(Th.mk N.n2 [tre N 10 (140+bU),tre N 10 (140+bM)]).dp<=12:=by simp[Th.dp,Th.dps];lia
   by_cases h3:1+(140+bU)+(140+bM)<=300
   .have hf:fits (.mk N.n2 [tre N 10 (140+bU),tre N 10 (140+bM)])=true:=by unfold fits;simp;lia
    exact last (lets:=decide (1+((140+bU:Nat):Int)+((140+bM:Nat):Int)<=300)) (due':=(Th.mk N.n2 [tre N 10 (140+bU),tre N 10 (140+bM)]).t) (by rw[tQ (show 1+((140+bU:Nat):Int)+((140+bM:Nat):Int)<=300 by lia)];rfl) (CV (by lia) ((W 2000).1 hf)) (CV (by lia) ((W _).1 hf)) (.inl rfl)
   .have hf:fits (.mk N.n2 [tre N 10 (140+bU),tre N 10 (140+bM)])=false:=by unfold fits;simp;lia
    exact last (lets:=decide (1+((140+bU:Nat):Int)+((140+bM:Nat):Int)<=300)) (due':=.v) (by rw[tS (show ¬1+((140+bU:Nat):Int)+((140+bM:Nat):Int)<=300 by lia)];rfl) (BM ((W 2000).2 hf)) (BM ((W _).2 hf)) (.inl rfl)
 obtain⟨τ,e⟩:=ba;rw[<- hS]at e;exact⟨_,BB (n:=12) (g:=b_law cP cR zY z0) (args:=[some (.val (.zU (ns.map T.int)))]) e⟩
theorem us1{α:Type}{us:List α}(e:us.length=1):∃a,us=[a]:=by match us,e with| [a],_=>exact⟨a,rfl⟩
theorem us2{α:Type}{us:List α}(e:us.length=2):∃a b,us=[a,b]:=by match us,e with| [a,b],_=>exact⟨a,b,rfl⟩
theorem us3{α:Type}{us:List α}(e:us.length=3):∃a b c,us=[a,b,c]:=by match us,e with| [a,b,c],_=>exact⟨a,b,c,rfl⟩
theorem us4{α:Type}{us:List α}(e:us.length=4):∃a b c d,us=[a,b,c,d]:=by match us,e with| [a,b,c,d],_=>exact⟨a,b,c,d,rfl⟩
theorem us5{α:Type}{us:List α}(e:us.length=5):∃a b c d e,us=[a,b,c,d,e]:=by match us,e with| [a,b,c,d,e],_=>exact⟨a,b,c,d,e,rfl⟩
theorem us6{α:Type}{us:List α}(e:us.length=6):∃a b c d e f,us=[a,b,c,d,e,f]:=by match us,e with| [a,b,c,d,e,f],_=>exact⟨a,b,c,d,e,f,rfl⟩
abbrev DF(K:Fg)(n:Str)(st:Stmt):Prop:=∃f fd,nsIn K mainGlobals n=some (some (.ref f))/\Fun K n n st f fd
abbrev DM(K:Fg)(C:Addr)(m q:Str)(st:Stmt):Prop:=∃f fd,findIn K (.ref C) m=some (some (.ref f))/\isFn K (.ref f)=true/\Fun K m q st f fd
structure CC(K:Fg)(x:Str)(C:Addr):Prop where
 ac:nsIn K mainGlobals x=some (some (.ref C))
 yv:makesIn K C=true
 kc:keepIn K (.ref C)=true
abbrev aF(P:Program)(w:World)(K:Fg)(mg:Str->Option Value)(base:Heap)(n:Str)(k:Nat)(ps:List Str)(p:Nat)(Fn:FS->Out Rv):Prop:=FnAt P w K mg base (CX1 P w) n k ps (spX K p Fn)
abbrev aM(P:Program)(w:World)(K:Fg)(mg:Str->Option Value)(base:Heap)(C:Addr)(n:Str)(k:Nat)(ps:List Str)(p:Nat)(Fn:FS->Out Rv):Prop:=W6 P w K mg base (CX1 P w) C n k ps (spX K p Fn)
abbrev aK(P:Program)(w:World)(K:Fg)(mg:Str->Option Value)(base:Heap)(n:Str)(C:Addr)(k:Nat)(ps:List Str)(p:Nat)(Fn:FS->Out Rv):Prop:=Jau P w K mg base (CX1 P w) n C k ps (spX K p Fn)
variable{P:Program}{w:World}{K:Fg}{mg:Str->Option Value}{base h:Heap}{CX:CXT}{n q:Str}{st:Stmt}{k:Nat}{ps:List Str}{sp:Sp}
section
variable(X:K.In h)(G:h.Ns mainGlobals mg)
abbrev BA(x q:Str)(st:Stmt)(ps:List Str):Prop:=∀(kV di pm:Value)(an:Option Addr)(aV ct:Value)(us:List Value),us.length=ps.length->bindArgs (fnOf x q (GQ st) (Et st) (Bz st) .none kV di pm an aV ct) ⟨us,[]⟩=pure (ps.zip us)
theorem Tb(X:K.In h)(G:h.Ns mainGlobals mg)(d:DF K n st)(B:BA n n st ps)(O:∀f fd,Fun K n n st f fd->(∀k sp,EW P w K mg base CX k f fd ps sp->FnAt P w K mg base CX n k ps sp)->EW P w K mg base CX k f fd ps sp):FnAt P w K mg base CX n k ps sp :=
 let⟨f,fd,a,F⟩:=d
 ⟨f,fd,O f fd F λ_ _ o=>⟨f,fd,o,mg_of X G a,F.kp,F.binds B⟩,mg_of X G a,F.kp,F.binds B⟩
theorem JbE(c:Cls K C)(d:DM K C m q st)(B:BA m q st ps)(O:∀f fd,Fun K m q st f fd->EW P w K mg base CX k f fd ps sp):W6 P w K mg base CX C m k ps sp :=
 let⟨f,fd,a,i,F⟩:=d
 ⟨c,f,fd,O f fd F,⟨a,i,F.kp⟩,F.binds B⟩
theorem JbF(X:K.In h)(G:h.Ns mainGlobals mg)(c:CC K n C)(d:DM K C "__init__" q st)(B:BA "__init__" q st ps)(O:∀f fd,Fun K "__init__" q st f fd->EW P w K mg base CX k f fd ps sp):Jau P w K mg base CX n C k ps sp :=
 let⟨f,fd,a,i,F⟩:=d
 ⟨mg_of X G c.ac,f,fd,O f fd F,⟨c.yv,a,i,c.kc⟩,F.binds B⟩
end
variable{aq ag ai af:Addr}
section
variable(X:K.In h)(G:h.Ns mainGlobals mg)(T:Tx K mg aq ag ai af)(fJ:CC K "Run" aq)(bG:CC K "Program" ag)(cN:CC K "Scope" ai)(cO:CC K "Stock" af)
seal FE FT FA FW FP GS GSs GT GTs FI FAn FIf
set_option hygiene false in
local macro_rules | `(tactic| trivial)=>`(tactic| (
 intro aV A outer s H E _ _ hr lk;have hu:=Y1 hr;have a0:=T.zD;have a1:=T.zQ;have a2:=T.zd;have a3:=T.zc;have a4:=T.zB;have a5:=T.zW;have a6:=T.zA;have a7:=T.zR;have a8:=T.zr;have a9:=T.zK;have sm:=T.zJ;have so:=T.zq;have sr:=T.zN;have su:=T.zw;have sv:=T.ze;have sA:=T.zp;have sC:=T.zM;have sD:=T.zP;have sE:=T.zO;refine GSs.zero ?_
 repeat' first
  | (show FE _ _ _ _;first
   | exact Px _
   | refine IZ ?_
   | exact Uc
   | refine Zo ?_
   | refine Jbn hu ?_ ?_ (fun _ _=>rfl)
   | refine Py (by assumption) (hr.mono (by first | decide | omega)) (by first | exact lk.lk | exact Lks.no) ?_
   | refine ZM ?_ ?_
   | exact Zs
   | refine ZG (by assumption) (by assumption) ?_
   | refine ZC T.yD ?_
   | refine ZD T.xt T.zG (by decide +kernel) ?_
   | refine Zx ?_ ?_
   | exact Jbv
   | refine ZA ?_
   | refine Zw (by assumption) (hr.mono (by first | decide | omega)) (by first | exact lk.lk | exact Lks.no) ?_ ?_
   | refine Sx YI PySem.F.slot_list_append PySem.F.type_list_append Gq ?_ ?_
   | refine Sx Rr PySem.F.slot_list_index PySem.F.type_list_index Rp ?_ ?_
   | refine Sx VM PySem.F.slot_list_extend PySem.F.type_list_extend VH ?_ ?_
   | refine Sx Rt PySem.F.slot_list_count PySem.F.type_list_count Rq ?_ ?_
   | exact Sv
   | refine Ww ?_
   | refine Wx T.yT ?_
   | refine GK false ["part"] [none] rfl ?_ (fun _ _ _ _ _=>IT 0 (va _ _) (Or.inl rfl) (hf:=.inr rfl)) (fun _ _ _ _ _=>?_) (fun _ _ _ _ _=>?_)
   | refine GK false ["sign"] [none] rfl ?_ (fun _ _ _ _ _=>IT 0 (va _ _) (Or.inl rfl) (hf:=.inr rfl)) (fun _ _ _ _ _=>?_) (fun _ _ _ _ _=>?_)
   | refine GK false ["maker","parts"] [none,none] rfl ?_ (fun _ _ _ _ _=>?_) (fun _ _ _ _ _=>?_) (fun _ _ _ _ _=>?_)
   | refine GK false ["kind","name","stock"] [none,some 1,some 0] rfl ?_ (fun _ _ _ _ _=>?_) (fun _ _ _ _ _=>?_) (fun _ _ _ _ _=>?_)
   | refine GK false ["_law_other"] [none] rfl ?_ (fun _ _ _ _ _=>IT 0 (va _ _) (Or.inl rfl) (hf:=.inr rfl)) (fun _ _ _ _ _=>?_) (fun _ _ _ _ _=>?_)
   | refine Zr ?_ ?_
   | exact Jbu (by first | exact T.y1 | exact T.zf | exact T.zj | exact T.zu | exact T.zg | exact T.zF | exact T.za | exact T.zC)
   | refine ZI ?_ ?_
   | refine Sr T.yO ?_
   | refine Jbo ?_ ?_ ?_
   | refine Sz (by assumption) (by assumption) _ (pv _) ?_
   | refine Zv ?_ ?_
   | refine Zy (by assumption) (hr.mono (by first | decide | omega)) ?_
   | refine ZH ?_ ?_
   | refine Jbq ?_ ?_
   | exact Kj
   | refine ZF ?_
   | refine Wy T.yE ?_
   | refine Jbp ?_ ?_
   | exact Ss (by assumption) (by assumption) _ (pv _)
   | refine Nr rfl T.yK T.yN ?_
   | refine Wt (by assumption) (hr.mono (by first | decide | omega)) ?_ (fun ho=>Yf (by assumption) (hr.mono (by first | decide | omega)) Yk ho)
   | refine Wr _ ?_
   | refine Zq T.yA ?_
   | refine Jbs hu ?_ ?_
   | refine Wu T.yB ?_
   | refine ZJ VL PySem.F.slot_str_join PySem.F.type_str_join VG ?_ ?_
   | refine Ws ?_ ?_
   | refine Zt ?_ ?_
   | refine Ud ?_ ?_
   | refine Np (by assumption) (hr.mono (by first | decide | omega)) lk.lk ?_ ?_
   | exact Su T.zD T.zJ 0 (pv 0) (fun _ _=>rfl)
   | refine Wv rfl T.yC ?_
   | exact Jbt T.yX
   | refine ZL T.yG ?_
   | refine ZE T.xt T.zG T.zh ?_
   | refine Zu ?_
   | exact Sw 6 7 (by decide +kernel) (pv 6) (pv 7)
   | refine ZK T.yF ?_
   | refine Nq rfl T.yT T.zv ?_
   | refine Ub ?_ ?_
   | refine Pz (Y2 hr) ?_ ?_
   | refine Ua ?_)
  | (show FA _ _ _ _;first
   | exact ZN
   | refine Wz ?_ ?_)
  | (show GSs _ _ _ _;first
   | refine GC ?_
   | refine Mp ?_ ?_
   | exact Pf)
  | (show GS _ _ _ _;first
   | refine Y4 ?_ ?_ ?_
   | refine E8 false _ ["_law_k","_law_letters","_law_mixed"] [none,some 2,some 3] rfl nd (Or.inl rfl) ?_ (fun _ _ _ _ _=>?_) (fun _ _ _ _ _=>?_) (fun _ _ _ _ _=>?_)
   | refine E8 false _ ["each","kinds_by_name","kinds"] [none,some 13,some 6] rfl nd (Or.inl rfl) ?_ (fun _ _ _ _ _=>?_) (fun _ _ _ _ _=>?_) (fun _ _ _ _ _=>?_)
   | refine E8 false _ ["kind","makers"] [none,none] rfl nd (Or.inl rfl) ?_ (fun _ _ _ _ _=>?_) (fun _ _ _ _ _=>?_) (fun _ _ _ _ _=>?_)
   | refine Kb _ nd (by first | exact Or.inl rfl | exact Or.inr rfl) ?_
   | refine Pg ?_
   | refine V8 ?_
   | refine Y5 lk.own rfl ?_ ?_ ?_
   | refine Y6 (by assumption) (by assumption) _ ?_ (fun hv=>X4 (pv 0) hv rfl)
   | refine Y7 ?_ ?_
   | refine R4 (by assumption) (by assumption) _ _ ?_ (fun hv=>K6 hu (Fp (pv _) rfl) (pv _) hv rfl)
   | refine RX hu ?_ ?_ ?_ (fun he ho hi hs=>Tw he (Ya ho hi hs))
   | refine RY (T.xt.t1 (by decide +kernel)) lk rfl ?_
   | refine RV _ lk.own ?_ ?_
   | exact RW T.zD T.zR 0 (pv 0)
   | exact R3 hu T.zQ T.zW 0 4 (pv 0) (pv 4)
   | refine R5 hu T.zQ T.zW 0 4 9 (pv 0) (pv 4) (pv 9) ?_
   | exact RZ)
  | (show FAn _ _ _ _;first
   | refine Ec ?_ ?_
   | exact Ly)
  | (show GT _ _ _;first
   | refine IT _ (by first | exact nd | exact(show List.Nodup (["maker","parts"]:List Str) by decide +kernel) | exact(show List.Nodup (["kind","makers"]:List Str) by decide +kernel) | exact(show List.Nodup (["kind","name","stock"]:List Str) by decide +kernel) | exact(show List.Nodup (["each","kinds_by_name","kinds"]:List Str) by decide +kernel) | exact(show List.Nodup (["_law_k","_law_letters","_law_mixed"]:List Str) by decide +kernel)) (by first | exact Or.inl rfl | exact Or.inr rfl)
   | refine Y3 rfl ?_)
  | (show GTs _ _ _;first
   | refine RT ?_ ?_ (fun h1 h2=>Rb h1 h2)
   | exact V7)
  | (show FT _ _ _ _;first
   | refine Jbl ?_ ?_
   | refine Zh ?_
   | refine Si ?_ (fun _=>rfl)
   | refine Sk hu ?_ ?_
   | refine Jbg ?_ ?_
   | refine Jbj hu ?_ ?_
   | refine Jbk ?_ ?_
   | refine Sm of_le of_le ?_ ?_ ?_ (fun ha hb hc=>Q0 Rg Rg ha hb hc)
   | refine Jbh ?_ ?_
   | exact Sj T.zD T.zK 0 (pv 0) (he:=fun _=>rfl)
   | refine Jbi ?_ ?_
   | refine Wk (JbX hr) ?_ ?_
   | refine Zi (JbX hr) ?_ ?_
   | refine T6 ?_ ?_
   | refine FW.ft ?_)
  | (show FI _ _ _ _ _;first
   | refine Zn ?_
   | refine Pw T.yP ?_
   | refine Zm T.yN ?_ ?_
   | refine Sq ?_
   | refine Wq T.zv ?_)
  | (show FIf _ _ _;first
   | exact Wo
   | refine Wn ?_)
  | (show FP _ _ _ _;first
   | refine Wl ?_
   | exact Wm)
  | (show FW _ _ _ _;first
   | refine Jbf ?_ ?_
   | refine Zf ?_
   | refine Zg ?_ ?_
   | refine Wj ?_)))
set_option hygiene false in
local macro_rules | `(tactic| exists $N)=>`(tactic| (
 have nd:List.Nodup (($N):List Str):=by decide +kernel
 first
  | refine Tb X G d (fun kV dc pm an aV ct us hl=>?_) fun f fd Fu _=>?_
  | refine JbE (by first | exact T.zD | exact T.zc | exact T.zQ | exact T.zd) d (fun kV dc pm an aV ct us hl=>?_) fun f fd Fu=>?_
  | refine JbF X G (by assumption) d (fun kV dc pm an aV ct us hl=>?_) fun f fd Fu=>?_
 ·first
   | (obtain⟨a,rfl⟩:=us1 hl;rfl)
   | (obtain⟨a,b,rfl⟩:=us2 hl;rfl)
   | (obtain⟨a,b,c,rfl⟩:=us3 hl;rfl)
   | (obtain⟨a,b,c,d,rfl⟩:=us4 hl;rfl)
   | (obtain⟨a,b,c,d,e,rfl⟩:=us5 hl;rfl)
   | (obtain⟨a,b,c,d,e,f,rfl⟩:=us6 hl;rfl)
 ·refine Kg (N:=$N) Fu ⟨rfl,rfl,rfl,nd,rfl,by decide +kernel,by decide +kernel⟩ _ _ rfl rfl ?_;trivial))
include X G T
theorem Oz(d:DF K "_law_names" (top 55)):aF P w K mg base "_law_names" 1 ["_law_cell","_law_count"] 2 Ee:=by exists ["_law_cell","_law_count","_law_letters","_law_mixed","_law_wide","_law_at","_law_base","_law_step","_law_got","_law_k","_law_turned_on"]
variable(fK:aF P w K mg base "_law_names" 1 ["_law_cell","_law_count"] 2 Ee)
theorem M6(d:DF K "is_name" (top 31)):aF P w K mg base "is_name" 1 ["text"] 1 A0:=by exists ["text"]
variable(bg:aF P w K mg base "is_name" 1 ["text"] 1 A0)
include bg in
theorem Hr(d:DF K "check_kinds" (top 48)):aF P w K mg base "check_kinds" 2 ["kinds"] 1 BR:=by exists ["kinds","above","kind","makers"]
variable(cu:aF P w K mg base "check_kinds" 2 ["kinds"] 1 BR)
include bg in
theorem Hq(d:DF K "check_maker" (top 50)):aF P w K mg base "check_maker" 2 ["maker","parts","makers_ahead","all_kinds"] 4 Ba:=by exists ["maker","parts","makers_ahead","all_kinds","part"]
variable(cz:aF P w K mg base "check_maker" 2 ["maker","parts","makers_ahead","all_kinds"] 4 Ba)
theorem Gm(d:DF K "check_ground" (top 51)):aF P w K mg base "check_ground" 1 ["maker","parts","kinds_above"] 3 A7:=by exists ["maker","parts","kinds_above","part"]
variable(bX:aF P w K mg base "check_ground" 1 ["maker","parts","kinds_above"] 3 A7)
include cz bX in
theorem Gk(d:DF K "check_makers" (top 49)):aF P w K mg base "check_makers" 3 ["kinds"] 1 BD:=by exists ["kinds","all_kinds","kinds_above","makers_ahead","kind","makers","first","maker","parts"]
variable(bY:aF P w K mg base "check_makers" 3 ["kinds"] 1 BD)
include cO cu bY in
theorem IG(d:DM K af "__init__" "Stock.__init__" (inClass (top 47) 0)):aK P w K mg base "Stock" af 4 ["self","kinds"] 2 (Ci af):=by exists ["self","kinds","kind","makers","maker","parts"]
variable(cT:aK P w K mg base "Stock" af 4 ["self","kinds"] 2 (Ci af))
theorem Gn(d:DM K af "makers" "Stock.makers" (inClass (top 47) 2)):aM P w K mg base af "makers" 1 ["self","kind"] 2 (Az af):=by exists ["self","kind"]
variable(aL:aM P w K mg base af "makers" 1 ["self","kind"] 2 (Az af))
theorem Ht(d:DM K af "kinds" "Stock.kinds" (inClass (top 47) 1)):aM P w K mg base af "kinds" 1 ["self"] 1 (AR af):=by exists ["self"]
variable(bp:aM P w K mg base af "kinds" 1 ["self"] 1 (AR af))
include aL bp in
theorem K7(d:DF K "is_maker" (top 40)):aF P w K mg base "is_maker" 2 ["stock","name"] 2 (Dj af):=by exists ["stock","name"]
variable(dW:aF P w K mg base "is_maker" 2 ["stock","name"] 2 (Dj af))
include bg aL bp dW in
theorem IF(d:DF K "check_head" (top 39)):aF P w K mg base "check_head" 3 ["stock","heads","function"] 3 (Cg af):=by exists ["stock","heads","function","name","kinds","kind","others","rows","each"]
variable(cU:aF P w K mg base "check_head" 3 ["stock","heads","function"] 3 (Cg af))
theorem Hs(d:DM K af "parts" "Stock.parts" (inClass (top 47) 3)):aM P w K mg base af "parts" 1 ["self","maker"] 2 (Bk af):=by exists ["self","maker"]
variable(bq:aM P w K mg base af "parts" 1 ["self","maker"] 2 (Bk af))
include bg in
theorem Ho(d:DF K "check_names" (top 42)):aF P w K mg base "check_names" 2 ["names"] 1 Cy:=by exists ["names","ahead","name"]
variable(cA:aF P w K mg base "check_names" 2 ["names"] 1 Cy)
theorem IH(d:DM K af "home" "Stock.home" (inClass (top 47) 4)):aM P w K mg base af "home" 1 ["self","maker"] 2 (C0 af):=by exists ["self","maker"]
variable(cS:aM P w K mg base af "home" 1 ["self","maker"] 2 (C0 af))
include bq cS in
theorem FC(d:DF K "kinds_of_head" (top 38)):aF P w K mg base "kinds_of_head" 2 ["scope","form","head"] 3 (Bt ai af):=by exists ["scope","form","head"]
variable(aE:aF P w K mg base "kinds_of_head" 2 ["scope","form","head"] 3 (Bt ai af))
theorem Gj(d:DF K "kind_of_name" (top 37)):aF P w K mg base "kind_of_name" 1 ["scope","name"] 2 (B7 ai):=by exists ["scope","name"]
variable(aN:aF P w K mg base "kind_of_name" 1 ["scope","name"] 2 (B7 ai))
include aE aN in
theorem DO{f:Addr}{fd:FuncData}(Fu:Fun K "kind_within" "kind_within" (top 36) f fd)(gO:∀k sp,EW P w K mg base (CX1 P w) k f fd ["scope","expression"] sp->FnAt P w K mg base (CX1 P w) "kind_within" k ["scope","expression"] sp):∀n,EW P w K mg base (CX1 P w) (3+n) f fd ["scope","expression"] (spX K 2 (AQ ai af n))
 |0=>⟨λvs H Q E h=>by rw[h.1];rfl,λA outer s H args us vs Q E hr he hb hv h=>by obtain⟨_,F,dk,ok,h⟩:=h;exact h.elim⟩
 |n+1=>by
  have kN:=gO _ _ (DO Fu gO n);have nd:List.Nodup (["scope","expression","form","head","arguments","wanted","kind","argument","kind_wanted"]:List Str):=by decide +kernel
  have hb:=Kg (P:=P) (w:=w) (mg:=mg) (base:=base) (k:=3+n) (g:=Cz ai af (AQ ai af n)) (N:=["scope","expression","form","head","arguments","wanted","kind","argument","kind_wanted"]) (ps:=["scope","expression"]) Fu ⟨rfl,rfl,rfl,nd,rfl,by decide +kernel,by decide +kernel⟩ 2 7 rfl rfl (by trivial);exact hb
include aE aN in
theorem Hm(d:DF K "kind_within" (top 36)):aF P w K mg base "kind_within" 11 ["scope","expression"] 2 (AQ ai af 8):=Tb X G d (λ_ _ _ _ _ _ us hl=>by obtain⟨a,b,rfl⟩:=us2 hl;rfl) λf fd F gO=>DO X G T aE aN F gO 8
variable(cB:aF P w K mg base "kind_within" 11 ["scope","expression"] 2 (AQ ai af 8))
include cN in
theorem II(d:DM K ai "__init__" "Scope.__init__" (inClass (top 35) 0)):aK P w K mg base "Scope" ai 1 ["self","stock","heads","kinds_by_name","own","lessers"] 6 (BK ai):=by exists ["self","stock","heads","kinds_by_name","own","lessers"]
variable(cQ:aK P w K mg base "Scope" ai 1 ["self","stock","heads","kinds_by_name","own","lessers"] 6 (BK ai))
include bq cA cB cQ in
theorem JY(d:DF K "check_row" (top 41)):aF P w K mg base "check_row" 12 ["stock","heads","function","maker","row"] 5 (B1 ai af):=by exists ["stock","heads","function","maker","row","name","kinds","kind","others","rows","names","body","parts","kinds_by_name","lessers"]
variable(dA:aF P w K mg base "check_row" 12 ["stock","heads","function","maker","row"] 5 (B1 ai af))
include bG aL cU dA in
theorem Gp(d:DM K ag "__init__" "Program.__init__" (inClass (top 34) 0)):aK P w K mg base "Program" ag 13 ["self","stock","functions"] 3 (BE ag ai af):=by exists ["self","stock","functions","function","name","kinds","kind","others","rows","maker","row"]
variable(bW:aK P w K mg base "Program" ag 13 ["self","stock","functions"] 3 (BE ag ai af))
theorem Rk(d:DF K "_law_rows" (top 60)):aF P w K mg base "_law_rows" 1 ["_law_names_here","_law_word","_law_others","_law_step"] 4 Es:=by exists ["_law_names_here","_law_word","_law_others","_law_step","_law_n","_law_m","_law_calls","_law_one","_law_first","_law_twice"]
variable(gG:aF P w K mg base "_law_rows" 1 ["_law_names_here","_law_word","_law_others","_law_step"] 4 Es)
include cT bW gG in
theorem K9(d:DF K "_law_program" (top 63)):aF P w K mg base "_law_program" 15 ["_law_names_here"] 1 (Dk ag ai af):=by exists ["_law_names_here","_law_kind","_law_stock","_law_functions","_law_k","_law_others","_law_kinds"]
variable(dS:aF P w K mg base "_law_program" 15 ["_law_names_here"] 1 (Dk ag ai af))
theorem OA(d:DF K "_law_chain" (top 58)):aF P w K mg base "_law_chain" 1 ["_law_names_here","_law_count","_law_under"] 3 B8:=by exists ["_law_names_here","_law_count","_law_under","_law_thing","_law_k"]
variable(bA:aF P w K mg base "_law_chain" 1 ["_law_names_here","_law_count","_law_under"] 3 B8)
theorem J1(d:DF K "_law_due_runs" (top 61)):aF P w K mg base "_law_due_runs" 1 ["_law_way","_law_names_here","_law_count","_law_base"] 4 Bm:=by exists ["_law_way","_law_names_here","_law_count","_law_base","_law_thing","_law_k"]
variable(du:aF P w K mg base "_law_due_runs" 1 ["_law_way","_law_names_here","_law_count","_law_base"] 4 Bm)
theorem Lb(d:DF K "_law_cell_at" (top 53)):aF P w K mg base "_law_cell_at" 1 ["_law_script","_law_k"] 2 Ax:=by exists ["_law_script","_law_k"]
variable(dQ:aF P w K mg base "_law_cell_at" 1 ["_law_script","_law_k"] 2 Ax)
include bA in
theorem JX{f:Addr}{fd:FuncData}(Fu:Fun K "_law_tree" "_law_tree" (top 59) f fd)(gO:∀k sp,EW P w K mg base (CX1 P w) k f fd ["_law_names_here","_law_count"] sp->FnAt P w K mg base (CX1 P w) "_law_tree" k ["_law_names_here","_law_count"] sp):∀n,EW P w K mg base (CX1 P w) (2+n) f fd ["_law_names_here","_law_count"] (spX K 2 (BI n))
 |0=>⟨λvs H Q E h=>by rw[h.1];rfl,λA outer s H args us vs Q E hr he hb hv h=>by obtain⟨_,F,dk,ok,h⟩:=h;exact h.elim⟩
 |n+1=>by
  have kN:=gO _ _ (JX Fu gO n);have nd:List.Nodup (["_law_names_here","_law_count","_law_left"]:List Str):=by decide +kernel
  have hb:=Kg (P:=P) (w:=w) (mg:=mg) (base:=base) (k:=2+n) (g:=LH (BI n)) (N:=["_law_names_here","_law_count","_law_left"]) (ps:=["_law_names_here","_law_count"]) Fu ⟨rfl,rfl,rfl,nd,rfl,by decide +kernel,by decide +kernel⟩ 2 1 rfl rfl (by trivial);exact hb
include bA in
theorem Rj(d:DF K "_law_tree" (top 59)):aF P w K mg base "_law_tree" 12 ["_law_names_here","_law_count"] 2 (BI 10):=Tb X G d (λ_ _ _ _ _ _ us hl=>by obtain⟨a,b,rfl⟩:=us2 hl;rfl) λf fd F gO=>JX X G T bA F gO 10
variable(gH:aF P w K mg base "_law_tree" 12 ["_law_names_here","_law_count"] 2 (BI 10))
theorem DH(d:DM K aq "await_arguments" "Run.await_arguments" (inClass (top 26) 2)):aM P w K mg base aq "await_arguments" 1 ["self","part","names","deep"] 4 (A1 aq):=by exists ["self","part","names","deep","argument"]
variable(aX:aM P w K mg base aq "await_arguments" 1 ["self","part","names","deep"] 4 (A1 aq))
theorem Hu(d:DM K ag "row" "Program.row" (inClass (top 34) 3)):aM P w K mg base ag "row" 1 ["self","function","maker"] 3 (Bl ag):=by exists ["self","function","maker"]
variable(cq:aM P w K mg base ag "row" 1 ["self","function","maker"] 3 (Bl ag))
theorem Gi(d:DF K "layer_counts" (top 19)):aF P w K mg base "layer_counts" 1 ["thing"] 1 B6:=by exists ["thing","counts","layer","below","maker","parts"]
variable(bZ:aF P w K mg base "layer_counts" 1 ["thing"] 1 B6)
include bZ in
theorem M5(d:DF K "weighed" (top 25)):aF P w K mg base "weighed" 2 ["thing"] 1 BQ:=by exists ["thing","counts"]
variable(cK:aF P w K mg base "weighed" 2 ["thing"] 1 BQ)
include cq cK in
theorem E4(d:DM K aq "await_body" "Run.await_body" (inClass (top 26) 3)):aM P w K mg base aq "await_body" 3 ["self","function","arguments","deep"] 4 (AV ag aq):=by exists ["self","function","arguments","deep","maker","parts","names","body","values"]
variable(bH:aM P w K mg base aq "await_body" 3 ["self","function","arguments","deep"] 4 (AV ag aq))
theorem Vp(d:DF K "made" (top 27)):aF P w K mg base "made" 1 ["maker","parts"] 2 Kl:=by exists ["maker","parts","whole","deep"]
variable(iF:aF P w K mg base "made" 1 ["maker","parts"] 2 Kl)
theorem J0(d:DM K aq "taken" "Run.taken" (inClass (top 26) 4)):aM P w K mg base aq "taken" 1 ["self","count"] 2 (B3 aq):=by exists ["self","count","newest_first","each"]
variable(dy:aM P w K mg base aq "taken" 1 ["self","count"] 2 (B3 aq))
include aX bH iF dy in
theorem JZ(d:DM K aq "worth" "Run.worth" (inClass (top 26) 1)):aM P w K mg base aq "worth" 4 ["self","names","expression"] 3 (Bu ag aq):=by exists ["self","names","expression","part","names_here","deep","ready"]
variable(dz:aM P w K mg base aq "worth" 4 ["self","names","expression"] 3 (Bu ag aq))
include fJ in
theorem K8(d:DM K aq "__init__" "Run.__init__" (inClass (top 26) 0)):aK P w K mg base "Run" aq 1 ["self","program","most"] 3 (CK aq):=by exists ["self","program","most"]
variable(dU:aK P w K mg base "Run" aq 1 ["self","program","most"] 3 (CK aq))
include cK dz dU in
theorem Yx(d:DF K "run" (top 24)):aF P w K mg base "run" 5 ["program","setting","expression","most"] 4 (f_run ag aq):=by exists ["program","setting","expression","most","names","name","thing"]
variable(hX:aF P w K mg base "run" 5 ["program","setting","expression","most"] 4 (f_run ag aq))
theorem La(d:DF K "_law_classes" (top 56)):aF P w K mg base "_law_classes" 1 ["_law_kept"] 1 CL:=by exists ["_law_kept","_law_got"]
variable(dR:aF P w K mg base "_law_classes" 1 ["_law_kept"] 1 CL)
include dR in
theorem Ox(d:DF K "_law_which" (top 57)):aF P w K mg base "_law_which" 2 ["_law_kept"] 1 Ed:=by exists ["_law_kept"]
variable(dw:aF P w K mg base "_law_which" 2 ["_law_kept"] 1 Ed)
include hX dw in
theorem Oy(d:DF K "_law_right" (top 62)):aF P w K mg base "_law_right" 6 ["_law_program_here","_law_setting","_law_expression","_law_most","_law_due"] 5 (f_Lright ag aq) :=
 Tb X G d (λ_ _ _ _ _ _ us hl=>by obtain⟨a,b,c,d,e,rfl⟩:=us5 hl;rfl) λf fd Fu _=>by
  have nd:List.Nodup (["_law_program_here","_law_setting","_law_expression","_law_most","_law_due","_law_kept","_law_told","e"]:List Str):=by decide +kernel
  refine Kg (N:=["_law_program_here","_law_setting","_law_expression","_law_most","_law_due","_law_kept","_law_told","e"]) Fu ⟨rfl,rfl,rfl,nd,rfl,by decide +kernel,by decide +kernel⟩ 5 3 rfl rfl λaV A outer s H E _ _ hr lk=>?_
  have hu:=Y1 hr;exact(GD (GS.zero (Kb 5 nd (Or.inl rfl) Kj))
   (GD (GS.zero (Kb 6 nd (Or.inl rfl) Kj))
   (GD (R6 T.xt (by decide +kernel) 7 lk nd (λ_ _ lk=>(GC (Kb 6 nd (Or.inl rfl) (IZ (Py hX (hr.mono (by first|decide|omega)) lk.lk (Ec (IZ (Px 0)) (Ec (IZ (Px 1)) (Ec (IZ (Px 2)) (Ec (IZ (Px 3)) Ly))))))))) (λ_=>(GC (Kb 5 nd (Or.inl rfl) (IZ (Px 7))))))
   (GSs.zero (Mp (Y4 (T6 (Px 4) Kj) (GC (Pg (ZH (IZ (Py dw (hr.mono (by first|decide|omega)) lk.lk (Ec (IZ (Px 5)) Ly))) Uc))) Pf)
   (GC (Pg (Ud (Ub (Px 5) Kj) (Ua (Pz (Y2 hr) (Px 6) (Px 4)))))))))))
variable(fL:aF P w K mg base "_law_right" 6 ["_law_program_here","_law_setting","_law_expression","_law_most","_law_due"] 5 (f_Lright ag aq))
include fK dS bA du dQ gH fL in
theorem Yy{f:Addr}{fd:FuncData}(Fu:Fun K "law" "law" (top 64) f fd):EW P w K mg base (CX1 P w) 16 f fd ["_law_script"] (spX K 1 (f_law ag aq ai af)):=by
 have nd:List.Nodup (["_law_script","_law_names_here","_law_program_here","_law_way","_law_count","_law_base","_law_x","_law_y","_law_expression","_law_spent","_law_lets","_law_due","_law_setting"]:List Str):=by decide +kernel
 refine Kg (N:=["_law_script","_law_names_here","_law_program_here","_law_way","_law_count","_law_base","_law_x","_law_y","_law_expression","_law_spent","_law_lets","_law_due","_law_setting"]) Fu ⟨rfl,rfl,rfl,nd,rfl,by decide +kernel,by decide +kernel⟩ _ _ rfl rfl ?_;trivial
end
def QM(K:Fg):Sp:=λvs H Q _=>∃(a:Addr)(ns:List Int),vs=[.ref a]/\SqL K H a (ns.map V.int)/\ns.length<=63/\CT ns<=2^20/\∀H',Q (.o true) H'
theorem LW{F:Wd}{H:Hp}:∀(ns:List Int),Al K F H (ns.map T.int) (ns.map V.int)
 | []=>by simp[Al]
 |n::ns=>by simp only[sW,Al];exact⟨_,_,rfl,by simp[Bf],LW ns⟩
theorem YL(good:∀ns:List Int,ns.length<=63->CT ns<=2^20->∃fs,Fn [some (.val (.zU (ns.map T.int)))]=.ok (.t (.o true)) fs):∀vs H Q E,QM K vs H Q E->spX K 1 Fn vs H Q E:=by
 intro vs H Q E ⟨a,ns,e,hs,hl,hb,k⟩;subst e;obtain⟨fs,eg⟩:=good ns hl hb;have key:∀F:Wd,StL K F H a (ns.map V.int)->(∀b,F b->H b≠none)->(∀b,¬F.p b)->spX K 1 Fn [.ref a] H Q E:=λF st fd np=>by
  refine⟨rfl,F,[some (.val (.zU (ns.map T.int)))],⟨[],?_,tJ,(λ_ m=>nomatch m),fd,?_,λb p=>(np b p).elim,λb _ p=>np b p,(λ_ m=>nomatch m)⟩,?_⟩
  .show AA K F H [some (.val (.zU (ns.map T.int)))] [some (.ref a)] [];simp only[AA];exact⟨_,_,rfl,by simp only[Bf];exact⟨a,_,rfl,st,LW ns⟩,by first|exact⟨rfl,rfl⟩|trivial⟩
  .intro i o e;cases i with|zero=>cases e|succ i=>simp at e
  .rw[eg];intro F' H' u au _ q;obtain⟨L,L',_,⟨_,qu⟩,_⟩:=q;have:u=.o true:=qu;subst this;exact k H'
 rcases hs with hs|hs
 .exact key ⟨λb=>b=a,λ_=>False⟩ (.inl ⟨rfl,hs⟩) (λb e=>by have e':b=a:=e;subst e';rcases hs with z|⟨o,z⟩<;>(rw[z];exact λq=>nomatch q)) λ_ p=>p
 .exact key ⟨λ_=>False,λ_=>False⟩ (.inr hs) (λb e=>e.elim) λ_ p=>p
theorem all_mk{l:OpenLaw}{fa:Addr}(X:K.In h)(G:h.Ns mainGlobals mg)(qA:mg "law"=some (.ref fa))(fJ:CC K "Run" aq)(bG:CC K "Program" ag)(cN:CC K "Scope" ai)(cO:CC K "Stock" af)(T:Tx K mg aq ag ai af)
  (d0:DF K "_law_names" (top 55))
  (d1:DF K "is_name" (top 31))
  (d2:DF K "check_kinds" (top 48))
  (d3:DF K "check_maker" (top 50))
  (d4:DF K "check_ground" (top 51))
  (d5:DF K "check_makers" (top 49))
  (d6:DM K af "__init__" "Stock.__init__" (inClass (top 47) 0))
  (d7:DM K af "makers" "Stock.makers" (inClass (top 47) 2))
  (d8:DM K af "kinds" "Stock.kinds" (inClass (top 47) 1))
  (d9:DF K "is_maker" (top 40))
  (pj:DF K "check_head" (top 39))
  (pq:DM K af "parts" "Stock.parts" (inClass (top 47) 3))
  (pw:DF K "check_names" (top 42))
  (px:DM K af "home" "Stock.home" (inClass (top 47) 4))
  (pz:DF K "kinds_of_head" (top 38))
  (pA:DF K "kind_of_name" (top 37))
  (pB:DF K "kind_within" (top 36))
  (pC:DM K ai "__init__" "Scope.__init__" (inClass (top 35) 0))
  (bM:DF K "check_row" (top 41))
  (pF:DM K ag "__init__" "Program.__init__" (inClass (top 34) 0))
  (pG:DF K "_law_rows" (top 60))
  (pH:DF K "_law_program" (top 63))
  (pI:DF K "_law_chain" (top 58))
  (pJ:DF K "_law_due_runs" (top 61))
  (pK:DF K "_law_cell_at" (top 53))
  (pL:DF K "_law_tree" (top 59))
  (pM:DM K aq "await_arguments" "Run.await_arguments" (inClass (top 26) 2))
  (pN:DM K ag "row" "Program.row" (inClass (top 34) 3))
  (pP:DF K "layer_counts" (top 19))
  (pQ:DF K "weighed" (top 25))
  (pR:DM K aq "await_body" "Run.await_body" (inClass (top 26) 3))
  (pS:DF K "made" (top 27))
  (pT:DM K aq "taken" "Run.taken" (inClass (top 26) 4))
  (pU:DM K aq "worth" "Run.worth" (inClass (top 26) 1))
  (pV:DM K aq "__init__" "Run.__init__" (inClass (top 26) 0))
  (pW:DF K "run" (top 24))
  (pX:DF K "_law_classes" (top 56))
  (pY:DF K "_law_which" (top 57))
  (pZ:DF K "_law_right" (top 62))
  (p0:DF K "law" (top 64)) :
  ∃fd:FuncData,(∀(s:Shared)(v:Value),BindsTo s fd ⟨[v],[]⟩ [("_law_script",v)])/\∀base:Heap,K.In base->base.Ns mainGlobals mg->EW l.prog w K mg base (CX1 l.prog w) 16 fa fd ["_law_script"] (QM K):=by
 obtain⟨f,fd,a,F⟩:=p0;cases qA.symm.trans (mg_of X G a);refine⟨fd,by obtain⟨_,_,_,_,_,_,_,_,_,rfl,_⟩:=F.ex;exact λs v=>.of_eq rfl,λbase _ _=>?_⟩;have G0:=Oz (P:=l.prog) (w:=w) (base:=base) X G T  d0;have G1:=M6 (P:=l.prog) (w:=w) (base:=base) X G T  d1;have G2:=Hr (P:=l.prog) (w:=w) (base:=base) X G T G1 d2;have G3:=Hq (P:=l.prog) (w:=w) (base:=base) X G T G1 d3;have G4:=Gm (P:=l.prog) (w:=w) (base:=base) X G T  d4;have G5:=Gk (P:=l.prog) (w:=w) (base:=base) X G T G3 G4 d5;have G6:=IG (P:=l.prog) (w:=w) (base:=base) X G T cO G2 G5 d6;have G7:=Gn (P:=l.prog) (w:=w) (base:=base) X G T  d7;have G8:=Ht (P:=l.prog) (w:=w) (base:=base) X G T  d8;have G9:=K7 (P:=l.prog) (w:=w) (base:=base) X G T G7 G8 d9;have og:=IF (P:=l.prog) (w:=w) (base:=base) X G T G1 G7 G8 G9 pj;have mH:=Hs (P:=l.prog) (w:=w) (base:=base) X G T  pq;have oh:=Ho (P:=l.prog) (w:=w) (base:=base) X G T G1 pw;have oi:=IH (P:=l.prog) (w:=w) (base:=base) X G T  px;have oj:=FC (P:=l.prog) (w:=w) (base:=base) X G T mH oi pz;have om:=Gj (P:=l.prog) (w:=w) (base:=base) X G T  pA;have oo:=Hm (P:=l.prog) (w:=w) (base:=base) X G T oj om pB;have oq:=II (P:=l.prog) (w:=w) (base:=base) X G T cN pC;have ot:=JY (P:=l.prog) (w:=w) (base:=base) X G T mH oh oo oq bM;have ou:=Gp (P:=l.prog) (w:=w) (base:=base) X G T bG G7 og ot pF;have ow:=Rk (P:=l.prog) (w:=w) (base:=base) X G T  pG;have oy:=K9 (P:=l.prog) (w:=w) (base:=base) X G T G6 ou ow pH;have mI:=OA (P:=l.prog) (w:=w) (base:=base) X G T  pI;have oz:=J1 (P:=l.prog) (w:=w) (base:=base) X G T  pJ;have oB:=Lb (P:=l.prog) (w:=w) (base:=base) X G T  pK;have oC:=Rj (P:=l.prog) (w:=w) (base:=base) X G T mI pL;have oE:=DH (P:=l.prog) (w:=w) (base:=base) X G T  pM;have oF:=Hu (P:=l.prog) (w:=w) (base:=base) X G T  pN;have oG:=Gi (P:=l.prog) (w:=w) (base:=base) X G T  pP;have mJ:=M5 (P:=l.prog) (w:=w) (base:=base) X G T oG pQ;have oH:=E4 (P:=l.prog) (w:=w) (base:=base) X G T oF mJ pR;have oI:=Vp (P:=l.prog) (w:=w) (base:=base) X G T  pS;have oJ:=J0 (P:=l.prog) (w:=w) (base:=base) X G T  pT;have oK:=JZ (P:=l.prog) (w:=w) (base:=base) X G T oE oH oI oJ pU;have oM:=K8 (P:=l.prog) (w:=w) (base:=base) X G T fJ pV;have oN:=Yx (P:=l.prog) (w:=w) (base:=base) X G T mJ oK oM pW;have oO:=La (P:=l.prog) (w:=w) (base:=base) X G T  pX;have oP:=Ox (P:=l.prog) (w:=w) (base:=base) X G T oO pY;have oQ:=Oy (P:=l.prog) (w:=w) (base:=base) X G T oN oP pZ;exact(Yy (P:=l.prog) (w:=w) (base:=base) X G T G0 oy mI oz oB oC oQ F).imp (YL (good ag aq ai af))
theorem exG{α:Type}{x:Str}{v:α->Value}{t:α}(X:K.In h)(G:h.Ns mainGlobals mg)(e:nsIn K mainGlobals x=some (some (v t))):∃t,mg x=some (v t):=⟨t,mg_of X G e⟩
theorem naG(e:findIn K (.ref C) f=some none):A2 K C f:=e
theorem walk{l:OpenLaw}{q:Program}{loose:List Str}{XP:(Str->Option Value)->Heap->Prop}{d:DefRec}{K:Params->Fg}{as:List Addr}{N tk:Nat}(hn:l.most=some 63)(kq:d.params.defaults=[])(hK:∀P:Params,as=(K P).map (·.1))
  (F:∀(w:World)(mg:Str->Option Value)(fa:Addr)(h:Heap),(K w.params).In h->h.Ns mainGlobals mg->mg d.name=some (.ref fa) ->
   ∃fd:FuncData,(∀(s:Shared)(u:Value),BindsTo s fd ⟨[u],[]⟩ [("_law_script",u)])/\∀base:Heap,(K w.params).In base->base.Ns mainGlobals mg->EW l.prog w (K w.params) mg base (CX1 l.prog w) 16 fa fd ["_law_script"] (QM (K w.params))) :
  WalkX q loose XP (PySem.W.X.obsZ as) (PySem.W.X.valZ K N tk) l.row.toRowW d [] (λf vs=>PySem.call f vs) :=
 L2.KZ (n:=63) (k:=16) (x:="_law_script") (CX:=λw=>CX1 l.prog w) (sp:=QM) hn (by decide) kq ⟨rfl,by decide,by decide⟩ hK F (λ_ _ a ns hl hb _ hS=>⟨a,ns,rfl,hS,hl,hb,λ_=>rfl⟩) λ_ _ _ _ _ ⟨_,_,_,_,_,_,_,_,_,_,_,q⟩=>q
end Sy
inductive PySem.W.Fast:Prop|tw13597613946615480846|tw10716772043011696399|tw6750652050330051543|tw9445405273198597508|tw9496304991802022256|tw10736250679699222316|tw16624357156990312433|tw1060542936167797039|tw10457849764137510329|tw1607379938097164148|tw14033068635346948495|tw5849928766178945759|tw8167866114063762537|tw2451115208333873347|tw3765212144469051614|tw7675611021035796724|tw5958185753612723031|tw13379202547262955804|tw12486919594771228539|tw9501336819188570262|tw14145052690946580816|tw6943228910687082967|tw4343976869365235736|tw7582827924890002933|tw7100916567119763296|tw7714438953961379408|tw14162206690424014500|tw2555713959242009606|tw18088677009812588283|tw9367546299506395413|tw2110998701923453195|tw9137851989459734793|tw12478044812012552665|tw8085267257825495169|tw12104732713686056195|tw850966338797903883|tw17610086468659941480|tw10218865981852014742|tw17031547072263317159|tw13652899437884415039|tw15592017195951381347|tw6092320228327881977|tw5839871020923389645|tw5563651895246889205|tw3401189413542192210|tw1885096146150987079|tw14326793836800431481|tw3570314707946605404|tw17883609863281656190|tw6827083795831946789|tw7072320954692787512|tw11758847549880165571|tw11174383263535971278|tw9760943771020940133|tw5575865259431665705|tw4664720768993213404|tw12041127653403559115|tw17228460247570432494|tw8351120056682911974|tw12426929363617043850|tw18155255494196673614|tw7127688326523566902|tw7098166178478564350|tw10987543506886753603|tw18071318227003164729|tw3163011009385782883|tw6615055492628970386|tw7072402673365395335|tw14691900388814530765|tw425403639690691345|tw7278650218448888432|tw319469525403994126|tw16811178200061250321|tw12327218288830253046|tw12223523432040836992|tw6410964065276464878|tw6293998970778589402|tw6288770791686155569|tw7743048362989619229|tw9600669373437559393|tw13312823471182391953|tw11538043489629600719|tw3221691527889471083|tw7318750747756982364|tw9534418690695424954|tw16227286633436684335|tw9277292230184237364|tw9895229022335636422|tw4707944830419543651|tw9334715804295212791|tw6128065891238742061|tw9288979471155465201|tw6624405729654186808|tw5874666598355028905|tw6147057315791704552|tw4645477726657804958|tw17542269672346393287|tw2235486754902224904|tw5271295788657931781|tw11110619902827556874|tw9088642148886468086|tw7539183783611979831|tw17457798489007199016|tw9933199357405074303|tw16906785891943170882|tw15133900537494192261|tw10174766433775193993|tw2543879159946992777|tw6766209400537137945|tw5080084609223277921|tw5473227673030671309|tw13999199271804263138|tw6338981285217695853|tw966753456221805680|tw2903496135933963024|tw211880525145860213|tw11873437044610645168|tw3756554103697458088|tw12253774231952926721|tw2479600611678468967|tw6550674484598038859|tw14804310646692647932|tw11214886946384011724|tw3042239383945903272|tw17658947184034740353|tw5299432105782198335|tw15580549194721571206|tw9993867128242227354|tw14937579420689318138|tw2603634679421278931|tw1405223299075086239|tw2830365837633673138|tw7789153380592678485|tw9798452800991342074|tw16913063069069160378|tw7607357395361243147|tw2387780926088033512|tw12311284419803469605|tw13748958621042461365|tw10494464989174839958|tw2540471285411323192|tw18444257833604344879
open PySem PySem.W PyProof.Rows
set_option maxRecDepth 100000 in
set_option maxHeartbeats 0 in
theorem PySem.Challenge.cw_stairsay_k22_too_long_holds : PySem.Challenge.rw_stairsay_k22_too_long.Holds := by
 w_on;o_law;z_head;(case hw=>w_witness2)
 k_fill
 refine Sy.walk (l:=PySem.Challenge.rw_stairsay_k22_too_long) rfl rfl (λP=>rfl) ?F
 case F =>
  intro w mg fa h KX G jQ;refine' Sy.all_mk KX G jQ ⟨?_,?_,?_⟩ ⟨?_,?_,?_⟩ ⟨?_,?_,?_⟩ ⟨?_,?_,?_⟩ ⟨PySem.W.mg_none_of KX G ?_,PySem.W.mg_none_of KX G ?_,PySem.W.mg_none_of KX G ?_,PySem.W.mg_none_of KX G ?_,PySem.W.mg_none_of KX G ?_,PySem.W.mg_none_of KX G ?_,PySem.W.mg_none_of KX G ?_,PySem.W.mg_none_of KX G ?_,PySem.W.mg_none_of KX G ?_,PySem.W.mg_none_of KX G ?_,PySem.W.mg_none_of KX G ?_,PySem.W.mg_none_of KX G ?_,PySem.W.mg_none_of KX G ?_,PySem.W.mg_none_of KX G ?_,PySem.W.mg_none_of KX G ?_,Sy.exG KX G ?_,Sy.exG KX G ?_,Sy.exG KX G ?_,Sy.exG KX G ?_,Sy.exG KX G ?_,Sy.exG KX G ?_,Sy.exG KX G ?_,Sy.exG KX G ?_,Sy.exG KX G ?_,⟨?_,?_,?_,?_⟩,⟨?_,?_,?_,?_⟩,⟨?_,?_,?_,?_⟩,⟨?_,?_,?_,?_⟩,Sy.naG ?_,Sy.naG ?_,Sy.naG ?_,Sy.naG ?_,Sy.naG ?_,Sy.naG ?_,Sy.naG ?_,Sy.naG ?_,Sy.naG ?_,Sy.naG ?_,Sy.naG ?_,Sy.naG ?_,Sy.naG ?_,Sy.naG ?_,Sy.naG ?_,.of KX G (by kernel_rfl)⟩ ⟨_,_,?_,L2.AM ?_ ?_ ?_⟩ ⟨_,_,?_,L2.AM ?_ ?_ ?_⟩ ⟨_,_,?_,L2.AM ?_ ?_ ?_⟩ ⟨_,_,?_,L2.AM ?_ ?_ ?_⟩ ⟨_,_,?_,L2.AM ?_ ?_ ?_⟩ ⟨_,_,?_,L2.AM ?_ ?_ ?_⟩ ⟨_,_,?_,?_,L2.AM ?_ ?_ ?_⟩ ⟨_,_,?_,?_,L2.AM ?_ ?_ ?_⟩ ⟨_,_,?_,?_,L2.AM ?_ ?_ ?_⟩ ⟨_,_,?_,L2.AM ?_ ?_ ?_⟩ ⟨_,_,?_,L2.AM ?_ ?_ ?_⟩ ⟨_,_,?_,?_,L2.AM ?_ ?_ ?_⟩ ⟨_,_,?_,L2.AM ?_ ?_ ?_⟩ ⟨_,_,?_,?_,L2.AM ?_ ?_ ?_⟩ ⟨_,_,?_,L2.AM ?_ ?_ ?_⟩ ⟨_,_,?_,L2.AM ?_ ?_ ?_⟩ ⟨_,_,?_,L2.AM ?_ ?_ ?_⟩ ⟨_,_,?_,?_,L2.AM ?_ ?_ ?_⟩ ⟨_,_,?_,L2.AM ?_ ?_ ?_⟩ ⟨_,_,?_,?_,L2.AM ?_ ?_ ?_⟩ ⟨_,_,?_,L2.AM ?_ ?_ ?_⟩ ⟨_,_,?_,L2.AM ?_ ?_ ?_⟩ ⟨_,_,?_,L2.AM ?_ ?_ ?_⟩ ⟨_,_,?_,L2.AM ?_ ?_ ?_⟩ ⟨_,_,?_,L2.AM ?_ ?_ ?_⟩ ⟨_,_,?_,L2.AM ?_ ?_ ?_⟩ ⟨_,_,?_,?_,L2.AM ?_ ?_ ?_⟩ ⟨_,_,?_,?_,L2.AM ?_ ?_ ?_⟩ ⟨_,_,?_,L2.AM ?_ ?_ ?_⟩ ⟨_,_,?_,L2.AM ?_ ?_ ?_⟩ ⟨_,_,?_,?_,L2.AM ?_ ?_ ?_⟩ ⟨_,_,?_,L2.AM ?_ ?_ ?_⟩ ⟨_,_,?_,?_,L2.AM ?_ ?_ ?_⟩ ⟨_,_,?_,?_,L2.AM ?_ ?_ ?_⟩ ⟨_,_,?_,?_,L2.AM ?_ ?_ ?_⟩ ⟨_,_,?_,L2.AM ?_ ?_ ?_⟩ ⟨_,_,?_,L2.AM ?_ ?_ ?_⟩ ⟨_,_,?_,L2.AM ?_ ?_ ?_⟩ ⟨_,_,?_,L2.AM ?_ ?_ ?_⟩ ⟨_,_,?_,L2.AM ?_ ?_ ?_⟩
  all_goals try k_is
