import PyProof.Rows.All
import Wide.All
import OpenK.AllK
import Wide.FinOn
import Lean
import PyProof.EqAt
import PyProof.EqKinds
import PyProof.TupleCall
import PyProof.MaxThree
import PyProof.IsRules
import PySem.Challenge.RW_speakmill_k67_ends
set_option Elab.async false
set_option linter.all false
set_option maxRecDepth 100000
set_option maxHeartbeats 8000000
set_option compiler.extract_closed false
noncomputable section
open List (all_eq_true any_cons append_nil drop_eq_nil_of_le filterMap_cons find?_cons flatMap_append flatMap_cons flatten_cons getD_eq_getElem?_getD getElem?_append_left getElem?_append_right getElem?_map getElem?_of_mem getElem?_reverse length_append length_cons length_drop length_map length_nil length_replicate length_reverse length_singleton length_take lookup_cons map_append map_cons map_map map_nil mem_append mem_append_left mem_append_right mem_cons mem_cons_of_mem mem_cons_self mem_filter mem_filterMap mem_map mem_of_getElem? mem_range mem_singleton nil_append nodup_cons not_mem_nil of_mem_zip replicate_succ reverse_cons size_toArray sum_append sum_cons sum_nil take_length take_of_length_le take_succ take_succ_eq_append_getElem)
open Nat (add_zero le_of_eq le_of_lt le_succ le_trans lt_irrefl lt_of_lt_of_le lt_succ_self lt_trans min_eq_left min_eq_right mul_le_mul ne_of_lt sub_zero zero_add zero_le)
open PySem.Heap (get?_push_size get?_update_other get?_update_self lt_size size_push)
open Option (map_eq_some_iff map_some ne_none_iff_exists')
open PySem.W (callWith_K codeIn emptyDict envX findIn fnOf instObj isFn kia_one kia_tup kitAny kitOne kitx_dict kitx_list kla_obj lookIn plainGet)
open PyProof.Rows (callWith_type1)
abbrev bZ:=@PySem.wpAny_bind
abbrev pZ:=@PySem.wpAny_pure
abbrev gZ:=@PySem.Heap.get?_push_of_some
abbrev nZ:=Bool.false_ne_true
abbrev FZ:=PySem.W.Frag
noncomputable abbrev kZ:=@PySem.W.keepIn
abbrev cZ{α:Type}{a b:α}{l:List α}:=(mem_cons (a:=a) (b:=b) (l:=l)).mp
abbrev sZ{α:Type}{a b:α}:=(mem_singleton (a:=a) (b:=b)).mp
namespace L2
open PySem PySem.Spec PyProof.Rows
abbrev Key:=Sum Int Str
def HV:Key->Value->Bool
 | .inl k,v=>Value.isInt k v
 | .inr x,v=>Value.isStrOf x v
noncomputable def dGZ(w:World):Key->Int
 | .inl k=>hashInt k
 | .inr x=>hashStr w x
theorem J6:∀ {k:Key} {v:Value},HV k v=true->(∃i t,k=Sum.inl i/\v=Value.int i t)\/(∃x t,k=Sum.inr x/\v=Value.str x t)
 | .inl i,v,h=>by
  obtain⟨t,e⟩:=Value.isInt_shape (k:=i) (v:=v) h
  exact .inl ⟨i,t,rfl,e⟩
 | .inr x,v,h=>by
  obtain⟨t,e⟩:=Value.isStrOf_shape (x:=x) (v:=v) h
  exact .inr ⟨x,t,rfl,e⟩
theorem UH(i:Int)(t:Tok):HV (.inl i) (.int i t)=true:=by simp[HV,Value.isInt]
theorem UF(x:Str)(t:Tok):HV (.inr x) (.str x t)=true:=by simp[HV,Value.isStrOf]
theorem bqZ(a b:Int):decide ((Sum.inl a:Key)=Sum.inl b)=(a==b):=by
 by_cases e:a=b
 ·subst e;simp
 ·have h:¬(Sum.inl a:Key)=Sum.inl b:=λq=>e (Sum.inl.inj q)
  rw[decide_eq_false h]
  exact(beq_eq_false_iff_ne.mpr e).symm
theorem bPZ(a b:Str):decide ((Sum.inr a:Key)=Sum.inr b)=decide (a=b):=by
 by_cases e:a=b
 ·subst e;simp
 ·have h:¬(Sum.inr a:Key)=Sum.inr b:=λq=>e (Sum.inr.inj q)
  rw[decide_eq_false h,decide_eq_false e]
theorem caZ(a:Int)(b:Str):decide ((Sum.inl a:Key)=Sum.inr b)=false:=decide_eq_false (λq=>nomatch q)
theorem bNZ(a:Str)(b:Int):decide ((Sum.inr a:Key)=Sum.inl b)=false:=decide_eq_false (λq=>nomatch q)
noncomputable def J7(prog:Program)(w:World):PySem.KeyKind prog w Key where
 is:=HV
 hash:=dGZ w
 inj:=λv a b ha hb=>by
  rcases J6 ha with⟨i,t,rfl,rfl⟩|⟨x,t,rfl,rfl⟩
  ·rcases J6 hb with⟨j,u,rfl,e⟩|⟨y,u,rfl,e⟩
   ·injection e with e1 _;rw[e1]
   ·exact nomatch e
  ·rcases J6 hb with⟨j,u,rfl,e⟩|⟨y,u,rfl,e⟩
   ·exact nomatch e
   ·injection e with e1 _;rw[e1]
 byValue:=λk v h=>by
  rcases J6 h with⟨i,t,rfl,rfl⟩|⟨x,t,rfl,rfl⟩<;>rfl
 pyHash:=λhv h=>by
  rcases J6 hv with⟨i,t,rfl,rfl⟩|⟨x,t,rfl,rfl⟩
  ·exact wpAny_pyHash_int h
  ·exact wpAny_pyHash_str h
 eqBool:=λhu hv h=>by
  rcases J6 hu with⟨i,t,rfl,rfl⟩|⟨x,t,rfl,rfl⟩
  ·rcases J6 hv with⟨j,u,rfl,rfl⟩|⟨y,u,rfl,rfl⟩
   ·rw[bqZ]at h;exact wpAny_eqBool_int h
   ·rw[caZ]at h;exact SeqAt.EqAt.int_str i t y u _ _ _ _ h
  ·rcases J6 hv with⟨j,u,rfl,rfl⟩|⟨y,u,rfl,rfl⟩
   ·rw[bNZ]at h;exact SeqAt.EqAt.str_int x t j u _ _ _ _ h
   ·rw[bPZ]at h;exact wpAny_eqBool_str h
 «strs»:=λk x t v h=>by
  rcases J6 h with⟨i,u,rfl,e⟩|⟨y,u,rfl,e⟩
  ·exact nomatch e
  ·injection e with e1 _
   subst e1
   cases v<;>rfl
theorem NA(prog:Program)(w:World)(i:Int)(t:Tok):(J7 prog w).is (.inl i) (.int i t)=true:=UH i t
theorem ME(prog:Program)(w:World)(x:Str)(t:Tok):(J7 prog w).is (.inr x) (.str x t)=true:=UF x t
inductive V where
 |non|bl (b:Bool)|int (i:Int)|str (x:Str)|byt (b:Array UInt8)|flt (b:UInt64)|ref (a:Addr)|ty (n:String)
 deriving DecidableEq
def RelV:V->Value->Prop
 | .non,u=>u=Value.none
 | .bl b,u=>u=Value.bool b
 | .int i,u=>∃t,u=Value.int i t
 | .str x,u=>∃t,u=Value.str x t
 | .byt b,u=>∃t,u=Value.bytes b t
 | .flt b,u=>∃t,u=Value.float b t
 | .ref a,u=>u=Value.ref a
 | .ty n,u=>u=Value.type n
abbrev Vals:List V->List Value->Prop:=Paired RelV
theorem Vals.length{xs:List V}{us:List Value}(r:Vals xs us):xs.length=us.length:=Paired.length r
theorem Vals.get:∀ {xs:List V} {us:List Value} {i:Nat} {x:V},Vals xs us->xs[i]? =some x->∃u,us[i]? =some u/\RelV x u
 |_,_,_,_,.nil,e=>by simp at e
 |_,_,0,_,.cons r _,e=>by simp at e;subst e;exact⟨_,rfl,r⟩
 |_,_,i+1,x,.cons _ t,e=>by
  obtain⟨u,h1,h2⟩:=Vals.get (i:=i) (x:=x) t (by simpa using e)
  exact⟨u,by simpa using h1,h2⟩
theorem Vals.set{x:V}{u:Value}(r:RelV x u):∀ {xs:List V} {us:List Value} (i:Nat),Vals xs us->Vals (xs.set i x) (us.set i u)
 |_,_,_,.nil=> .nil
 |_,_,0,.cons _ t=> .cons r t
 |_,_,i+1,.cons q t=> .cons q (Vals.set r i t)
theorem Vals.append:∀ {xs ys:List V} {us ws:List Value},Vals xs us->Vals ys ws->Vals (xs++ys) (us++ws)
 |_,_,_,_,.nil,s=>s
 |_,_,_,_,.cons r t,s=> .cons r (Vals.append t s)
theorem Vals.take:∀ {xs:List V} {us:List Value} (n:Nat),Vals xs us->Vals (xs.take n) (us.take n)
 |_,_,0,_=> .nil
 |_,_,_+1,.nil=> .nil
 |_,_,n+1,.cons r t=> .cons r (Vals.take n t)
theorem Vals.drop:∀ {xs:List V} {us:List Value} (n:Nat),Vals xs us->Vals (xs.drop n) (us.drop n)
 |_,_,0,r=>r
 |_,_,_+1,.nil=> .nil
 |_,_,n+1,.cons _ t=>Vals.drop n t
def RelO:Option V->Option Value->Prop
 |some v,some u=>RelV v u
 |none,none=>True
 |_,_=>False
def KV{κ:Type}:List (κ×V)->List (κ×Value)->Prop:=Paired λ(p:κ×V) (q:κ×Value)=>p.1=q.1/\RelV p.2 q.2
noncomputable def kV:Key->V
 | .inl i=> .int i
 | .inr x=> .str x
inductive HO where
 |lst (xs:List V)
 |tup (xs:List V)
 |dK (kvs:List (Key×V))|dT (kvs:List (List Key×V))
 |set(S:Int->Bool) (n:Nat)
 |ins (C dx:Addr) (fs:List (Str×V))
 |own (x:Addr)
 |xd (fs:List (Str×V))
 |met (f x:Addr)
 |rng (lo hi:Int)
 |frz (o:Obj) (u:HO)
 |tbl (ps:Array Value)
 |ext (φ:Heap->Prop)
abbrev Hp:=Addr->Option HO
noncomputable def upd(H:Hp)(a:Addr)(o:HO):Hp:=λb=>if b=a then some o else H b
theorem upd_same{H:Hp}{a:Addr}{o:HO}:upd H a o a=some o:=by unfold upd;rw[if_pos rfl]
theorem B8{H:Hp}{a b:Addr}{o:HO}(h:b≠a):upd H a o b=H b:=by unfold upd;rw[if_neg h]
theorem RA{H:Hp}{a:Addr}{o u:HO}:upd (upd H a o) a u=upd H a u:=by
 funext b;unfold upd;split<;>rfl
theorem IH{H:Hp}{a b:Addr}{o u:HO}(h:H a=some o)(h':H b=some u)(d:o≠u):a≠b:=by
 intro e;subst e;rw[h]at h';exact d (Option.some.inj h')
theorem C6{H:Hp}{a b:Addr}{o:HO}(h:H a=some o)(h':H b=none):a≠b:=by
 intro e;subst e;rw[h]at h';cases h'
section
variable(P:Program)(w:World)
def ObjOk(H:Hp)(h:Heap)(a:Addr):HO->Prop
 | .lst xs=>xs.length<=sizeLine/\∃(its:List Value) (n:Nat),Vals xs its/\h.get? a=some {cls:=.type "list",data:=.seq its.toArray n}
 | .tup xs=>xs.length<=sizeLine/\∃its:List Value,Vals xs its/\IsTup h a its.toArray
 | .dK kvs=>kvs.length<=sizeLine/\(a==sysModules)=false/\∃vs,KV kvs vs/\h.DictOf (J7 P w) a vs
 | .dT kvs=>kvs.length<=sizeLine/\(a==sysModules)=false/\∃xs:List (List Key×Addr×Value),
   Paired (λ(p:List Key×V) (q:List Key×Addr×Value)=>p.1=q.1/\H q.2.1=some (.tup (p.1.map kV))/\RelV p.2 q.2.2) kvs xs/\
   ∃o es ep,h.get? a=some o/\o.ExactDict/\o.data=.dict es ep/\es.toList=xs.map (entryOfKey (tupleKind (J7 P w)))/\(xs.map (·.1)).Nodup
 | .set S n=>h.SetOf (intKind P w) a S n
 | .ins C dx fs=>H dx=some (.own a)/\fs.length<=1000/\dx≠a/\h.get? a=some (instObj C dx)/\
   ∃mA,h.Ns1 dx mA/\(∀f,RelO (fs.lookup f) (mA f))/\PySem.Within mA (fs.map (·.1))
 | .own _=>∃o,h.get? a=some o
 | .xd fs=>∃mA,h.Ns1 a mA/\∀f,RelO (fs.lookup f) (mA f)
 | .rng lo hi=>∃t u v,h.get? a=some {cls:=.type "range",data:=.fields #[.int lo t,.int hi u,.int 1 v]}
 | .frz o u=>h.get? a=some o/\ObjOk H h a u
 | .tbl ps=>h.get? a=some {cls:=.none,data:=.fields ps}
 | .met f x=>h.get? a=some (PySem.W.methodObj (.ref f) (.ref x))
 | .ext φ=>φ h/\(∃o,h.get? a=some o)/\∀h1 h2:Heap,φ h1->(∀o,h1.get? a=some o->h2.get? a=some o)->φ h2
def HOk(H:Hp)(h:Heap):Prop:=∀a o,H a=some o->ObjOk P w H h a o
end
section
variable{P:Program}{w:World}{H H':Hp}{h h':Heap}{a:Addr}{o:HO}
theorem ObjOk.lt(x:ObjOk P w H h a o):a<h.objs.size:=by
 cases o with
 |lst xs=>obtain⟨_,_,_,_,e⟩:=x;exact lt_size e
 |tup xs=>obtain⟨_,_,_,p⟩:=x;exact p.lt
 |dK kvs=>obtain⟨_,_,_,_,o,_,_,e,_⟩:=x;exact lt_size e
 |dT kvs=>obtain⟨_,_,_,_,o,_,_,e,_⟩:=x;exact lt_size e
 |set S n=>obtain⟨o,_,_,_,e,_⟩:=x;exact lt_size e
 |ins C dx fs=>obtain⟨_,_,_,e,_⟩:=x;exact lt_size e
 |own y=>obtain⟨_,e⟩:=x;exact lt_size e
 |xd fs=>obtain⟨_,⟨_,_,_,e,_⟩,_⟩:=x;exact lt_size e
 |rng lo hi=>obtain⟨_,_,_,e⟩:=x;exact lt_size e
 |frz ob u=>obtain⟨e,_⟩:=x;exact lt_size e
 |tbl ps=>exact lt_size (show h.get? a=some _ from x)
 |met f y=>exact lt_size (show h.get? a=some _ from x)
 |ext φ=>obtain⟨_,⟨_,e⟩,_⟩:=x;exact lt_size e
theorem Paired.mapP{α β:Type}{F G:α->β->Prop}:∀ {l₁:List α} {l₂:List β},Paired F l₁ l₂->(∀a b,F a b->G a b)->Paired G l₁ l₂
 |_,_,.nil,_=> .nil
 |_,_,.cons r t,f=> .cons (f _ _ r) (Paired.mapP t f)
theorem ObjOk.stay(x:ObjOk P w H h a o)(k:∀b u,(b=a\/H b=some (.own a))->h.get? b=some u->h'.get? b=some u)
  (ho:∀b,H b=some (.own a)->H' b=some (.own a))(ht:∀b xs,H b=some (.tup xs)->H' b=some (.tup xs)):ObjOk P w H' h' a o:=by
 induction o with
 |lst xs=>obtain⟨z,its,n,r,e⟩:=x;exact⟨z,its,n,r,k _ _ (.inl rfl) e⟩
 |tup xs=>obtain⟨z,its,r,ob,e,c⟩:=x;exact⟨z,its,r,ob,k _ _ (.inl rfl) e,c⟩
 |dK kvs=>obtain⟨z,y,vs,r,ob,es,ep,e,c⟩:=x;exact⟨z,y,vs,r,ob,es,ep,k _ _ (.inl rfl) e,c⟩
 |dT kvs=>
  obtain⟨z,y,xs,r,ob,es,ep,e,c⟩:=x
  exact⟨z,y,xs,Paired.mapP r λp q z=>⟨z.1,ht _ _ z.2.1,z.2.2⟩,ob,es,ep,k _ _ (.inl rfl) e,c⟩
 |set S n=>obtain⟨ob,es,ep,t,e,c⟩:=x;exact⟨ob,es,ep,t,k _ _ (.inl rfl) e,c⟩
 |ins C dx fs=>
  obtain⟨d,z,ne,e,mA,⟨od,es,ep,e2,c⟩,r⟩:=x
  exact⟨ho _ d,z,ne,k _ _ (.inl rfl) e,mA,⟨od,es,ep,k _ _ (.inr d) e2,c⟩,r⟩
 |own y=>obtain⟨ob,e⟩:=x;exact⟨ob,k _ _ (.inl rfl) e⟩
 |xd fs=>obtain⟨mA,⟨od,es,ep,e,c⟩,r⟩:=x;exact⟨mA,⟨od,es,ep,k _ _ (.inl rfl) e,c⟩,r⟩
 |rng lo hi=>obtain⟨t,u,v,e⟩:=x;exact⟨t,u,v,k _ _ (.inl rfl) e⟩
 |frz ob u ih=>obtain⟨e,q⟩:=x;exact⟨k _ _ (.inl rfl) e,ih q⟩
 |tbl ps=>
  have e:h.get? a=some {cls:=.none,data:=.fields ps}:=x
  show h'.get? a=some {cls:=.none,data:=.fields ps}
  exact k a _ (.inl rfl) e
 |met f y=>
  have e:h.get? a=some (PySem.W.methodObj (.ref f) (.ref y)):=x
  show h'.get? a=some (PySem.W.methodObj (.ref f) (.ref y))
  exact k a _ (.inl rfl) e
 |ext φ=>obtain⟨p,⟨o,e⟩,st⟩:=x;exact⟨st _ _ p λo q=>k _ _ (.inl rfl) q,⟨o,k _ _ (.inl rfl) e⟩,st⟩
theorem HOk.lt(x:HOk P w H h)(e:H a=some o):a<h.objs.size:=(x a o e).lt
theorem HOk.fresh(x:HOk P w H h)(e:h.objs.size<=a):H a=none:=by
 cases q:H a with
 |none=>rfl
 |some u=>exact absurd (lt_of_lt_of_le (x.lt q) e) (lt_irrefl _)
theorem HOk.kept(x:HOk P w H h)(k:∀b u,h.get? b=some u->h'.get? b=some u):HOk P w H h':=λa o e=>
 (x a o e).stay (λb u _ q=>k b u q) (λ_ q=>q) λ_ _ q=>q
theorem HOk.laid(x:HOk P w H h)(k:∀b u,h.get? b=some u->h'.get? b=some u)(hp:h.objs.size<=a)(new:ObjOk P w (upd H a o) h' a o):HOk P w (upd H a o) h':=λb u e=>by
 have hn:=x.fresh hp
 by_cases hb:b=a
 ·subst hb;rw[upd_same]at e;cases e;exact new
 ·rw[B8 hb]at e
  exact(x b u e).stay (λc v _ q=>k c v q) (λc q=>by rw[B8 (C6 q hn)];exact q) λc xs q=>by rw[B8 (C6 q hn)];exact q
end
def Rd(H:Hp)(a:Addr)(u:HO):Prop:=H a=some u\/∃o,H a=some (.frz o u)
theorem Rd.ok{P:Program}{w:World}{H:Hp}{h:Heap}{a:Addr}{u:HO}(r:Rd H a u)(x:HOk P w H h):ObjOk P w H h a u:=by
 rcases r with r|⟨o,r⟩
 ·exact x a u r
 ·obtain⟨_,q⟩:=x a _ r
  exact q
def Mut:Option HO->Prop
 |some (.lst _)=>True
 |some (.dK _)=>True
 |some (.dT _)=>True
 |some (.set _ _)=>True
 |some (.ins _ _ _)=>True
 |some (.ext _)=>True
 |_=>False
section
variable{P:Program}{w:World}{H:Hp}{h h':Heap}{x e:Addr}{o':HO}
theorem HOk.write(ok:HOk P w H h)(mu:Mut (H x))(he:e=x\/H e=some (.own x))(k:∀b u,b≠e->h.get? b=some u->h'.get? b=some u)(heo:∃u,h'.get? e=some u)
  (new:ObjOk P w (upd H x o') h' x o'):HOk P w (upd H x o') h':=λb u q=>by
 have nown:∀c y,H c=some (.own y)->c≠x:=λc y r z=>by subst z;rw[r]at mu;exact mu
 have ntup:∀c xs,H c=some (.tup xs)->c≠x:=λc xs r z=>by subst z;rw[r]at mu;exact mu
 by_cases hb:b=x
 ·subst hb;rw[upd_same]at q;cases q;exact new
 ·rw[B8 hb]at q
  by_cases hbe:b=e
  ·have q':H b=some (.own x):=by
    rcases he with z|z
    ·exact absurd (hbe.trans z) hb
    ·rw[hbe];exact z
   rw[q]at q';cases q'
   obtain⟨v,hv⟩:=heo
   exact⟨v,by rw[hbe];exact hv⟩
  ·refine(ok b u q).stay (λc v hc r=>k c v ?_ r) (λc r=>by rw[B8 (nown c b r)];exact r) λc xs r=>by rw[B8 (ntup c xs r)];exact r
   rcases hc with rfl|hc
   ·exact hbe
   ·rintro rfl
    rcases he with z|z
    ·exact nown c b hc z
    ·rw[hc]at z;cases z;exact hb rfl
end
structure Un (fs ex:List Addr) (H H':Hp) (h h':Heap):Prop where
 keep:∀b o,h.get? b=some o->H b=none->b∉fs->b∉ex->h'.get? b=some o
 slot:∀b o,h.get? b=some o->H b=none->b∈fs->b∉ex->∃sl,h'.get? b=some {o with slots:=sl}
 free:∀b o,h.get? b=some o->H b=none->b∉ex->H' b=none
 there:∀b o,h.get? b=some o->b∉ex->∃o',h'.get? b=some o'
 tups:∀b xs,H b=some (.tup xs)->H' b=some (.tup xs)
 frzs:∀b o u,H b=some (.frz o u)->H' b=some (.frz o u)
 tbls:∀b ps,H b=some (.tbl ps)->∃more,H' b=some (.tbl (ps++more))
section
variable{fs fs' ex ex':List Addr}{H H1 H2:Hp}{h h1 h2 h':Heap}{a x e:Addr}{o:HO}
theorem Un.any(u:Un fs ex H H1 h h1){b:Addr}{ob:Obj}(q:h.get? b=some ob)(n:H b=none)(hx:b∉ex):∃sl,h1.get? b=some {ob with slots:=sl}:=by
 by_cases hb:b∈fs
 ·exact u.slot b ob q n hb hx
 ·exact⟨ob.slots,u.keep b ob q n hb hx⟩
theorem Un.kept(k:∀b u,h.get? b=some u->h'.get? b=some u):Un fs ex H H h h':=
 ⟨λb ob q _ _ _=>k b ob q,λb ob q _ _ _=>⟨ob.slots,k b ob q⟩,λ_ _ _ n _=>n,λb ob q _=>⟨ob,k b ob q⟩,λ_ _ q=>q,λ_ _ _ q=>q,λ_ ps q=>⟨#[],by rw[q];simp⟩⟩
theorem Un.refl:Un fs ex H H h h:=Un.kept λ_ _ q=>q
theorem Un.laid(k:∀b u,h.get? b=some u->h'.get? b=some u)(hp:h.objs.size<=a)(hn:H a=none):Un fs ex H (upd H a o) h h' where
 keep:=λb u q _ _ _=>k b u q
 slot:=λb u q _ _ _=>⟨u.slots,k b u q⟩
 free:=λb u q n _=>by rw[B8 (ne_of_lt (lt_of_lt_of_le (lt_size q) hp))];exact n
 there:=λb u q _=>⟨u,k b u q⟩
 tups:=λb xs q=>by rw[B8 (C6 q hn)];exact q
 frzs:=λb u xs q=>by rw[B8 (C6 q hn)];exact q
 tbls:=λb ps q=>⟨#[],by rw[B8 (C6 q hn),q];simp⟩
theorem Un.write(mu:Mut (H x))(he:e=x\/H e=some (.own x))(k:∀b u,b≠e->h.get? b=some u->h'.get? b=some u)(heo:∃u,h'.get? e=some u):Un fs ex H (upd H x o) h h':=by
 have hx:∀b,H b=none->b≠x:=λb n z=>by subst z;rw[n]at mu;exact mu
 have hb:∀b,H b=none->b≠e:=λb n z=>by
  subst z
  rcases he with r|r
  ·exact hx b n r
  ·rw[n]at r;cases r
 have hm:∀b u,H b=some u->¬Mut (some u)->b≠x:=λb u q nm z=>by subst z;rw[q]at mu;exact nm mu
 refine⟨λb u q n _ _=>k b u (hb b n) q,λb u q n _ _=>⟨u.slots,k b u (hb b n) q⟩,λb u q n _=>by rw[B8 (hx b n)];exact n,λb u q _=> ?_,
  λb xs q=>by rw[B8 (hm b _ q λz=>z)];exact q,λb u xs q=>by rw[B8 (hm b _ q λz=>z)];exact q,λb ps q=>⟨#[],by rw[B8 (hm b _ q λz=>z),q];simp⟩⟩
 by_cases hbe:b=e
 ·subst hbe;exact heo
 ·exact⟨u,k b u hbe q⟩
end
noncomputable def trk(h:Heap)(H:Hp):List Addr:=(List.range h.objs.size).filter λa=>(H a).isSome
def HL(h:Heap)(H:Hp):Heap:=PySem.W.hideAll h (trk h H)
theorem UN(h:Heap)(H:Hp):(HL h H).objs.size=h.objs.size:=PySem.W.hideAll_size _ _
theorem YG{h:Heap}{H:Hp}{b:Addr}{o:Obj}(e:h.get? b=some o)(n:H b=none):(HL h H).get? b=some o:=
 PySem.W.hideAll_get _ e λhm=>by
  have q:(H b).isSome=true:=(mem_filter.mp hm).2
  rw[n]at q;simp at q
theorem aJZ{h:Heap}{H:Hp}{b:Addr}{o:Obj}(e:(HL h H).get? b=some o):h.get? b=some o/\H b=none:=by
 have e':h.get? b=some o:=PySem.W.of_hideAll (trk h H) e
 refine⟨e', ?_⟩
 cases q:H b with
 |none=>rfl
 |some x=>
  have hm:b∈trk h H:=mem_filter.mpr ⟨mem_range.mpr (lt_size e'),by simp[q]⟩
  have z:(HL h H).get? b=none:=PySem.W.hideAll_none (trk h H) hm
  rw[z]at e;cases e
structure Mod (K:FZ) (mg:Str->Option Value) (base:Heap):Prop where
 kin:K.In base
 glob:base.Ns mainGlobals mg
 blt:∃mb,base.Ns builtinsNs mb/\∀x:Str,x≠ "__name__"->mb x=bootBuiltins x
 nolimit:base.NoLimit
structure Cx where
 prog:Program
 w:World
 K:FZ
 mg:Str->Option Value
 base:Heap
 A:Around
 N:List Str
 s₀:Shared
 H₀:Hp
 env:Env
 outer:List Env
 stack:List Env
 ex:List Addr
 fn:Str->Bool
 calm:Bool
 pn:List (Addr×Obj)
 xe:Value->Shared->Prop
noncomputable def frs(l:List Env):List Addr:=l.filterMap (·.frame)
noncomputable abbrev Cx.fs(X:Cx):List Addr:=frs X.outer
def Vis(sc:Scope)(x:Str):Prop:=sc.names.lookup x=some .local\/sc.names.lookup x=some .cell\/sc.names.lookup x=some .free
def Loc(sc:Scope)(x:Str):Prop:=sc.names.lookup x=some .local\/sc.names.lookup x=some .cell
def dYZ(env:Env)(h:Heap)(m:Str->Option Value)(x:Str)(u:Value):Prop:=
 (env.kindOf x=some .local/\m x=some u)\/((env.kindOf x=some .cell\/env.kindOf x=some .free)/\∃c,env.cells.lookup x=some c/\h.IsCell c (some u))
structure Cx.Ok (X:Cx):Prop where
 mod:Mod X.K X.mg X.base
 kind:X.env.scope.kind=.function
 glob:X.env.globals=mainGlobals
 blt:X.env.builtins=builtinsNs
 above:X.s₀.heap.objs.size<=X.env.locals
 inj:∀x y c,X.env.cells.lookup x=some c->X.env.cells.lookup y=some c->x=y
 has:∀x,(X.env.kindOf x=some .cell\/X.env.kindOf x=some .free)->∃c,X.env.cells.lookup x=some c
 cab:∀x c,X.fn x=true->X.env.cells.lookup x=some c->X.s₀.heap.objs.size<=c
 hd:X.calm=true->X.A.handled=none
 frames:X.A.frames=some X.stack
 stk:X.stack=X.outer\/(X.stack=X.env::X.outer/\X.env.frame=some X.env.locals)
 exf:∀b∈X.ex,b≠X.env.locals/\∀x c,X.env.cells.lookup x=some c->c≠b
 bs:∀b o,X.base.get? b=some o->X.s₀.heap.get? b=some o/\X.H₀ b=none
 bsz:X.base.objs.size<=X.s₀.heap.objs.size
 noex:∀b o,X.base.get? b=some o->b∉X.ex
 exfs:∀b∈X.ex,b∉X.fs
 funs:X.s₀.heap.FunFrames X.base X.outer
 frf:∀b∈X.fs,X.H₀ b=none
structure Inv (X:Cx) (pins:List (Addr×Obj)) (σ:List (Option V)) (H:Hp) (s:Shared):Prop where
 ok:X.Ok
 os:s.os=X.s₀.os
 bare:AllBare s.gens
 base:Un X.fs X.ex X.H₀ H X.s₀.heap s.heap
 loc:∃m,s.heap.Ns X.env.locals m/\∀(i:Nat) (x:Str) (v:V),X.N[i]? =some x->σ[i]? =some (some v)->Vis X.env.scope x->∃u,RelV v u/\dYZ X.env s.heap m x u
 cell:∀x c,X.env.cells.lookup x=some c->∃v,s.heap.IsCell c v
 free:H X.env.locals=none
 freeC:∀x c,X.env.cells.lookup x=some c->H c=none
 pin:∀p∈X.pn++pins,s.heap.get? p.1=some p.2/\H p.1=none/\p.1≠X.env.locals/\p.1∉X.fs/\∀v,p.2.data≠ .cell v
 hok:HOk X.prog X.w H s.heap
 len:σ.length=X.N.length
section
variable{X:Cx}{pins:List (Addr×Obj)}{σ:List (Option V)}{H H':Hp}{s:Shared}{h':Heap}
theorem Cx.Ok.nofr(ok:X.Ok){b:Addr}{o:Obj}(e:X.base.get? b=some o):b∉X.fs:=λhb=>by
 have:=(ok.funs.mem hb).1
 rw[e]at this;cases this
theorem Inv.bs(I:Inv X pins σ H s):∀b o,X.base.get? b=some o->s.heap.get? b=some o/\H b=none:=λb o e=>
 ⟨I.base.keep b o (I.ok.bs b o e).1 (I.ok.bs b o e).2 (I.ok.nofr e) (I.ok.noex b o e),I.base.free b o (I.ok.bs b o e).1 (I.ok.bs b o e).2 (I.ok.noex b o e)⟩
theorem Inv.bk(I:Inv X pins σ H s):∀b o,X.base.get? b=some o->s.heap.get? b=some o:=λb o e=>(I.bs b o e).1
theorem Inv.mod(I:Inv X pins σ H s):Mod X.K X.mg X.base:=I.ok.mod
theorem Inv.kIn(I:Inv X pins σ H s):X.K.In s.heap:=I.ok.mod.kin.keeps I.bk
theorem Inv.lt(I:Inv X pins σ H s):X.env.locals<s.heap.objs.size:=let⟨_,hn,_⟩:=I.loc;hn.lt
theorem Inv.sz(I:Inv X pins σ H s):X.s₀.heap.objs.size<=s.heap.objs.size:=le_trans I.ok.above (le_of_lt I.lt)
theorem Inv.nofs(I:Inv X pins σ H s){a:Addr}(h:s.heap.objs.size<=a):a∉X.fs:=λhb=>by
 obtain⟨_,o,ho,_⟩:=I.ok.funs.mem hb
 exact absurd (lt_of_lt_of_le (lt_size ho) (le_trans I.sz h)) (lt_irrefl _)
theorem Inv.cne(I:Inv X pins σ H s):∀x c,X.env.cells.lookup x=some c->c≠X.env.locals:=λx c e z=>by
 obtain⟨v,o,ho,hd⟩:=I.cell x c e
 obtain⟨m,⟨o',es,ep,ho',hd',_⟩,_⟩:=I.loc
 rw[z,ho']at ho;cases ho;rw[hd']at hd;cases hd
theorem Inv.funs(I:Inv X pins σ H s):s.heap.FunFrames X.base X.outer:=by
 have all:∀(l:List Env),(∀b∈frs l,b∈X.fs)->X.s₀.heap.FunFrames X.base l->s.heap.FunFrames X.base l:=by
  intro l
  induction l with
  |nil=>intro _ _;trivial
  |cons env r ih=>
   intro hs hl
   obtain⟨hk,⟨L,o,hf,hn,ho,hd⟩,hr⟩:=hl
   have hL:L∈X.fs:=hs L (by unfold frs;rw[filterMap_cons,hf];exact mem_cons_self)
   obtain⟨sl,e⟩:=I.base.slot L o ho (I.ok.frf L hL) hL λz=>I.ok.exfs L z hL
   exact⟨hk,⟨L,_,hf,hn,e,hd⟩,ih (λb hb=>hs b (by unfold frs;rw[filterMap_cons,hf];exact mem_cons_of_mem _ hb)) hr⟩
 exact all X.outer (λ_ hb=>hb) I.ok.funs
theorem Inv.stack(I:Inv X pins σ H s):s.heap.FunFrames X.base X.stack:=by
 rcases I.ok.stk with e|⟨e,hf⟩
 ·rw[e];exact I.funs
 ·rw[e]
  obtain⟨m,hn,_⟩:=I.loc
  refine .cons (by rw[I.ok.kind];decide) hf hn ?_ I.funs
  exact Heap.get?_none_of_le (le_trans I.ok.bsz I.ok.above)
theorem Inv.stkSub(I:Inv X pins σ H s):∀b∈frs X.stack,b∈X.env.locals::X.fs:=λb hb=>by
 rcases I.ok.stk with e|⟨e,hf⟩
 ·rw[e]at hb;exact mem_cons_of_mem _ hb
 ·rw[e]at hb
  unfold frs at hb
  rw[filterMap_cons,hf]at hb
  exact hb
theorem Inv.stkFree(I:Inv X pins σ H s):∀b∈frs X.stack,H b=none:=λb hb=>by
 rcases cZ (I.stkSub b hb)with e|hb
 ·rw[e];exact I.free
 ·obtain⟨_,o,ho,_⟩:=I.ok.funs.mem hb
  exact I.base.free b o ho (I.ok.frf b hb) λz=>I.ok.exfs b z hb
theorem Inv.step{g':Array GenState}{t':Nat}{d':Drawn}{ch:List Addr}(I:Inv X pins σ H s)
  (hch:∀b∈ch,(b∈X.ex\/X.s₀.heap.objs.size<=b)/\b≠X.env.locals/\(∀x c,X.env.cells.lookup x=some c->c≠b)/\∀p∈X.pn++pins,p.1≠b)
  (keep:∀b o,b≠X.env.locals->b∉X.fs->b∉ch->s.heap.get? b=some o->H b=none->h'.get? b=some o)
  (slot:∀b o,b≠X.env.locals->b∈X.fs->b∉ch->s.heap.get? b=some o->H b=none->∃sl,h'.get? b=some {o with slots:=sl})(free:∀b o,b∉ch->s.heap.get? b=some o->H b=none->H' b=none)
  (there:∀b o,b∉ch->s.heap.get? b=some o->∃o',h'.get? b=some o')
  (tups:∀b xs,H b=some (.tup xs)->H' b=some (.tup xs))(frzs:∀b o u,H b=some (.frz o u)->H' b=some (.frz o u))(tbls:∀b ps,H b=some (.tbl ps)->∃more,H' b=some (.tbl (ps++more)))
  (ns:∀m,s.heap.Ns X.env.locals m->h'.Ns X.env.locals m)(hok:HOk X.prog X.w H' h')(hg:AllBare g'):
  Inv X pins σ H' {s with heap:=h',gens:=g',drawn:=d',toks:=t'}:=by
 have neL:∀b o,X.s₀.heap.get? b=some o->b≠X.env.locals:=λb o e=>ne_of_lt (lt_of_lt_of_le (lt_size e) I.ok.above)
 have neC:∀b o,X.s₀.heap.get? b=some o->b∉X.ex->b∉ch:=λb o e hx hb=>by
  rcases(hch b hb).1 with z|z
  ·exact hx z
  ·exact absurd (lt_of_lt_of_le (lt_size e) z) (lt_irrefl _)
 have cellK:∀x c,X.env.cells.lookup x=some c->∀v,s.heap.IsCell c v->h'.IsCell c v:=λx c e v ⟨o,ho,hd⟩=>by
  have nch:c∉ch:=λz=>(hch c z).2.2.1 x c e rfl
  by_cases hc:c∈X.fs
  ·obtain⟨sl,q⟩:=slot c o (I.cne x c e) hc nch ho (I.freeC x c e)
   exact⟨_,q,hd⟩
  ·exact⟨o,keep c o (I.cne x c e) hc nch ho (I.freeC x c e),hd⟩
 refine⟨I.ok,I.os,hg,⟨λb o e n hb hx=> ?_,λb o e n hb hx=> ?_,λb o e n hx=> ?_,λb o e hx=> ?_,λb xs e=>tups b xs (I.base.tups b xs e),λb o xs e=>frzs b o xs (I.base.frzs b o xs e),λb ps e=> ?_⟩, ?_,λx c e=> ?_, ?_,λx c e=> ?_,λp hp=> ?_,hok,I.len⟩
 ·exact keep b o (neL b o e) hb (neC b o e hx) (I.base.keep b o e n hb hx) (I.base.free b o e n hx)
 ·obtain⟨sl,e1⟩:=I.base.slot b o e n hb hx
  obtain⟨sl',e2⟩:=slot b _ (neL b o e) hb (neC b o e hx) e1 (I.base.free b o e n hx)
  exact⟨sl',e2⟩
 ·obtain⟨o',e1⟩:=I.base.there b o e hx
  exact free b o' (neC b o e hx) e1 (I.base.free b o e n hx)
 ·obtain⟨o',e1⟩:=I.base.there b o e hx
  exact there b o' (neC b o e hx) e1
 ·obtain⟨m1,e1⟩:=I.base.tbls b ps e
  obtain⟨m2,e2⟩:=tbls b _ e1
  exact⟨m1++m2,by rw[e2,Array.append_assoc]⟩
 ·obtain⟨m,hn,hl⟩:=I.loc
  refine⟨m,ns m hn,λi x v e1 e2 e3=> ?_⟩
  obtain⟨u,r,l⟩:=hl i x v e1 e2 e3
  refine⟨u,r, ?_⟩
  rcases l with l|⟨k,c,e,z⟩
  ·exact .inl l
  ·exact .inr ⟨k,c,e,cellK x c e _ z⟩
 ·obtain⟨v,z⟩:=I.cell x c e
  exact⟨v,cellK x c e v z⟩
 ·obtain⟨m,⟨o,_,_,ho,_⟩,_⟩:=I.loc
  exact free _ o (λz=>(hch _ z).2.1 rfl) ho I.free
 ·obtain⟨v,o,ho,hd⟩:=I.cell x c e
  exact free c o (λz=>(hch c z).2.2.1 x c e rfl) ho (I.freeC x c e)
 ·obtain⟨e,n,ne,nf,d⟩:=I.pin p hp
  have nch:p.1∉ch:=λz=>(hch p.1 z).2.2.2 p hp rfl
  exact⟨keep p.1 p.2 ne nf nch e n,free p.1 p.2 nch e n,ne,nf,d⟩
theorem Inv.un{t':Nat}(I:Inv X pins σ H s)(u:Un X.fs [] H H' s.heap h')(hok:HOk X.prog X.w H' h'):Inv X pins σ H' {s with heap:=h',toks:=t'}:=by
 obtain⟨m,⟨o,es,ep,ho,r⟩,_⟩:=id I.loc
 obtain⟨sl,hL⟩:=u.any ho I.free (by simp)
 exact I.step (g':=s.gens) (d':=s.drawn) (ch:=[]) (λ_ z=>nomatch z) (λb o _ hb _ e n=>u.keep b o e n hb (by simp)) (λb o _ hb _ e n=>u.slot b o e n hb (by simp)) (λb o _ e n=>u.free b o e n (by simp)) (λb o _ e=>u.there b o e (by simp)) u.tups u.frzs u.tbls (λm' hm=>by
  obtain⟨o',es',ep',ho',r'⟩:=hm
  rw[ho]at ho';cases ho'
  exact⟨_,es',ep',hL,r'⟩) hok I.bare
theorem Inv.call{g':Array GenState}{t':Nat}{d':Drawn}{ch:List Addr}(I:Inv X pins σ H s)(u:Un (frs X.stack) ch H H' s.heap h')(hok:HOk X.prog X.w H' h')(hg:AllBare g')
  (hch:∀b∈ch,(b∈X.ex\/X.s₀.heap.objs.size<=b)/\b≠X.env.locals/\(∀x c,X.env.cells.lookup x=some c->c≠b)/\∀p∈X.pn++pins,p.1≠b):
  Inv X pins σ H' {s with heap:=h',gens:=g',drawn:=d',toks:=t'}:=by
 obtain⟨m,⟨o,es,ep,ho,r⟩,_⟩:=id I.loc
 obtain⟨sl,hL⟩:=u.any ho I.free λz=>(hch _ z).2.1 rfl
 exact I.step (ch:=ch) hch (λb o hL hb hc e n=>u.keep b o e n (λz=>(cZ (I.stkSub b z)).elim hL hb) hc) (λb o _ _ hc e n=>u.any e n hc) (λb o hc e n=>u.free b o e n hc) (λb o hc e=>u.there b o e hc) u.tups u.frzs u.tbls (λm' hm=>by
  obtain⟨o',es',ep',ho',r'⟩:=hm
  rw[ho]at ho';cases ho'
  exact⟨_,es',ep',hL,r'⟩) hok hg
theorem Inv.turned{t':Nat}{it:Addr}(I:Inv X pins σ H s)(k:∀b o,b≠it->s.heap.get? b=some o->h'.get? b=some o)(hn:H it=none)(hL:it≠X.env.locals)
  (h1:it∈X.ex\/X.s₀.heap.objs.size<=it)(h2:∀x c,X.env.cells.lookup x=some c->c≠it)(h3:∀p∈X.pn++pins,p.1≠it):Inv X pins σ H {s with heap:=h',toks:=t'}:=by
 have nit:∀b u,H b=some u->b≠it:=λb u e z=>by rw[z,hn]at e;cases e
 refine I.step (g':=s.gens) (d':=s.drawn) (ch:=[it]) (λb hb=> ?_) (λb o _ _ hc e _=>k b o (λz=>hc (by simp[z])) e) (λb o _ _ hc e _=>⟨o.slots,k b o (λz=>hc (by simp[z])) e⟩) (λ_ _ _ _ n=>n)
  (λb o hc e=>⟨o,k b o (λz=>hc (by simp[z])) e⟩) (λ_ _ e=>e) (λ_ _ _ e=>e) (λb ps e=>⟨#[],by rw[e];simp⟩) (λm hm=> ?_) (λb u e=> ?_) I.bare
 ·have e:b=it:=by simpa using hb
  subst e
  exact⟨h1,hL,h2,h3⟩
 ·obtain⟨o,es,ep,ho,r⟩:=hm
  exact⟨o,es,ep,k _ o (Ne.symm hL) ho,r⟩
 ·refine(I.hok b u e).stay (λc v hc q=>k c v ?_ q) (λ_ q=>q) λ_ _ q=>q
  rcases hc with z|z
  ·rw[z];exact nit b u e
  ·exact nit c _ z
theorem Inv.tok(I:Inv X pins σ H s)(t:Nat):Inv X pins σ H {s with toks:=t}:=I.un (h':=s.heap) (t':=t) Un.refl I.hok
theorem Inv.kept{t':Nat}(I:Inv X pins σ H s)(k:∀b u,s.heap.get? b=some u->h'.get? b=some u):Inv X pins σ H {s with heap:=h',toks:=t'}:=I.un (Un.kept k) (I.hok.kept k)
theorem Inv.laid{a:Addr}{o:HO}{t':Nat}(I:Inv X pins σ H s)(k:∀b u,s.heap.get? b=some u->h'.get? b=some u)(hp:s.heap.objs.size<=a)(new:ObjOk X.prog X.w (upd H a o) h' a o):
  Inv X pins σ (upd H a o) {s with heap:=h',toks:=t'}:=I.un (Un.laid k hp (I.hok.fresh hp)) (I.hok.laid k hp new)
theorem Inv.write{x e:Addr}{o:HO}{t':Nat}(I:Inv X pins σ H s)(mu:Mut (H x))(he:e=x\/H e=some (.own x))(k:∀b u,b≠e->s.heap.get? b=some u->h'.get? b=some u)(heo:∃u,h'.get? e=some u)
  (new:ObjOk X.prog X.w (upd H x o) h' x o):Inv X pins σ (upd H x o) {s with heap:=h',toks:=t'}:=I.un (Un.write mu he k heo) (I.hok.write mu he k heo new)
theorem Inv.weak{σ':List (Option V)}(I:Inv X pins σ H s)(hl:σ'.length=σ.length)(w:∀(i:Nat) v,σ'[i]? =some (some v)->σ[i]? =some (some v)):Inv X pins σ' H s:=
 ⟨I.ok,I.os,I.bare,I.base,let⟨m,hn,hl'⟩:=I.loc;⟨m,hn,λi x v e1 e2 e3=>hl' i x v e1 (w i v e2) e3⟩,I.cell,I.free,I.freeC,I.pin,I.hok,hl.trans I.len⟩
theorem Inv.pins_of{pins':List (Addr×Obj)}(I:Inv X pins σ H s)(h:∀p∈pins',s.heap.get? p.1=some p.2/\H p.1=none/\p.1≠X.env.locals/\p.1∉X.fs/\∀v,p.2.data≠ .cell v):Inv X pins' σ H s:=
 ⟨I.ok,I.os,I.bare,I.base,I.loc,I.cell,I.free,I.freeC,λp hp=>(mem_append.mp hp).elim (λz=>I.pin p (mem_append_left _ z)) (h p),I.hok,I.len⟩
theorem LR{N:List Str}(hN:N.Nodup){i j:Nat}{x:Str}(a:N[i]? =some x)(b:N[j]? =some x):i=j:=by
 obtain⟨h1,e1⟩:=List.getElem?_eq_some_iff.mp a
 obtain⟨h2,e2⟩:=List.getElem?_eq_some_iff.mp b
 exact(List.getElem_inj hN).mp (e1.trans e2.symm)
theorem IJ{M:Model}{A:Around}{E:Value->Shared->Prop}{i:Nat}{x:Str}{v:V}{u:Value}{Q:Unit->Shared->Prop}(I:Inv X pins σ H s)(hN:X.N.Nodup)(hi:X.N[i]? =some x)(hx:Loc X.env.scope x)(r:RelV v u)
  (h:∀s',Inv X pins (σ.set i (some v)) H s'->(∃a,Heap.SameBut a s.heap s'.heap/\(a=X.env.locals\/X.env.cells.lookup x=some a))->Q () s')(hf:X.fn x=true\/X.env.scope.names.lookup x=some .local:=by first|exact .inl rfl|exact .inr rfl|assumption):wpAny M A (storeName X.env x u) Q E s:=by
 obtain⟨m,hn,hl⟩:=id I.loc
 have hcls:(X.env.scope.kind==.class||(X.env.scope.kind==.module&&X.env.locals !=X.env.globals))=false:=by rw[I.ok.kind];rfl
 have hiσ:i<σ.length:=by rw[I.len];exact(List.getElem?_eq_some_iff.mp hi).1
 have cne:=I.cne
 have tracked:∀ {a:Addr} {h':Heap},(∃o,s.heap.get? a=some o/\H a=none)->Heap.SameBut a s.heap h'->HOk X.prog X.w H h':=λ{a h'} ha hs b ob e=>by
  obtain⟨_,_,hfree⟩:=ha
  refine(I.hok b ob e).stay (λc w' hc q=>(hs.2 c ?_).trans q) (λ_ q=>q) λ_ _ q=>q
  rintro rfl
  rcases hc with rfl|hc
  ·rw[hfree]at e;cases e
  ·rw[hfree]at hc;cases hc
 rcases hx with hk|hk
 ·refine wpAny_storeName_local hk hn (λh' hn' hs=> ?_) hcls
  obtain⟨oL,_,_,hoL,_⟩:=id hn
  refine h _ ⟨I.ok,I.os,I.bare,⟨λb o e n hb hx=> ?_,λb o e n hb hx=> ?_,I.base.free,λb o e hx=> ?_,I.base.tups,I.base.frzs,I.base.tbls⟩,⟨_,hn',λj y v' e1 e2 e3=> ?_⟩,λy c e=> ?_,I.free,I.freeC,λp hp=> ?_,tracked ⟨oL,hoL,I.free⟩ hs,by simpa using I.len⟩ ⟨_,hs,.inl rfl⟩
  ·exact(hs.2 b (ne_of_lt (lt_of_lt_of_le (lt_size e) I.ok.above))).trans (I.base.keep b o e n hb hx)
  ·obtain⟨sl,e1⟩:=I.base.slot b o e n hb hx
   exact⟨sl,(hs.2 b (ne_of_lt (lt_of_lt_of_le (lt_size e) I.ok.above))).trans e1⟩
  ·obtain⟨o',e1⟩:=I.base.there b o e hx
   exact⟨o',(hs.2 b (ne_of_lt (lt_of_lt_of_le (lt_size e) I.ok.above))).trans e1⟩
  ·by_cases hj:j=i
   ·subst hj
    rw[hi]at e1;cases e1
    rw[List.getElem?_set_self hiσ]at e2
    cases e2
    exact⟨u,r,.inl ⟨hk,by simp⟩⟩
   ·rw[List.getElem?_set_ne (Ne.symm hj)]at e2
    obtain⟨u',r',q⟩:=hl j y v' e1 e2 e3
    refine⟨u',r', ?_⟩
    rcases q with⟨k,e⟩|⟨k,c,e,z⟩
    ·refine .inl ⟨k, ?_⟩
     have:y≠x:=λe=>hj (LR hN e1 (e▸hi))
     simp[this,e]
    ·exact .inr ⟨k,c,e,z.sameBut hs (cne y c e)⟩
  ·obtain⟨w',z⟩:=I.cell y c e
   exact⟨w',z.sameBut hs (cne y c e)⟩
  ·obtain⟨e,n,ne,nf,d⟩:=I.pin p hp
   exact⟨(hs.2 p.1 ne).trans e,n,ne,nf,d⟩
 ·have hfn:X.fn x=true:=by
   rcases hf with z|z
   ·exact z
   ·rw[z]at hk;cases hk
  obtain⟨c,hc⟩:=I.ok.has x (.inl hk)
  obtain⟨w',z⟩:=I.cell x c hc
  refine wpAny_storeName_cell I.ok.kind hk hc z (λh' hc' hs=> ?_)
  obtain⟨oc,hoc,hocd⟩:=id z
  refine h {s with heap:=h'} ⟨I.ok,I.os,I.bare,⟨λb o e n hb hx=> ?_,λb o e n hb hx=> ?_,I.base.free,λb o e hx=> ?_,I.base.tups,I.base.frzs,I.base.tbls⟩,⟨m,hn.sameBut hs (Ne.symm (cne x c hc)),λj y v' e1 e2 e3=> ?_⟩,λy c' e=> ?_,I.free,I.freeC,λp hp=> ?_,tracked ⟨oc,hoc,I.freeC x c hc⟩ hs,by simpa using I.len⟩ ⟨c,hs,.inr hc⟩
  ·exact(hs.2 b (ne_of_lt (lt_of_lt_of_le (lt_size e) (I.ok.cab x c hfn hc)))).trans (I.base.keep b o e n hb hx)
  ·obtain⟨sl,e1⟩:=I.base.slot b o e n hb hx
   exact⟨sl,(hs.2 b (ne_of_lt (lt_of_lt_of_le (lt_size e) (I.ok.cab x c hfn hc)))).trans e1⟩
  ·obtain⟨o',e1⟩:=I.base.there b o e hx
   exact⟨o',(hs.2 b (ne_of_lt (lt_of_lt_of_le (lt_size e) (I.ok.cab x c hfn hc)))).trans e1⟩
  ·by_cases hj:j=i
   ·subst hj
    rw[hi]at e1;cases e1
    rw[List.getElem?_set_self hiσ]at e2
    cases e2
    exact⟨u,r,.inr ⟨.inl hk,c,hc,hc'⟩⟩
   ·rw[List.getElem?_set_ne (Ne.symm hj)]at e2
    obtain⟨u',r',q⟩:=hl j y v' e1 e2 e3
    refine⟨u',r', ?_⟩
    rcases q with q|⟨k,c',e,z'⟩
    ·exact .inl q
    ·refine .inr ⟨k,c',e,z'.sameBut hs ?_⟩
     rintro rfl
     exact hj (LR hN e1 (I.ok.inj _ _ _ e hc▸hi))
  ·by_cases hcc:c'=c
   ·subst hcc;exact⟨_,hc'⟩
   ·obtain⟨w2,z2⟩:=I.cell y c' e
    exact⟨w2,z2.sameBut hs hcc⟩
  ·obtain⟨e,n,ne,nf,d⟩:=I.pin p hp
   refine⟨(hs.2 p.1 ?_).trans e,n,ne,nf,d⟩
   intro q
   rw[q,hoc]at e
   have q':oc=p.2:=Option.some.inj e
   exact d w' (by rw[<-q'];exact hocd)
theorem FY{M:Model}{A:Around}{E:Value->Shared->Prop}{i:Nat}{x:Str}{v:V}{u:Value}{Q:Unit->Shared->Prop}(I:Inv X pins σ H s)(hN:X.N.Nodup)(hi:X.N[i]? =some x)(hx:Loc X.env.scope x)(r:RelV v u)
  (h:∀s',Inv X pins (σ.set i (some v)) H s'->Q () s')(hf:X.fn x=true\/X.env.scope.names.lookup x=some .local:=by first|exact .inl rfl|exact .inr rfl|assumption):wpAny M A (storeName X.env x u) Q E s:=
 IJ I hN hi hx r (λs' I' _=>h s' I') hf
theorem Inv.call'{s':Shared}{ch:List Addr}(I:Inv X pins σ H s)(ho:s'.os=s.os)(u:Un (frs X.stack) ch H H' s.heap s'.heap)(hok:HOk X.prog X.w H' s'.heap)(hg:AllBare s'.gens)
  (hch:∀b∈ch,(b∈X.ex\/X.s₀.heap.objs.size<=b)/\b≠X.env.locals/\(∀x c,X.env.cells.lookup x=some c->c≠b)/\∀p∈X.pn++pins,p.1≠b):Inv X pins σ H' s':=by
 obtain⟨h',g',d',t',o'⟩:=s'
 have e:o'=s.os:=ho
 subst e
 exact I.call (g':=g') (t':=t') (d':=d') u hok hg hch
end
abbrev XK:=Value->Option Addr->Hp->Prop
abbrev St:=List (Option V)
abbrev VK:=V->Hp->Prop
abbrev TE:=St->Hp->VK->Prop
abbrev TT:=St->Hp->(Bool->Hp->Prop)->Prop
abbrev TA:=St->Hp->(List V->Hp->Prop)->Prop
structure Ends where
 nx:St->Hp->Prop
 rt:VK
 bk:St->Hp->Prop:=λ_ _=>False
 ct:St->Hp->Prop:=λ_ _=>False
abbrev TS:=Ends->St->Hp->Prop
def EP(X:Cx)(pins:List (Addr×Obj))(σ:St)(Q:VK)(u:Value)(s':Shared):Prop:=∃v H',Inv X pins σ H' s'/\RelV v u/\Q v H'
def TP(X:Cx)(pins:List (Addr×Obj))(σ:St)(Q:Bool->Hp->Prop)(b:Bool)(s':Shared):Prop:=∃H',Inv X pins σ H' s'/\Q b H'
def AP(X:Cx)(pins:List (Addr×Obj))(σ:St)(Q:List V->Hp->Prop)(us:List Value)(s':Shared):Prop:=∃vs H',Inv X pins σ H' s'/\Vals vs us/\Q vs H'
def SP(X:Cx)(pins:List (Addr×Obj))(D:Ends)(f:Flow)(s':Shared):Prop:=
 match f with
 | .next=>∃σ' H',Inv X pins σ' H' s'/\D.nx σ' H'
 | .brk=>∃σ' H',Inv X pins σ' H' s'/\D.bk σ' H'
 | .cont=>∃σ' H',Inv X pins σ' H' s'/\D.ct σ' H'
 | .ret u=>∃v σ' H',Inv X pins σ' H' s'/\RelV v u/\D.rt v H'
def PE(X:Cx)(e:Expr)(t:TE):Prop:=
 ∀(pins:List (Addr×Obj)) (s:Shared) (σ:St) (H:Hp) (Q:VK),Inv X pins σ H s->t σ H Q->wpAny (model X.prog X.w) X.A (eval e X.env) (EP X pins σ Q) X.xe s
def PT(X:Cx)(e:Expr)(t:TT):Prop:=
 ∀(pins:List (Addr×Obj)) (s:Shared) (σ:St) (H:Hp) (Q:Bool->Hp->Prop),Inv X pins σ H s->t σ H Q->wpAny (model X.prog X.w) X.A (isTrue e X.env (eval e X.env)) (TP X pins σ Q) X.xe s
def PW(X:Cx)(e:Expr)(t:TT):Prop:=
 ∀(whole:Sem Value) (pins:List (Addr×Obj)) (s:Shared) (σ:St) (H:Hp) (Q:Bool->Hp->Prop),Inv X pins σ H s->t σ H Q->wpAny (model X.prog X.w) X.A (isTrue e X.env whole) (TP X pins σ Q) X.xe s
theorem PW.pt{X:Cx}{e:Expr}{t:TT}(h:PW X e t):PT X e t:=h _
def PA(X:Cx)(es:List Expr)(t:TA):Prop:=
 ∀(pos:Pos) (pins:List (Addr×Obj)) (s:Shared) (σ:St) (H:Hp) (Q:List V->Hp->Prop),Inv X pins σ H s->t σ H Q->wpAny (model X.prog X.w) X.A (spliced (backTo pos (starEach es X.env))) (AP X pins σ Q) X.xe s
def PS(X:Cx)(st:Stmt)(t:TS):Prop:=
 ∀(pins:List (Addr×Obj)) (s:Shared) (σ:St) (H:Hp) (D:Ends),Inv X pins σ H s->t D σ H->wpAny (model X.prog X.w) X.A (exec st X.env) (SP X pins D) X.xe s
def PSs(X:Cx)(st:List Stmt)(t:TS):Prop:=
 ∀(pins:List (Addr×Obj)) (s:Shared) (σ:St) (H:Hp) (D:Ends),Inv X pins σ H s->t D σ H->wpAny (model X.prog X.w) X.A (execs st X.env) (SP X pins D) X.xe s
theorem thn{α:Type}{t:Sem α}{Q Q':α->Shared->Prop}{M:Model}{A:Around}{E:Value->Shared->Prop}{s:Shared}(h:wpAny M A t Q E s)(hQ:∀a s,Q a s->Q' a s):wpAny M A t Q' E s:=wpAny_mono h hQ λ_ _ x=>x
section
variable{X:Cx}
def cUZ(i:Nat):TE:=fun σ H Q=>∃v,σ[i]? =some (some v)/\Q v H
def tC(v:V):TE:=λ_ H Q=>Q v H
theorem bJZ{i:Nat}{x:Str}{pos:Pos}(hN:X.N[i]? =some x)(hv:Vis X.env.scope x)(hd:(x==("__debug__":Str))=false:=by decide)(hcd:(x==("__classdict__":Str))=false:=by decide):PE X (.Name x pos) (cUZ i):=by
 intro pins s σ H Q I h
 obtain⟨v,e,h⟩:=h
 obtain⟨m,hn,hl⟩:=I.loc
 obtain⟨u,r,l⟩:=hl i x v hN e hv
 have fin:EP X pins σ Q u s:=⟨v,H,I,r,h⟩
 rcases l with⟨hk,hm⟩|⟨hk,c,hc,hcell⟩
 ·exact wpAny_Name (wpAny_loadName_local I.ok.kind hk hn hm fin) hd
 ·rcases hk with hk|hk
  ·exact wpAny_Name (wpAny_loadName_cell I.ok.kind hk hc hcell fin) hd
  ·exact wpAny_Name (wpAny_loadName_free I.ok.kind hk hc hcell fin hcd) hd
theorem A7{i j pos}:PE X (.Constant (.int i) j pos) (tC (.int i)):=λ_ _ _ H _ I h=>wpAny_Constant_int ⟨.int i,H,I.tok _,⟨_,rfl⟩,h⟩
theorem V5{b j pos}:PE X (.Constant (.bool b) j pos) (tC (.bl b)):=λ_ _ _ H _ I h=>Constant_bool ⟨.bl b,H,I,rfl,h⟩
theorem S0{j pos}:PE X (.Constant .none j pos) (tC .non):=λ_ _ _ H _ I h=>Constant_none ⟨.non,H,I,rfl,h⟩
theorem B6{x j pos}:PE X (.Constant (.str x) j pos) (tC (.str x)):=λ_ _ _ H _ I h=>Calls.Constant_str ⟨.str x,H,I.tok _,⟨_,rfl⟩,h⟩
def Gl(X:Cx)(x:Str):Prop:=X.env.kindOf x=some .globalImplicit
theorem BO{E:Value->Shared->Prop}{pins:List (Addr×Obj)}{s:Shared}{σ:St}{H:Hp}{x:Str}{u:Value}{pos:Pos}{Q:Value->Shared->Prop}(I:Inv X pins σ H s)(hg:Gl X x)(hm:X.mg x=some u)(h:Q u s)
  (hd:(x==("__debug__":Str))=false:=by decide):wpAny (model X.prog X.w) X.A (eval (.Name x pos) X.env) Q E s:=
 Calls.Name_function_global I.ok.kind hg (Calls.loadGlobal_global (by rw[I.ok.glob];exact I.mod.glob.keeps I.bk) hm h) hd
theorem AJ{E:Value->Shared->Prop}{pins:List (Addr×Obj)}{s:Shared}{σ:St}{H:Hp}{x:Str}{u:Value}{pos:Pos}{Q:Value->Shared->Prop}(I:Inv X pins σ H s)(hg:Gl X x)(hm:X.mg x=none)(hv:bootBuiltins x=some u)(h:Q u s)
  (hn:x≠ "__name__":=by decide)(hd:(x==("__debug__":Str))=false:=by decide):wpAny (model X.prog X.w) X.A (eval (.Name x pos) X.env) Q E s:=by
 obtain⟨mb,h1,h2⟩:=I.mod.blt
 exact Calls.Name_function_global I.ok.kind hg (Calls.loadGlobal_builtin (by rw[I.ok.glob];exact I.mod.glob.keeps I.bk) hm (by rw[I.ok.blt];exact h1.keeps I.bk) ((h2 x hn).trans hv) h) hd
theorem BI{x:Str}{v:V}{u:Value}{pos:Pos}(hg:Gl X x)(hm:X.mg x=some u)(r:RelV v u)(hd:(x==("__debug__":Str))=false:=by decide):PE X (.Name x pos) (tC v):=
 λ_ _ _ H _ I h=>BO I hg hm ⟨v,H,I,r,h⟩ hd
theorem K6{x:Str}{v:V}{u:Value}{pos:Pos}(hg:Gl X x)(hm:X.mg x=none)(hv:bootBuiltins x=some u)(r:RelV v u)(hn:x≠ "__name__":=by decide)(hd:(x==("__debug__":Str))=false:=by decide):PE X (.Name x pos) (tC v):=
 λ_ _ _ H _ I h=>AJ I hg hm hv ⟨v,H,I,r,h⟩ hn hd
variable{a b:Expr}{ta tb:TE}{pos:Pos}
variable{tA tB':TT}{rest:List Expr}
def d1Z(t u:TT):TT:=fun σ H Q=>t σ H λc H1=>if c=true then u σ H1 Q else Q false H1
def tOr(t u:TT):TT:=fun σ H Q=>t σ H λc H1=>if c=true then Q true H1 else u σ H1 Q
def dUZ(t:TT):TT:=fun σ H Q=>t σ H λc H1=>Q (!c) H1
theorem KL(ha:PT X a tA):PW X (.BoolOp .And [a] pos) tA:=by
 intro wh pins s σ H Q I h
 refine isTrue_and (thn (ha pins s σ H Q I h) λc s1 e=> ?_)
 cases c with
 |true=>exact isTrue_and_nil e
 |false=>exact e
theorem FS(ha:PT X a tA):PW X (.BoolOp .Or [a] pos) tA:=by
 intro wh pins s σ H Q I h
 refine isTrue_or (thn (ha pins s σ H Q I h) λc s1 e=> ?_)
 cases c with
 |false=>exact isTrue_or_nil e
 |true=>exact e
theorem PB(ha:PT X a tA)(hb:PW X (.BoolOp .And (b::rest) pos) tB'):PW X (.BoolOp .And (a::b::rest) pos) (d1Z tA tB'):=by
 intro wh pins s σ H Q I h
 refine isTrue_and (thn (ha pins s σ H _ I h) λc s1 ⟨H1,I1,q1⟩=> ?_)
 cases c with
 |true=>exact hb wh pins s1 σ H1 Q I1 q1
 |false=>exact⟨H1,I1,q1⟩
theorem IA(ha:PT X a tA)(hb:PW X (.BoolOp .Or (b::rest) pos) tB'):PW X (.BoolOp .Or (a::b::rest) pos) (tOr tA tB'):=by
 intro wh pins s σ H Q I h
 refine isTrue_or (thn (ha pins s σ H _ I h) λc s1 ⟨H1,I1,q1⟩=> ?_)
 cases c with
 |true=>exact⟨H1,I1,q1⟩
 |false=>exact hb wh pins s1 σ H1 Q I1 q1
theorem XI(ha:PT X a tA):PT X (.UnaryOp .Not a pos) (dUZ tA):=by
 intro pins s σ H Q I h
 exact isTrue_not (ha pins s σ H (λc H1=>Q (!c) H1) I h)
def cJZ(ta tb:TE):TE:=fun σ H Q=>ta σ H λx H1=>∃c,x=.bl c/\if c=true then tb σ H1 Q else Q (.bl false) H1
def d0Z(ta tb:TE):TE:=fun σ H Q=>ta σ H λx H1=>∃c,x=.bl c/\if c=true then Q (.bl true) H1 else tb σ H1 Q
def dvZ(ta:TE):TE:=fun σ H Q=>ta σ H λx H1=>∃c,x=.bl c/\Q (.bl (!c)) H1
theorem DB{op}{t:TE}(h:PE X a t):PE X (.BoolOp op [a] pos) t:=λpins s σ H Q I hw=>BoolOp_one (h pins s σ H Q I hw)
theorem FF(ha:PE X a ta)(hb:PE X (.BoolOp .And (b::rest) pos) tb):PE X (.BoolOp .And (a::b::rest) pos) (cJZ ta tb):=by
 intro pins s σ H Q I h
 refine BoolOp_and (thn (ha pins s σ H _ I h) λv s1 ⟨x,H1,I1,r1,q1⟩=> ?_)
 obtain⟨c,rfl,q1⟩:=q1
 cases r1
 refine wpAny_truthy_bool ?_
 cases c with
 |true=>exact hb pins s1 σ H1 Q I1 q1
 |false=>exact⟨.bl false,H1,I1,rfl,q1⟩
theorem dhZ(ha:PE X a ta)(hb:PE X (.BoolOp .Or (b::rest) pos) tb):PE X (.BoolOp .Or (a::b::rest) pos) (d0Z ta tb):=by
 intro pins s σ H Q I h
 refine BoolOp_or (thn (ha pins s σ H _ I h) λv s1 ⟨x,H1,I1,r1,q1⟩=> ?_)
 obtain⟨c,rfl,q1⟩:=q1
 cases r1
 refine wpAny_truthy_bool ?_
 cases c with
 |false=>exact hb pins s1 σ H1 Q I1 q1
 |true=>exact⟨.bl true,H1,I1,rfl,q1⟩
theorem cuZ(ha:PE X a ta):PE X (.UnaryOp .Not a pos) (dvZ ta):=by
 intro pins s σ H Q I h
 refine UnaryOp_ (thn (ha pins s σ H _ I h) λv s1 ⟨x,H1,I1,r1,q1⟩=> ?_)
 obtain⟨c,rfl,q1⟩:=q1
 cases r1
 exact not_of (wpAny_truthy_bool ⟨.bl (!c),H1,I1,rfl,q1⟩)
def tIf(t:TT)(ta tb:TE):TE:=fun σ H Q=>t σ H λc H1=>if c=true then ta σ H1 Q else tb σ H1 Q
theorem Q4{c:Expr}(hc:PT X c tA)(ha:PE X a ta)(hb:PE X b tb):PE X (.IfExp c a b pos) (tIf tA ta tb):=by
 intro pins s σ H Q I h
 refine wpAny_IfExp (thn (hc pins s σ H _ I h) λd s1 ⟨H1,I1,q1⟩=> ?_)
 cases d with
 |true=>exact ha pins s1 σ H1 Q I1 q1
 |false=>exact hb pins s1 σ H1 Q I1 q1
end
def SqL(K:FZ)(H:Hp)(a:Addr)(xs:List V):Prop:=
 Rd H a (.lst xs)\/
  ∃(o:Obj) (its:Array Value) (n:Nat),K.lookup a=some o/\o.cls=.type "list"/\o.dict=none/\o.data=.seq its n/\its.size<=sizeLine/\Vals xs its.toList
def SqT(K:FZ)(H:Hp)(a:Addr)(xs:List V):Prop:=
 Rd H a (.tup xs)\/
  ∃(o:Obj) (its:Array Value) (n:Nat),K.lookup a=some o/\o.cls=.type "tuple"/\o.data=.seq its n/\its.size<=sizeLine/\Vals xs its.toList
def dyZ:Value->Option V
 | .none=>some .non
 | .bool b=>some (.bl b)
 | .int i _=>some (.int i)
 | .str x _=>some (.str x)
 | .bytes b _=>some (.byt b)
 | .float b _=>some (.flt b)
 | .ref a=>some (.ref a)
 | .type n=>some (.ty n)
 |_=>none
theorem RelV.abs{x:V}{u:Value}(r:RelV x u):dyZ u=some x:=by
 cases x with
 |non=>cases r;rfl
 |bl _=>cases r;rfl
 |int _=>obtain⟨t,rfl⟩:=r;rfl
 |str _=>obtain⟨t,rfl⟩:=r;rfl
 |byt _=>obtain⟨t,rfl⟩:=r;rfl
 |flt _=>obtain⟨t,rfl⟩:=r;rfl
 |ref _=>cases r;rfl
 |ty _=>cases r;rfl
theorem RelV.inj{x y:V}{u:Value}(r:RelV x u)(q:RelV y u):x=y:=Option.some.inj (r.abs.symm.trans q.abs)
theorem Vals.inj:∀ {xs ys:List V} {us:List Value},Vals xs us->Vals ys us->xs=ys
 |_,_,_,.nil,.nil=>rfl
 |_,_,_,.cons r t,.cons r' t'=>by rw[r.inj r',Vals.inj t t']
section
variable{X:Cx}{pins:List (Addr×Obj)}{σ:St}{H:Hp}{s:Shared}{a:Addr}{xs ys:List V}
theorem SqL.of{K:FZ}(h:H a=some (.lst xs)):SqL K H a xs:=.inl (.inl h)
theorem SqT.of{K:FZ}(h:H a=some (.tup xs)):SqT K H a xs:=.inl (.inl h)
theorem Inv.list(I:Inv X pins σ H s)(h:SqL X.K H a xs):∃its:List Value,Vals xs its/\PlainL s.heap a its.toArray/\xs.length<=sizeLine:=by
 rcases h with h|⟨o,its,n,hk,hc,hd,hs,hz,r⟩
 ·obtain⟨z,its,n,r,e⟩:=h.ok I.hok
  exact⟨its,r,⟨_,n,e,rfl,rfl,rfl⟩,z⟩
 ·refine⟨its.toList,r,⟨o,n,I.kIn a o hk,hc,hd,by simpa using hs⟩, ?_⟩
  have e:=r.length
  simp only[Array.length_toList]at e
  omega
theorem Inv.tuple(I:Inv X pins σ H s)(h:SqT X.K H a xs):∃its:List Value,Vals xs its/\IsTup s.heap a its.toArray/\xs.length<=sizeLine:=by
 rcases h with h|⟨o,its,n,hk,hc,hs,hz,r⟩
 ·obtain⟨z,its,r,p⟩:=h.ok I.hok
  exact⟨its,r,p,z⟩
 ·refine⟨its.toList,r,⟨o,I.kIn a o hk,hc,n,by simpa using hs⟩, ?_⟩
  have e:=r.length
  simp only[Array.length_toList]at e
  omega
theorem Inv.list_inj(I:Inv X pins σ H s)(h:SqL X.K H a xs)(h':SqL X.K H a ys):xs=ys:=by
 obtain⟨its,r,⟨o,n,e,_,_,d⟩,_⟩:=I.list h
 obtain⟨its',r',⟨o',n',e',_,_,d'⟩,_⟩:=I.list h'
 rw[e]at e';cases e'
 rw[d]at d'
 injection d' with d1 _
 have:its=its':=by simpa using congrArg Array.toList d1
 subst this
 exact r.inj r'
theorem Inv.tuple_inj(I:Inv X pins σ H s)(h:SqT X.K H a xs)(h':SqT X.K H a ys):xs=ys:=by
 obtain⟨its,r,⟨o,e,_,n,d⟩,_⟩:=I.tuple h
 obtain⟨its',r',⟨o',e',_,n',d'⟩,_⟩:=I.tuple h'
 rw[e]at e';cases e'
 rw[d]at d'
 injection d' with d1 _
 have:its=its':=by simpa using congrArg Array.toList d1
 subst this
 exact r.inj r'
end
noncomputable abbrev Cx.wish(X:Cx)(E:Value->Shared->Prop):Cx:={X with xe:=E}
noncomputable abbrev Cx.nox(X:Cx):Cx:=X.wish λ_ _=>False
theorem Cx.Ok.wish{X:Cx}(ok:X.Ok)(E:Value->Shared->Prop):(X.wish E).Ok:=
 ⟨ok.mod,ok.kind,ok.glob,ok.blt,ok.above,ok.inj,ok.has,ok.cab,ok.hd,ok.frames,ok.stk,ok.exf,ok.bs,ok.bsz,ok.noex,ok.exfs,ok.funs,ok.frf⟩
theorem Cx.Ok.unwish{X:Cx}{E:Value->Shared->Prop}(ok:(X.wish E).Ok):X.Ok:=
 ⟨ok.mod,ok.kind,ok.glob,ok.blt,ok.above,ok.inj,ok.has,ok.cab,ok.hd,ok.frames,ok.stk,ok.exf,ok.bs,ok.bsz,ok.noex,ok.exfs,ok.funs,ok.frf⟩
section
variable{X:Cx}{pins:List (Addr×Obj)}{σ:St}{H:Hp}{s:Shared}{E:Value->Shared->Prop}
theorem Inv.wish(I:Inv X pins σ H s)(E:Value->Shared->Prop):Inv (X.wish E) pins σ H s:=⟨I.ok.wish E,I.os,I.bare,I.base,I.loc,I.cell,I.free,I.freeC,I.pin,I.hok,I.len⟩
theorem Inv.unwish(I:Inv (X.wish E) pins σ H s):Inv X pins σ H s:=⟨I.ok.unwish,I.os,I.bare,I.base,I.loc,I.cell,I.free,I.freeC,I.pin,I.hok,I.len⟩
theorem SP.unwish{D:Ends}{f:Flow}{s':Shared}(h:SP (X.wish E) pins D f s'):SP X pins D f s':=by
 cases f with
 |next=>obtain⟨σ',H',I,q⟩:=h;exact⟨σ',H',I.unwish,q⟩
 |brk=>obtain⟨σ',H',I,q⟩:=h;exact⟨σ',H',I.unwish,q⟩
 |cont=>obtain⟨σ',H',I,q⟩:=h;exact⟨σ',H',I.unwish,q⟩
 |ret u=>obtain⟨v,σ',H',I,r,q⟩:=h;exact⟨v,σ',H',I.unwish,r,q⟩
theorem PSs.nox{st:List Stmt}{t:TS}(h:PSs X.nox st t):PSs X st t:=λpins s σ H D I hw=>
 wpAny_mono (h pins s σ H D (I.wish _) hw) (λ_ _ q=>q.unwish) λ_ _ z=>False.elim z
variable{st:Stmt}{rest:List Stmt}{t u:TS}{e:Expr}{te:TE}{pos:Pos}
def dsZ:TS:=λD σ H=>D.nx σ H
def Q3(t u:TS):TS:=λD σ H=>t {D with nx:=u D} σ H
theorem C9:PSs X [] dsZ:=λ_ _ σ H _ I h=>wpAny_execs_nil ⟨σ,H,I,h⟩
theorem A8(h1:PS X st t)(h2:PSs X rest u):PSs X (st::rest) (Q3 t u):=by
 intro pins s σ H D I h
 refine wpAny_execs_cons (thn (h1 pins s σ H {D with nx:=u D} I h) λf s1 q=> ?_)
 cases f with
 |next=>
  obtain⟨σ',H',I',q⟩:=q
  exact h2 pins s1 σ' H' D I' q
 |ret v=>exact q
 |brk=>exact q
 |cont=>exact q
theorem A9(h1:PS X st t):PSs X [st] t:=by
 intro pins s σ H D I h
 refine wpAny_execs_cons (thn (h1 pins s σ H D I h) λf s1 q=> ?_)
 cases f with
 |next=>exact wpAny_execs_nil q
 |ret v=>exact q
 |brk=>exact q
 |cont=>exact q
theorem Inv.quiet{pins:List (Addr×Obj)}{σ:St}{H:Hp}{s:Shared}(I:Inv X pins σ H s):interactive X.env=false:=by simp[interactive,I.ok.kind]
def c4Z(te:TE):TS:=λD σ H=>te σ H λ_ H1=>D.nx σ H1
theorem G2(he:PE X e te)(hs:swapsWith e none pos.line X.env=pure false:=by rfl):PS X (.Expr e pos) (c4Z te):=by
 intro pins s σ H D I h
 exact wpAny_Expr_any (thn (he pins s σ H _ I h) λv s1 ⟨x,H1,I1,r1,q1⟩=>⟨σ,H1,I1,q1⟩) I.quiet hs
def dwZ(te:TE):TS:=λD σ H=>te σ H D.rt
theorem C0(he:PE X e te):PS X (.Return (some e) pos) (dwZ te):=by
 intro pins s σ H D I h
 exact wpAny_Return_some (thn (he pins s σ H _ I h) λv s1 ⟨x,H1,I1,r1,q1⟩=>⟨x,σ,H1,I1,r1,q1⟩)
def djZ:TS:=λD _ H=>D.rt .non H
theorem KD:PS X (.Return none pos) djZ:=λ_ _ σ H _ I h=>wpAny_Return_none ⟨.non,σ,H,I,rfl,h⟩
def dSZ(c:TT)(t u:TS):TS:=λD σ H=>c σ H λb H1=>if b=true then t D σ H1 else u D σ H1
theorem D8{c:Expr}{a b:List Stmt}{tc:TT}(hc:PT X c tc)(ha:PSs X a t)(hb:PSs X b u):PS X (.If c a b pos) (dSZ tc t u):=by
 intro pins s σ H D I h
 refine wpAny_If (thn (hc pins s σ H _ I h) λd s1 ⟨H1,I1,q1⟩=> ?_)
 cases d with
 |true=>exact ha pins s1 σ H1 D I1 q1
 |false=>exact hb pins s1 σ H1 D I1 q1
end
abbrev TG:=V->St->Hp->(St->Hp->Prop)->Prop
abbrev TGs:=List V->St->Hp->(St->Hp->Prop)->Prop
def PG(X:Cx)(target:Expr)(t:TG):Prop:=
 ∀(pins:List (Addr×Obj)) (s:Shared) (σ:St) (H:Hp) (v:V) (u:Value) (Q:St->Hp->Prop),Inv X pins σ H s->RelV v u->t v σ H Q->
  wpAny (model X.prog X.w) X.A (assign target X.env u) (λ_ s'=>∃σ' H',Inv X pins σ' H' s'/\Q σ' H') X.xe s
def PGs(X:Cx)(ts:List Expr)(t:TGs):Prop:=
 ∀(pins:List (Addr×Obj)) (s:Shared) (σ:St) (H:Hp) (vs:List V) (us:List Value) (Q:St->Hp->Prop),Inv X pins σ H s->Vals vs us->t vs σ H Q->
  wpAny (model X.prog X.w) X.A (assignInOrder ((assignEach ts X.env).map (·.2)) us) (λ_ s'=>∃σ' H',Inv X pins σ' H' s'/\Q σ' H') X.xe s
abbrev cyZ:=V->V->V->Hp->(Hp->Prop)->Prop
def bsZ(X:Cx)(t:cyZ):Prop:=
 ∀(pins:List (Addr×Obj)) (s:Shared) (σ:St) (H:Hp) (o i v:V) (ov iv u:Value) (Q:Hp->Prop),Inv X pins σ H s->RelV o ov->RelV i iv->RelV v u->t o i v H Q->
  wpAny (model X.prog X.w) X.A (setItem ov iv u) (λ_ s'=>∃H',Inv X pins σ H' s'/\Q H') X.xe s
section
variable{X:Cx}{pos:Pos}
def WP(i:Nat):TG:=λv σ H Q=>Q (σ.set i (some v)) H
theorem M5{i:Nat}{x:Str}(hN:X.N.Nodup)(hi:X.N[i]? =some x)(hx:Loc X.env.scope x)(hf:X.fn x=true\/X.env.scope.names.lookup x=some .local:=by first|exact .inl rfl|exact .inr rfl|assumption):PG X (.Name x pos) (WP i):=by
 intro pins s σ H v u Q I r h
 exact wpAny_assign_Name (FY I hN hi hx r (λs' I'=>⟨_,H,I',h⟩) hf)
def dMZ:TGs:=λvs σ H Q=>vs=[]/\Q σ H
def cHZ(t:TG)(u:TGs):TGs:=λvs σ H Q=>∃v r,vs=v::r/\t v σ H fun σ' H'=>u r σ' H' Q
theorem QO:PGs X [] dMZ:=by
 intro pins s σ H vs us Q I r h
 obtain⟨e,h⟩:=h
 subst e
 cases r
 exact assignInOrder_nil ⟨σ,H,I,h⟩
theorem X4{e:Expr}{es:List Expr}{t:TG}{u:TGs}(h1:PG X e t)(h2:PGs X es u)
  (hs:(assignEach (e::es) X.env).map (·.2)=assign e X.env::(assignEach es X.env).map (·.2):=by rfl):PGs X (e::es) (cHZ t u):=by
 intro pins s σ H vs us Q I r h
 obtain⟨v,vr,e1,h⟩:=h
 subst e1
 cases r with
 |cons r rr=>
  rw[hs]
  refine assignInOrder_cons (thn (h1 pins s σ H _ _ _ I r h) λ_ s1 ⟨σ1,H1,I1,q1⟩=> ?_)
  exact h2 pins s1 σ1 H1 _ _ Q I1 rr q1
def dCZ(K:FZ)(n:Nat)(t:TGs):TG:=λv σ H Q=>∃a xs,v=.ref a/\SqT K H a xs/\xs.length=n/\t xs σ H Q
theorem YM{es:List Expr}{k:Nat}{t:TGs}{n:Nat}(hc:X.calm=true)(h:PGs X es t)
  (hn:(assignEach es X.env).length=n:=by rfl)(hst:(assignEach es X.env).findIdx? (·.1)=none:=by rfl):PG X (.Tuple es k pos) (dCZ X.K n t):=by
 intro pins s σ H v u Q I r hw
 obtain⟨a,xs,e1,hq,hl,hw⟩:=hw
 subst e1
 cases r
 obtain⟨its,rv,ht,hz⟩:=I.tuple hq
 refine assign_Tuple_tuple (I.ok.hd hc) ht (by simp[hn,<-hl,rv.length]) hst λh' hx=> ?_
 have I1:Inv X pins σ H {s with heap:=h'}:=I.kept (t':=s.toks) λb o e=>hx b o (ne_of_lt (lt_size e)) e
 exact h pins _ σ H xs _ Q I1 (by simpa using rv) hw
noncomputable def dxZ(to ti:TE)(t:cyZ):TG:=λv σ H Q=>to σ H λo H1=>ti σ H1 λi H2=>t o i v H2 λH3=>Q σ H3
theorem GJ{o i:Expr}{to ti:TE}{t:cyZ}(ho:PE X o to)(hi:PE X i ti)(hs:bsZ X t)
  (ha:∀v,assign (.Subscript o i pos) X.env v=(do
   let ov<-holding [v] (eval o X.env)
   let iv<-holding [v,ov] (eval i X.env)
   standAt pos
   holding [v,ov,iv] (setItem ov iv v)
   release [v,ov,iv] []):=by intro _;rfl):PG X (.Subscript o i pos) (dxZ to ti t):=by
 intro pins s σ H v u Q I r h
 rw[ha]
 refine bZ (wpAny_holding (thn (ho pins s σ H _ I h) λov s1 ⟨x,H1,I1,r1,q1⟩=> ?_))
 refine bZ (wpAny_holding (thn (hi pins s1 σ H1 _ I1 q1) λiv s2 ⟨y,H2,I2,r2,q2⟩=> ?_))
 refine bZ (wpAny_standAt (bZ (wpAny_holding (thn (hs pins s2 σ H2 x y v ov iv u _ I2 r1 r2 r q2) λ_ s3 ⟨H3,I3,q3⟩=> ?_))))
 exact wpAny_release ⟨σ,H3,I3,q3⟩
def bAZ(te:TE)(g:TG):TS:=λD σ H=>te σ H λx H1=>g x σ H1 D.nx
theorem DG{tg e:Expr}{te:TE}{g:TG}(he:PE X e te)(hg:PG X tg g)(hs:swapsWithSole [tg] e pos.line X.env=pure false:=by rfl)(hw:swappedStores [tg] e X.env=pure none:=by rfl)
  (h1:(assignEach [tg] X.env).map (·.2)=[assign tg X.env]:=by rfl):PS X (.Assign [tg] e pos) (bAZ te g):=by
 intro pins s σ H D I h
 refine wpAny_Assign_stores (thn (he pins s σ H _ I h) λv s1 ⟨x,H1,I1,r1,q1⟩=> ?_) hs hw
 rw[h1]
 exact thn (hg pins s1 σ H1 x v _ I1 r1 q1) λ_ s2 q=>q
theorem C4{i:Nat}{x:Str}{e:Expr}{te:TE}{pos':Pos}(hN:X.N.Nodup)(hi:X.N[i]? =some x)(hx:Loc X.env.scope x)(he:PE X e te)(hs:swapsWith e (some (.Name x pos')) pos.line X.env=pure false:=by rfl)(hf:X.fn x=true\/X.env.scope.names.lookup x=some .local:=by first|exact .inl rfl|exact .inr rfl|assumption):
  PS X (.Assign [.Name x pos'] e pos) (bAZ te (WP i)):=by
 intro pins s σ H D I h
 refine wpAny_Assign_Name (thn (he pins s σ H _ I h) λv s1 ⟨y,H1,I1,r1,q1⟩=> ?_) hs
 exact FY I1 hN hi hx r1 (λs2 I2=>⟨_,H1,I2,q1⟩) hf
def cqZ(c:TT)(tb:TS):TS:=λD σ H=>∃W:Nat->St->Hp->Prop,(∃m,W m σ H)/\∀m σ H,W m σ H->
 c σ H λb H1=>if b=true then∃N:St->Hp->Prop,(∀σ' H',N σ' H'->∃m',m'<m/\W m' σ' H')/\tb {D with nx:=N,ct:=N,bk:=D.nx} σ H1 else D.nx σ H1
theorem BG{c:Expr}{body:List Stmt}{tc:TT}{tb:TS}(hp:PassesOwn (model X.prog X.w) X.A X.env X.xe)(hc:PT X c tc)(hb:PSs X body tb):PS X (.While c body [] pos) (cqZ tc tb):=by
 intro pins s σ H D I h
 obtain⟨W,⟨m0,w0⟩,turn⟩:=h
 refine wpAny_While (codeAny_whileLoop (λn s'=>∃σ' H',Inv X pins σ' H' s'/\W n σ' H') ?_ m0 ⟨σ,H,I,w0⟩)
 rintro n s1 ⟨σ1,H1,I1,w1⟩
 refine wpAny_passesOwn hp (thn (hc pins s1 σ1 H1 _ I1 (turn n σ1 H1 w1)) λb s2 ⟨H2,I2,q2⟩=> ?_)
 cases b with
 |true=>
  obtain⟨N,hN,q2⟩:=q2
  rw[if_pos rfl]
  refine wpAny_passesOwn hp (thn (hb pins s2 σ1 H2 _ I2 q2) λf s3 q3=> ?_)
  cases f with
  |next=>
   obtain⟨σ3,H3,I3,n3⟩:=q3
   obtain⟨m',hm,w3⟩:=hN σ3 H3 n3
   exact⟨m',hm,σ3,H3,I3,w3⟩
  |cont=>
   obtain⟨σ3,H3,I3,n3⟩:=q3
   obtain⟨m',hm,w3⟩:=hN σ3 H3 n3
   exact⟨m',hm,σ3,H3,I3,w3⟩
  |brk=>exact q3
  |ret v=>exact q3
 |false=>
  rw[if_neg nZ]
  exact wpAny_execs_nil ⟨σ1,H2,I2,q2⟩
end
structure It where
 go:Nat->Hp->Prop
 yld:Nat->Hp->V->Hp->Prop
 stop:Nat->Hp->Prop
def PJ(X:Cx)(pins:List (Addr×Obj))(H:Hp)(b:Addr):Prop:=
 H b=none/\b≠X.env.locals/\b∉X.fs/\(b∈X.ex\/X.s₀.heap.objs.size<=b)/\(∀x c,X.env.cells.lookup x=some c->c≠b)/\∀p∈X.pn++pins,p.1≠b
theorem Inv.fpOk{X:Cx}{pins:List (Addr×Obj)}{σ:St}{H H':Hp}{s:Shared}{b:Addr}(I:Inv X pins σ H s)(hb:s.heap.objs.size<=b)(hn:H' b=none):PJ X pins H' b:=by
 refine⟨hn,Nat.ne_of_gt (lt_of_lt_of_le I.lt hb),I.nofs hb,.inr (le_trans I.sz hb),λx c e z=> ?_,λp hp z=> ?_⟩
 ·obtain⟨v,q⟩:=I.cell x c e
  exact absurd (lt_of_lt_of_le q.lt (by rw[z];exact hb)) (lt_irrefl _)
 ·exact absurd (lt_of_lt_of_le (lt_size (I.pin p hp).1) (by rw[z];exact hb)) (lt_irrefl _)
structure Turn (P:Program) (w:World) (K:FZ) (tg:Expr) (J:It) (fp:List Addr) (it:Addr) (tn:Nat->Heap->Prop):Prop where
 mem:it∈fp
 obj:∀i h,tn i h->∀b∈fp,∃o,h.get? b=some o/\∀v,o.data≠ .cell v
 keep:∀i h h',tn i h->(∀b∈fp,∀o,h.get? b=some o->h'.get? b=some o)->tn i h'
 item:∀(X:Cx),X.prog=P->X.w=w->X.K=K->X.calm=true->∀(i:Nat) (pins:List (Addr×Obj)) (s:Shared) (σ:St) (H:Hp) (E:Value->Shared->Prop),Inv X pins σ H s->(∀b∈fp,PJ X pins H b)->tn i s.heap->J.go i H->
  wpAny (model P w) X.A (pyNext (.ref it)) (λr s1=>∃u,r=some u/\
   wpAny (model P w) X.A (letOwnedTupleGo tg (.ref it) u) (λ_ s2=>∃x H',Inv X pins σ H' s2/\RelV x u/\J.yld i H x H'/\tn (i+1) s2.heap/\∀b∈fp,H' b=none) E s1) E s
 done:∀(X:Cx),X.prog=P->X.w=w->X.K=K->X.calm=true->∀(i:Nat) (pins:List (Addr×Obj)) (s:Shared) (σ:St) (H:Hp) (E:Value->Shared->Prop),Inv X pins σ H s->(∀b∈fp,PJ X pins H b)->tn i s.heap->J.stop i H->
  wpAny (model P w) X.A (pyNext (.ref it)) (λr s1=>r=none/\Inv X pins σ H s1) E s
 self:∀(A:Around) (i:Nat) (s:Shared) (Q:Value->Shared->Prop) (E:Value->Shared->Prop),tn i s.heap->Q (.ref it) s->wpAny (model P w) A (pyIter (.ref it)) Q E s
abbrev TI:=St->Hp->(It->Hp->Prop)->Prop
def PIE(X:Cx)(pins:List (Addr×Obj))(σ:St)(tg:Expr)(R:It->Hp->Prop)(itv:Value)(s2:Shared):Prop:=
 ∃(it:Addr) (fp:List Addr) (tn:Nat->Heap->Prop) (J:It) (H':Hp),itv=.ref it/\Inv X pins σ H' s2/\Turn X.prog X.w X.K tg J fp it tn/\tn 0 s2.heap/\(∀b∈fp,PJ X pins H' b)/\R J H'
def PI(X:Cx)(tg iter:Expr)(wi:TI):Prop:=
 ∀(pins:List (Addr×Obj)) (s:Shared) (σ:St) (H:Hp) (R:It->Hp->Prop),Inv X pins σ H s->wi σ H R->
  wpAny (model X.prog X.w) X.A (eval iter X.env) (λv s1=>wpAny (model X.prog X.w) X.A (pyIter v) (PIE X pins σ tg R) X.xe s1) X.xe s
theorem QL{M:Model}{A:Around}{E:Value->Shared->Prop}{s:Shared}{tg:Expr}{it:Addr}{u:Value}{o:Obj}{n:String}{vs:Array Value}{Q:Unit->Shared->Prop}(ho:s.heap.get? it=some o)(hc:o.cls=.type n)(hd:o.data=.fields vs)
  (hn: ["enumerate","zip","dict_itemiterator","dict_reverseitemiterator","odict_iterator","itertools.zip_longest","itertools.pairwise"].contains n=false)(hQ:Q () s):wpAny M A (letOwnedTupleGo tg (.ref it) u) Q E s:=by
 unfold letOwnedTupleGo
 cases tg<;>first
  |exact pZ hQ
  |(cases u<;>first
    |exact pZ hQ
    |(refine bZ (wpAny_load ho ?_)
      rw[hc,hd]
      show wpAny M A (if(["enumerate","zip","dict_itemiterator","dict_reverseitemiterator","odict_iterator","itertools.zip_longest","itertools.pairwise"].contains n&&vs[0]? ==some (rawInt _))=true then _ else _) Q E s
      rw[if_neg (by intro h;rw[hn,Bool.false_and]at h;cases h)]
      exact pZ hQ))
noncomputable def Itl(K:FZ)(a:Addr):It:=
 ⟨λi H=>∃xs x,SqL K H a xs/\xs[i]? =some x,λi H x H'=>H'=H/\∀xs,SqL K H a xs->xs[i]? =some x,λi H=>∃xs,SqL K H a xs/\xs.length<=i⟩
noncomputable def Itt(K:FZ)(a:Addr):It:=
 ⟨λi H=>∃xs x,SqT K H a xs/\xs[i]? =some x,λi H x H'=>H'=H/\∀xs,SqT K H a xs->xs[i]? =some x,λi H=>∃xs,SqT K H a xs/\xs.length<=i⟩
noncomputable def Itr(lo:Int)(n:Nat):It:=⟨λi _=>i<n,λi H x H'=>H'=H/\x=.int (lo+i),λi _=>n<=i⟩
theorem IK{P:Program}{w:World}{K:FZ}{tg:Expr}(a it:Addr):Turn P w K tg (Itl K a) [it] it (λi h=>h.IsListIter it a i) where
 mem:=by simp
 obj:=λi h st b hb=>by
  have e:b=it:=by simpa using hb
  subst e
  obtain⟨o,e,c,d⟩:=st
  exact⟨o,e,λv z=>by rw[d]at z;cases z⟩
 keep:=λi h h' st k=>st.at λo e=>k it (by simp) o e
 item:=by
  intro X hP hw hK hc i pins s σ H E I hf st hg
  subst hP hw hK
  obtain⟨xs,x,hq,hx⟩:=hg
  obtain⟨its,rv,p,hz⟩:=I.list hq
  obtain⟨u,hu,ru⟩:=rv.get hx
  obtain⟨f0,f1,f2,f3,f4,f5⟩:=hf it (by simp)
  refine wpAny_pyNext_list_item st p.isList (x:=u) (by simpa using hu) λh' st' sb=> ?_
  have I1:Inv X pins σ H {s with heap:=h'}:=I.turned (t':=s.toks) (λb o hb e=>(sb.2 b hb).trans e) f0 f1 f3 f4 f5
  obtain⟨o,e,c,d⟩:=id st'
  exact⟨u,rfl,QL (s:={s with heap:=h'}) e c d (by decide) ⟨x,H,I1,ru,⟨rfl,λys hy=>by rw[I.list_inj hy hq];exact hx⟩,st',λb hb=>(hf b hb).1⟩⟩
 done:=by
  intro X hP hw hK hc i pins s σ H E I hf st hg
  subst hP hw hK
  obtain⟨xs,hq,hx⟩:=hg
  obtain⟨its,rv,p,hz⟩:=I.list hq
  obtain⟨f0,f1,f2,f3,f4,f5⟩:=hf it (by simp)
  have hl:=rv.length
  exact wpAny_pyNext_list_end (I.ok.hd hc) st p.isList (by simp;omega) λh' eb=>⟨rfl,I.turned (t':=s.toks) (λb o hb e=>eb b o hb e) f0 f1 f3 f4 f5⟩
 self:=λ_ _ _ _ _ st h=>wpAny_pyIter_listiter st h
theorem PN{P:Program}{w:World}{K:FZ}{tg:Expr}(a it:Addr):Turn P w K tg (Itt K a) [it] it (λi h=>h.IsTupleIter it a i) where
 mem:=by simp
 obj:=λi h st b hb=>by
  have e:b=it:=by simpa using hb
  subst e
  obtain⟨o,e,c,d⟩:=st
  exact⟨o,e,λv z=>by rw[d]at z;cases z⟩
 keep:=λi h h' st k=>st.at λo e=>k it (by simp) o e
 item:=by
  intro X hP hw hK hc i pins s σ H E I hf st hg
  subst hP hw hK
  obtain⟨xs,x,hq,hx⟩:=hg
  obtain⟨its,rv,p,hz⟩:=I.tuple hq
  obtain⟨u,hu,ru⟩:=rv.get hx
  obtain⟨f0,f1,f2,f3,f4,f5⟩:=hf it (by simp)
  refine wpAny_pyNext_tuple_item st (show s.heap.IsTuple a its.toArray from p) (x:=u) (by simpa using hu) λh' st' sb=> ?_
  have I1:Inv X pins σ H {s with heap:=h'}:=I.turned (t':=s.toks) (λb o hb e=>(sb.2 b hb).trans e) f0 f1 f3 f4 f5
  obtain⟨o,e,c,d⟩:=id st'
  exact⟨u,rfl,QL (s:={s with heap:=h'}) e c d (by decide) ⟨x,H,I1,ru,⟨rfl,λys hy=>by rw[I.tuple_inj hy hq];exact hx⟩,st',λb hb=>(hf b hb).1⟩⟩
 done:=by
  intro X hP hw hK hc i pins s σ H E I hf st hg
  subst hP hw hK
  obtain⟨xs,hq,hx⟩:=hg
  obtain⟨its,rv,p,hz⟩:=I.tuple hq
  obtain⟨f0,f1,f2,f3,f4,f5⟩:=hf it (by simp)
  have hl:=rv.length
  exact wpAny_pyNext_tuple_end (I.ok.hd hc) st (show s.heap.IsTuple a its.toArray from p) (by simp;omega) λh' eb=>⟨rfl,I.turned (t':=s.toks) (λb o hb e=>eb b o hb e) f0 f1 f3 f4 f5⟩
 self:=λ_ _ _ _ _ st h=>wpAny_pyIter_tupleiter st h
theorem PH{P:Program}{w:World}{K:FZ}{tg:Expr}(it:Addr)(lo:Int)(n:Nat):Turn P w K tg (Itr lo n) [it] it (λi h=>IsRangeIter h it (lo+(i:Nat)*1) ((n:Int) - (i:Nat)) 1) where
 mem:=by simp
 obj:=λi h st b hb=>by
  have e:b=it:=by simpa using hb
  subst e
  exact⟨_,st,λv z=>by
   have z':Data.fields _=Data.cell v:=z
   cases z'⟩
 keep:=λi h h' st k=>k it (by simp) _ st
 item:=by
  intro X hP hw hK hc i pins s σ H E I hf st hg
  subst hP hw hK
  obtain⟨f0,f1,f2,f3,f4,f5⟩:=hf it (by simp)
  have W:=Walks.range (prog:=X.prog) (w:=X.w) (I.ok.hd hc) it lo 1 n
  refine W.item i s _ _ hg st λv h' tk hv st' kk=> ?_
  obtain⟨t,rfl⟩:=hv
  have I1:Inv X pins σ H {s with heap:=h',toks:=tk}:=I.turned (λb o hb e=>kk b o (by simpa using hb) e) f0 f1 f3 f4 f5
  refine⟨_,rfl,QL (s:={s with heap:=h',toks:=tk}) (n:="range_iterator") st' rfl rfl (by decide) ⟨.int (lo+i),H,I1,⟨t, ?_⟩,⟨rfl,rfl⟩,st',λb hb=>(hf b hb).1⟩⟩
  rw[Int.mul_one]
 done:=by
  intro X hP hw hK hc i pins s σ H E I hf st hg
  subst hP hw hK
  obtain⟨f0,f1,f2,f3,f4,f5⟩:=hf it (by simp)
  exact wpAny_pyNext_range_end (I.ok.hd hc) st (by have:n<=i:=hg;omega) λh' eb=>⟨rfl,I.turned (t':=s.toks) (λb o hb e=>eb b o hb e) f0 f1 f3 f4 f5⟩
 self:=λ_ _ _ _ _ st h=>wpAny_pyIter_rangeiter st h
section
variable{X:Cx}{tg:Expr}
def a5Z(K:FZ)(tl:TE):TI:=fun σ H R=>tl σ H λx H1=>∃a,x=.ref a/\(∃xs,SqL K H1 a xs)/\R (Itl K a) H1
theorem aiZ{l:Expr}{tl:TE}(hl:PE X l tl):PI X tg l (a5Z X.K tl):=by
 intro pins s σ H R I h
 refine thn (hl pins s σ H _ I h) λv s1 ⟨x,H1,I1,r1,q1⟩=> ?_
 obtain⟨a,e,⟨xs,hq⟩,q⟩:=q1
 subst e
 cases r1
 obtain⟨its,rv,p,hz⟩:=I1.list hq
 refine wpAny_pyIter_list p.isList ?_
 refine⟨s1.heap.objs.size,[s1.heap.objs.size],_,_,H1,rfl,I1.kept (t':=s1.toks) λb o e=>gZ _ e,IK a _,⟨_,get?_push_size _ rfl,rfl,rfl⟩,λb hb=> ?_,q⟩
 have e:b=s1.heap.objs.size:=by simpa using hb
 subst e
 exact I1.fpOk (Nat.le_refl _) (I1.hok.fresh (Nat.le_refl _))
theorem WZ{pins:List (Addr×Obj)}{σ:St}{H:Hp}{s:Shared}{R:It->Hp->Prop}{E:Value->Shared->Prop}{lo hi:Int}{t u v:Tok}{tk:Nat}(I:Inv X pins σ H s)(h1: -(2^62)<=lo)(h2:lo<2^62)(h3: -(2^62)<=hi)(h4:hi<2^62)
  (q:R (Itr lo (hi - lo).toNat) H):wpAny (model X.prog X.w) X.A (pyIter (.ref s.heap.objs.size)) (PIE X pins σ tg R) E {s with heap:=s.heap.push {cls:=.type "range",data:=.fields #[.int lo t,.int hi u,.int 1 v]},toks:=tk}:=by
 refine wpAny_pyIter_range (IsRange.new ..) (small_one h1 h2 h3 h4) ?_
 have I1:Inv X pins σ H {s with heap:=s.heap.push {cls:=.type "range",data:=.fields #[.int lo t,.int hi u,.int 1 v]},toks:=tk}:=I.kept λb o e=>gZ _ e
 refine⟨(s.heap.push {cls:=.type "range",data:=.fields #[.int lo t,.int hi u,.int 1 v]}).objs.size,[(s.heap.push {cls:=.type "range",data:=.fields #[.int lo t,.int hi u,.int 1 v]}).objs.size],_,_,H,rfl,
  I1.kept (t':=tk) λb o e=>gZ _ e,PH _ lo (hi - lo).toNat, ?_,λb hb=> ?_,q⟩
 ·have e1:lo+((0:Nat):Int)*1=lo:=by simp
  have e2:(((hi - lo).toNat:Nat):Int) - ((0:Nat):Int)=Builtin.Range.rangeSize lo hi 1:=by rw[rangeSize_one];split<;>omega
  show IsRangeIter _ _ (lo+((0:Nat):Int)*1) ((((hi - lo).toNat:Nat):Int) - ((0:Nat):Int)) 1
  rw[e1,e2]
  exact get?_push_size _ rfl
 ·have e:b=(s.heap.push {cls:=.type "range",data:=.fields #[.int lo t,.int hi u,.int 1 v]}).objs.size:=by simpa using hb
  subst e
  exact I1.fpOk (Nat.le_refl _) (I1.hok.fresh (Nat.le_refl _))
def cIZ(ta:TA):TI:=fun σ H R=>ta σ H λvs H1=>∃j:Int,vs=[.int j]/\ -(2^62)<=j/\j<2^62/\R (Itr 0 j.toNat) H1
theorem Q0{a:Expr}{ta:TA}{p pos:Pos}(hg:Gl X "range")(hm:X.mg "range"=none)(ha:PA X [a] ta)(hs:starEach [a] X.env=[(false,eval a X.env)]:=by rfl):PI X tg (.Call (.Name "range" p) [a] [] pos) (cIZ ta):=by
 intro pins s σ H R I h
 refine Call_ (AJ I hg hm boot_range (callWith_type1 (thn (ha pos pins s σ H _ I h) λus s1 ⟨vs,H1,I1,r1,q1⟩=> ?_) hs rfl))
 obtain⟨j,e,q1,q2,q⟩:=q1
 subst e
 cases r1 with
 |cons r rr=>
  cases rr
  obtain⟨t,rfl⟩:=r
  exact call_range_1 (WZ I1 (by omega) (by omega) q1 q2 (by simpa using q))
def d3Z(wi:TI)(g:TG)(tb:TS):TS:=λD σ H=>wi σ H λJ H1=>∃W:Nat->Nat->St->Hp->Prop,(∃m,W 0 m σ H1)/\∀i m σ H,W i m σ H->
 (J.stop i H/\D.nx σ H)\/(J.go i H/\∃N:St->Hp->Prop,(∀σ' H',N σ' H'->∃m',m'<m/\W (i+1) m' σ' H')/\∀x H',J.yld i H x H'->g x σ H' fun σ2 H2=>tb {D with nx:=N,ct:=N,bk:=D.nx} σ2 H2)
noncomputable def CP(fp:List Addr)(h:Heap):List (Addr×Obj):=fp.filterMap λb=>(h.get? b).map λo=>(b,o)
theorem U6{fp:List Addr}{h:Heap}{b:Addr}{o:Obj}(hb:b∈fp)(e:h.get? b=some o):(b,o)∈CP fp h:=mem_filterMap.mpr ⟨b,hb,by rw[e];rfl⟩
theorem TW{fp:List Addr}{h:Heap}{p:Addr×Obj}(hp:p∈CP fp h):p.1∈fp/\h.get? p.1=some p.2:=by
 obtain⟨b,hb,e⟩:=mem_filterMap.mp hp
 cases q:h.get? b with
 |none=>rw[q]at e;cases e
 |some o=>
  rw[q]at e
  have e':(b,o)=p:=Option.some.inj e
  subst e'
  exact⟨hb,q⟩
theorem Inv.pinned{pins:List (Addr×Obj)}{σ:St}{H:Hp}{s:Shared}{fp:List Addr}(I:Inv X pins σ H s)(hf:∀b∈fp,PJ X pins H b)(ho:∀b∈fp,∃o,s.heap.get? b=some o/\∀v,o.data≠ .cell v):Inv X (pins++CP fp s.heap) σ H s:=
 I.pins_of λp hp=>(mem_append.mp hp).elim (λz=>I.pin p (mem_append_right _ z)) λz=>by
  obtain⟨hb,e⟩:=TW z
  obtain⟨f0,f1,f2,_⟩:=hf p.1 hb
  obtain⟨o,e',d⟩:=ho p.1 hb
  rw[e]at e';cases e'
  exact⟨e,f0,f1,f2,d⟩
theorem Inv.unpinned{pins pl:List (Addr×Obj)}{σ:St}{H:Hp}{s:Shared}(I:Inv X (pins++pl) σ H s):Inv X pins σ H s:=I.pins_of λp hp=>I.pin p (mem_append_right _ (mem_append_left _ hp))
theorem X2{iter:Expr}{body:List Stmt}{wi:TI}{g:TG}{tb:TS}{pos:Pos}(hp:PassesOwn (model X.prog X.w) X.A X.env X.xe)(hc:X.calm=true)(hi:PI X tg iter wi)(hg:PG X tg g)(hb:PSs X body tb)
  (hs:∀x,foldedSetIterable iter X.env x=pure x:=by intro _;rfl):PS X (.For tg iter body [] pos) (d3Z wi g tb):=by
 intro pins s σ H D I h
 refine wpAny_For (thn (hi pins s σ H _ I h) λv s1 h1=>thn h1 λitv s2 h2=> ?_) hs
 obtain⟨it,fp,tn,J,H2,e,I2,T,st2,f2,W,⟨m0,w0⟩,turn⟩:=h2
 subst e
 have stat:∀ {H':Hp},(∀b∈fp,H' b=none)->∀b∈fp,PJ X pins H' b:=λhn b hb=>⟨hn b hb,(f2 b hb).2⟩
 refine codeAny_forLoop_any (λn s'=>∃i σ' H',Inv X pins σ' H' s'/\tn i s'.heap/\(∀b∈fp,H' b=none)/\W i n σ' H') ?_ m0 ⟨0,σ,H2,I2,st2,λb hb=>(f2 b hb).1,w0⟩
 rintro n s3 ⟨i,σ3,H3,I3,st3,fr3,w3⟩
 rcases turn i n σ3 H3 w3 with⟨stop,qn⟩|⟨go,N,hN,step⟩
 ·refine wpAny_passesOwn hp (thn (T.done X rfl rfl rfl hc i pins s3 σ3 H3 X.xe I3 (stat fr3) st3 stop) λr s4 ⟨hr,I4⟩=> ?_)
  subst hr
  exact wpAny_execs_nil ⟨σ3,H3,I4,qn⟩
 ·refine wpAny_passesOwn hp (thn (T.item X rfl rfl rfl hc i pins s3 σ3 H3 X.xe I3 (stat fr3) st3 go) λr s4 ⟨u,hr,h4⟩=> ?_)
  subst hr
  refine wpAny_passesOwn hp (thn h4 λ_ s5 ⟨x,H5,I5,r5,y5,st5,fr5⟩=> ?_)
  have I5':=I5.pinned (stat fr5) (T.obj _ _ st5)
  refine wpAny_passesOwn hp (thn (hg _ s5 σ3 H5 x u _ I5' r5 (step x H5 y5)) λ_ s6 ⟨σ6,H6,I6,q6⟩=> ?_)
  refine wpAny_passesOwn hp (thn (hb _ s6 σ6 H6 _ I6 q6) λf s7 q7=> ?_)
  have again:∀ {σ7:St} {H7:Hp},Inv X (pins++CP fp s5.heap) σ7 H7 s7->N σ7 H7->∃m,m<n/\∃i σ' H',Inv X pins σ' H' s7/\tn i s7.heap/\(∀b∈fp,H' b=none)/\W i m σ' H':=λ{σ7 H7} I7 n7=>by
   obtain⟨m',hm,w7⟩:=hN σ7 H7 n7
   refine⟨m',hm,i+1,σ7,H7,I7.unpinned,T.keep _ _ _ st5 λb hb o e=>(I7.pin (b,o) (mem_append_right _ (mem_append_right _ (U6 hb e)))).1,λb hb=> ?_,w7⟩
   obtain⟨o,e,d⟩:=T.obj _ _ st5 b hb
   exact(I7.pin (b,o) (mem_append_right _ (mem_append_right _ (U6 hb e)))).2.1
  cases f with
  |next=>obtain⟨σ7,H7,I7,n7⟩:=q7;exact again I7 n7
  |cont=>obtain⟨σ7,H7,I7,n7⟩:=q7;exact again I7 n7
  |brk=>obtain⟨σ7,H7,I7,q7⟩:=q7;exact⟨σ7,H7,I7.unpinned,q7⟩
  |ret v=>obtain⟨x7,σ7,H7,I7,r7,q7⟩:=q7;exact⟨x7,σ7,H7,I7.unpinned,r7,q7⟩
end
theorem BB{K:FZ}{a:Addr}{xs:List V}{g:TG}{tb:TS}{D:Ends}{σ:St}{H:Hp}(Pv:Nat->St->Hp->Prop)(h0:Pv 0 σ H)(hl:∀i σ H,i<=xs.length->Pv i σ H->SqL K H a xs)
  (hs:∀i x σ H,xs[i]? =some x->Pv i σ H->g x σ H fun σ2 H2=>tb {D with nx:=Pv (i+1),ct:=Pv (i+1),bk:=D.nx} σ2 H2)(hd:∀σ H,Pv xs.length σ H->D.nx σ H):
  ∃W:Nat->Nat->St->Hp->Prop,(∃m,W 0 m σ H)/\∀i m σ H,W i m σ H->
   ((Itl K a).stop i H/\D.nx σ H)\/((Itl K a).go i H/\∃N:St->Hp->Prop,(∀σ' H',N σ' H'->∃m',m'<m/\W (i+1) m' σ' H')/\∀x H',(Itl K a).yld i H x H'->g x σ H' fun σ2 H2=>tb {D with nx:=N,ct:=N,bk:=D.nx} σ2 H2):=by
 refine⟨λi m σ H=>m=xs.length - i/\i<=xs.length/\Pv i σ H,⟨xs.length,by simp,zero_le _,h0⟩, ?_⟩
 rintro i m σ H ⟨rfl,hi,p⟩
 have q:=hl i σ H hi p
 by_cases hlt:i<xs.length
 ·refine .inr ⟨⟨xs,xs[i],q,by simp[hlt]⟩,Pv (i+1),fun σ' H' p'=>⟨xs.length - (i+1),by omega,rfl,hlt,p'⟩,λx H' y=> ?_⟩
  obtain⟨e,y⟩:=y
  subst e
  exact hs i x σ _ (y xs q) p
 ·have e:i=xs.length:=by omega
  subst e
  exact .inl ⟨⟨xs,q,Nat.le_refl _⟩,hd σ H p⟩
theorem DH{lo:Int}{n:Nat}{g:TG}{tb:TS}{D:Ends}{σ:St}{H:Hp}(Pv:Nat->St->Hp->Prop)(h0:Pv 0 σ H)
  (hs:∀i σ H,i<n->Pv i σ H->g (.int (lo+i)) σ H fun σ2 H2=>tb {D with nx:=Pv (i+1),ct:=Pv (i+1),bk:=D.nx} σ2 H2)(hd:∀σ H,Pv n σ H->D.nx σ H):
  ∃W:Nat->Nat->St->Hp->Prop,(∃m,W 0 m σ H)/\∀i m σ H,W i m σ H->
   ((Itr lo n).stop i H/\D.nx σ H)\/((Itr lo n).go i H/\∃N:St->Hp->Prop,(∀σ' H',N σ' H'->∃m',m'<m/\W (i+1) m' σ' H')/\∀x H',(Itr lo n).yld i H x H'->g x σ H' fun σ2 H2=>tb {D with nx:=N,ct:=N,bk:=D.nx} σ2 H2):=by
 refine⟨λi m σ H=>m=n - i/\i<=n/\Pv i σ H,⟨n,by simp,zero_le _,h0⟩, ?_⟩
 rintro i m σ H ⟨rfl,hi,p⟩
 by_cases hlt:i<n
 ·refine .inr ⟨hlt,Pv (i+1),fun σ' H' p'=>⟨n - (i+1),by omega,rfl,hlt,p'⟩,λx H' y=> ?_⟩
  obtain⟨e,y⟩:=y
  subst e y
  exact hs i σ _ hlt p
 ·have e:i=n:=by omega
  subst e
  exact .inl ⟨Nat.le_refl _,hd σ H p⟩
abbrev R2:=V->V->Hp->VK->Prop
def OpR(X:Cx)(f:Value->Value->Sem Value)(r:R2):Prop:=
 ∀(pins:List (Addr×Obj)) (s:Shared) (σ:St) (H:Hp) (x y:V) (v u:Value) (Q:VK),Inv X pins σ H s->RelV x v->RelV y u->r x y H Q->
  wpAny (model X.prog X.w) X.A (f v u) (EP X pins σ Q) X.xe s
def UnR(X:Cx)(f:Value->Sem Value)(r:V->Hp->VK->Prop):Prop:=
 ∀(pins:List (Addr×Obj)) (s:Shared) (σ:St) (H:Hp) (x:V) (v:Value) (Q:VK),Inv X pins σ H s->RelV x v->r x H Q->
  wpAny (model X.prog X.w) X.A (f v) (EP X pins σ Q) X.xe s
def CallR(X:Cx)(f:Value)(r:List V->Hp->VK->Prop):Prop:=
 ∀(pins:List (Addr×Obj)) (s:Shared) (σ:St) (H:Hp) (xs:List V) (us:List Value) (Q:VK),Inv X pins σ H s->Vals xs us->r xs H Q->
  wpAny (model X.prog X.w) X.A (call f us) (EP X pins σ Q) X.xe s
def dRZ(X:Cx)(r:V->Hp->(Bool->Hp->Prop)->Prop):Prop:=
 ∀(pins:List (Addr×Obj)) (s:Shared) (σ:St) (H:Hp) (x:V) (v:Value) (Q:Bool->Hp->Prop),Inv X pins σ H s->RelV x v->r x H Q->
  wpAny (model X.prog X.w) X.A (truthy v) (TP X pins σ Q) X.xe s
def tOp(r:R2)(ta tb:TE):TE:=fun σ H Q=>ta σ H λx H1=>tb σ H1 λy H2=>r x y H2 Q
def tUn(r:V->Hp->VK->Prop)(ta:TE):TE:=fun σ H Q=>ta σ H λx H1=>r x H1 Q
def rI(C:Int->Int->Prop)(g:Int->Int->V):R2:=λx y H Q=>∃i j,x=.int i/\y=.int j/\C i j/\Q (g i j) H
def rI0(g:Int->Int->V):R2:=λx y H Q=>∃i j,x=.int i/\y=.int j/\Q (g i j) H
def rU(g:Int->V):V->Hp->VK->Prop:=λx H Q=>∃i,x=.int i/\Q (g i) H
section
variable{X:Cx}{a b c:Expr}{ta tb tc:TE}{pos:Pos}
theorem b1Z(ha:PE X a ta)(hb:PE X b tb){pins:List (Addr×Obj)}{s:Shared}{σ:St}{H:Hp}{R:V->V->Hp->Prop}(I:Inv X pins σ H s)
  (h:ta σ H λx H1=>tb σ H1 λy H2=>R x y H2){Q:Value->Shared->Prop}{f:Value->Value->Sem Value}
  (hf:∀v u s2 x y H2,Inv X pins σ H2 s2->RelV x v->RelV y u->R x y H2->wpAny (model X.prog X.w) X.A (f v u) Q X.xe s2):
  wpAny (model X.prog X.w) X.A (eval a X.env) (λv s₁=>wpAny (model X.prog X.w) X.A (eval b X.env) (λu s₂=>wpAny (model X.prog X.w) X.A (f v u) Q X.xe s₂) X.xe s₁) X.xe s:=by
 refine thn (ha pins s σ H _ I h) λv s1 ⟨x,H1,I1,r1,q1⟩=> ?_
 refine thn (hb pins s1 σ H1 _ I1 q1) λu s2 ⟨y,H2,I2,r2,q2⟩=> ?_
 exact hf v u s2 x y H2 I2 r1 r2 q2
theorem C3{op:Operator}{r:R2}(ho:OpR X (binaryOp op) r)(ha:PE X a ta)(hb:PE X b tb):PE X (.BinOp a op b pos) (tOp r ta tb):=by
 intro pins s σ H Q I h
 exact wpAny_BinOp (b1Z ha hb I h λv u s2 x y H2 I2 rx ry q=>ho pins s2 σ H2 x y v u Q I2 rx ry q)
theorem P5{op:UnaryOp}{r:V->Hp->VK->Prop}(ho:UnR X (unaryOp op) r)(ha:PE X a ta):PE X (.UnaryOp op a pos) (tUn r ta):=by
 intro pins s σ H Q I h
 exact UnaryOp_ (thn (ha pins s σ H _ I h) λv s1 ⟨x,H1,I1,r1,q1⟩=>ho pins s1 σ H1 x v Q I1 r1 q1)
theorem opI{f:Value->Value->Sem Value}{C:Int->Int->Prop}{g:Int->Int->Int}
  (rule:∀(i j:Int) (t u:Tok) (s:Shared) (Q:Value->Shared->Prop) (E:Value->Shared->Prop),C i j->Q (.int (g i j) s.toks) {s with toks:=s.toks+1}->wpAny (model X.prog X.w) X.A (f (.int i t) (.int j u)) Q E s):
  OpR X f (rI C λi j=> .int (g i j)):=by
 intro pins s σ H x y v u Q I rx ry h
 obtain⟨i,j,rfl,rfl,hc,q⟩:=h
 obtain⟨t,rfl⟩:=rx
 obtain⟨t',rfl⟩:=ry
 exact rule i j t t' s _ _ hc ⟨.int (g i j),H,I.tok _,⟨_,rfl⟩,q⟩
theorem dqZ{f:Value->Value->Sem Value}{g:Int->Int->Int}
  (rule:∀(i j:Int) (t u:Tok) (s:Shared) (Q:Value->Shared->Prop) (E:Value->Shared->Prop),Q (.int (g i j) s.toks) {s with toks:=s.toks+1}->wpAny (model X.prog X.w) X.A (f (.int i t) (.int j u)) Q E s):
  OpR X f (rI0 λi j=> .int (g i j)):=by
 intro pins s σ H x y v u Q I rx ry h
 obtain⟨i,j,rfl,rfl,q⟩:=h
 obtain⟨t,rfl⟩:=rx
 obtain⟨t',rfl⟩:=ry
 exact rule i j t t' s _ _ ⟨.int (g i j),H,I.tok _,⟨_,rfl⟩,q⟩
theorem aIZ{f:Value->Value->Sem Value}{g:Int->Int->Bool}
  (rule:∀(i j:Int) (t u:Tok) (s:Shared) (Q:Value->Shared->Prop) (E:Value->Shared->Prop),Q (.bool (g i j)) s->wpAny (model X.prog X.w) X.A (f (.int i t) (.int j u)) Q E s):
  OpR X f (rI0 λi j=> .bl (g i j)):=by
 intro pins s σ H x y v u Q I rx ry h
 obtain⟨i,j,rfl,rfl,q⟩:=h
 obtain⟨t,rfl⟩:=rx
 obtain⟨t',rfl⟩:=ry
 exact rule i j t t' s _ _ ⟨.bl (g i j),H,I,rfl,q⟩
def dKZ(i j:Int):Prop:=0<=j/\j<=1000000/\i.natAbs<2^64
def CMul(i j:Int):Prop:=(-(2^64)<i/\i<2^64)\/(-(2^64)<j/\j<2^64)
theorem CMul.ok{i j:Int}(h:CMul i j):IntMulOk i j:=by
 rcases h with⟨h1,h2⟩|⟨h1,h2⟩
 ·exact .of_left (intBits_le_64 h1 h2)
 ·exact .of_right (intBits_le_64 h1 h2)
theorem op_add:OpR X (binaryOp .Add) (rI0 λi j=> .int (i+j)):=dqZ λ_ _ _ _ _ _ _ q=>add_int q
theorem N6:OpR X (binaryOp .Sub) (rI0 λi j=> .int (i - j)):=dqZ λ_ _ _ _ _ _ _ q=>sub_int q
theorem op_mul:OpR X (binaryOp .Mult) (rI CMul λi j=> .int (i*j)):=opI λ_ _ _ _ _ _ _ hc q=>mul_int q hc.ok
theorem J9:OpR X (binaryOp .Mod) (rI (λ_ j=>0<j) λi j=> .int (i%j)):=opI λi j _ _ _ _ _ hc q=>by
 have h1:(0:Int)<j:=hc
 exact mod_int' (by omega) (by rw[Int.fmod_eq_emod_of_nonneg i (by omega)];exact q)
theorem KJ:OpR X (binaryOp .Pow) (rI dKZ λi j=> .int (i^j.toNat)):=opI λ_ _ _ _ _ _ _ hc q=>pow_int_small hc.1 hc.2.1 hc.2.2 q
theorem unI{f:Value->Sem Value}{g:Int->Int}
  (rule:∀(i:Int) (t:Tok) (s:Shared) (Q:Value->Shared->Prop) (E:Value->Shared->Prop),Q (.int (g i) s.toks) {s with toks:=s.toks+1}->wpAny (model X.prog X.w) X.A (f (.int i t)) Q E s):
  UnR X f (rU λi=> .int (g i)):=by
 intro pins s σ H x v Q I rx h
 obtain⟨i,rfl,q⟩:=h
 obtain⟨t,rfl⟩:=rx
 exact rule i t s _ _ ⟨.int (g i),H,I.tok _,⟨_,rfl⟩,q⟩
theorem M3:UnR X (unaryOp .USub) (rU λi=> .int (-i)):=unI λ_ _ _ _ _ q=>neg_int q
end
def bFZ:V->V->Bool
 | .non,.non=>true| .non,.int _=>true| .int _,.non=>true| .non,.bl _=>true| .bl _,.non=>true| .non,.str _=>true| .str _,.non=>true
 | .int _,.int _=>true| .bl _,.bl _=>true| .str _,.str _=>true| .byt _,.byt _=>true
 | .int _,.str _=>true| .str _,.int _=>true| .bl _,.str _=>true| .str _,.bl _=>true
 |_,_=>false
def rEq:R2:=λx y H Q=>bFZ x y=true/\Q (.bl (decide (x=y))) H
def rNe:R2:=λx y H Q=>bFZ x y=true/\Q (.bl (!decide (x=y))) H
theorem QT{i j:Int}:decide (V.int i=V.int j)=(i==j):=by
 rw[Bool.eq_iff_iff]
 simp
theorem XW{i j:Bool}:decide (V.bl i=V.bl j)=(i==j):=by
 rw[Bool.eq_iff_iff]
 simp
theorem QR{i j:Str}:decide (V.str i=V.str j)=(i==j):=by
 rw[Bool.eq_iff_iff]
 simp
theorem QN{i j:Array UInt8}:decide (V.byt i=V.byt j)=(i.toList==j.toList):=by
 rw[Bool.eq_iff_iff]
 cases i
 cases j
 simp
section
variable{X:Cx}{a b c:Expr}{ta tb tc:TE}{pos:Pos}
theorem E8{pins:List (Addr×Obj)}{σ:St}{H:Hp}{s:Shared}{Q:VK}{k k':Bool}(I:Inv X pins σ H s)(q:Q (.bl k) H)(e:k=k'):EP X pins σ Q (.bool k') s:=by
 subst e
 exact⟨.bl k,H,I,rfl,q⟩
theorem op_eq:OpR X (compareOp .Eq) rEq:=by
 intro pins s σ H x y v u Q I rx ry h
 obtain⟨hs,q⟩:=h
 cases x with
 |non=>
  cases rx
  cases y with
  |non=>cases ry;exact PySem.EqNone.eq_none_none (E8 I q (by simp))
  |bl j=>cases ry;exact PySem.EqNone.eq_none_bool (E8 I q (by simp))
  |int j=>obtain⟨t',rfl⟩:=ry;exact PySem.EqNone.eq_none_int (E8 I q (by simp))
  |str j=>obtain⟨t',rfl⟩:=ry;exact PySem.EqNone.eq_none_str (E8 I q (by simp))
  |_=>exact absurd (show false=true from hs) nZ
 |bl i=>
  cases rx
  cases y with
  |non=>cases ry;exact PySem.EqNone.eq_bool_none (E8 I q (by simp))
  |bl j=>cases ry;exact eq_bool (E8 I q XW)
  |str j=>obtain⟨t',rfl⟩:=ry;exact PySem.EqMixed.eq_bool_str (E8 I q (by simp))
  |_=>exact absurd (show false=true from hs) nZ
 |int i=>
  obtain⟨t,rfl⟩:=rx
  cases y with
  |non=>cases ry;exact PySem.EqNone.eq_int_none (E8 I q (by simp))
  |int j=>obtain⟨t',rfl⟩:=ry;exact eq_int (E8 I q QT)
  |str j=>obtain⟨t',rfl⟩:=ry;exact PySem.EqMixed.eq_int_str (E8 I q (by simp))
  |_=>exact absurd (show false=true from hs) nZ
 |str i=>
  obtain⟨t,rfl⟩:=rx
  cases y with
  |non=>cases ry;exact PySem.EqNone.eq_str_none (E8 I q (by simp))
  |bl j=>cases ry;exact PySem.EqMixed.eq_str_bool (E8 I q (by simp))
  |int j=>obtain⟨t',rfl⟩:=ry;exact PySem.EqMixed.eq_str_int (E8 I q (by simp))
  |str j=>obtain⟨t',rfl⟩:=ry;exact eq_str (E8 I q QR)
  |_=>exact absurd (show false=true from hs) nZ
 |byt i=>
  obtain⟨t,rfl⟩:=rx
  cases y with
  |byt j=>obtain⟨t',rfl⟩:=ry;exact PySem.W.eq_bytes (E8 I q QN)
  |_=>exact absurd (show false=true from hs) nZ
 |_=>cases y<;>exact absurd (show false=true from hs) nZ
theorem op_ne:OpR X (compareOp .NotEq) rNe:=by
 intro pins s σ H x y v u Q I rx ry h
 obtain⟨hs,q⟩:=h
 cases x with
 |non=>
  cases rx
  cases y with
  |non=>cases ry;exact PySem.EqNone.ne_none_none (E8 I q (by simp))
  |bl j=>cases ry;exact PySem.EqNone.ne_none_bool (E8 I q (by simp))
  |int j=>obtain⟨t',rfl⟩:=ry;exact PySem.EqNone.ne_none_int (E8 I q (by simp))
  |str j=>obtain⟨t',rfl⟩:=ry;exact PySem.EqNone.ne_none_str (E8 I q (by simp))
  |_=>exact absurd (show false=true from hs) nZ
 |bl i=>
  cases rx
  cases y with
  |non=>cases ry;exact PySem.EqNone.ne_bool_none (E8 I q (by simp))
  |bl j=>cases ry;exact ne_bool (E8 I q (congrArg not XW))
  |str j=>obtain⟨t',rfl⟩:=ry;exact PySem.EqMixed.ne_bool_str (E8 I q (by simp))
  |_=>exact absurd (show false=true from hs) nZ
 |int i=>
  obtain⟨t,rfl⟩:=rx
  cases y with
  |non=>cases ry;exact PySem.EqNone.ne_int_none (E8 I q (by simp))
  |int j=>obtain⟨t',rfl⟩:=ry;exact ne_int (E8 I q (congrArg not QT))
  |str j=>obtain⟨t',rfl⟩:=ry;exact PySem.EqMixed.ne_int_str (E8 I q (by simp))
  |_=>exact absurd (show false=true from hs) nZ
 |str i=>
  obtain⟨t,rfl⟩:=rx
  cases y with
  |non=>cases ry;exact PySem.EqNone.ne_str_none (E8 I q (by simp))
  |bl j=>cases ry;exact PySem.EqMixed.ne_str_bool (E8 I q (by simp))
  |int j=>obtain⟨t',rfl⟩:=ry;exact PySem.EqMixed.ne_str_int (E8 I q (by simp))
  |str j=>obtain⟨t',rfl⟩:=ry;exact ne_str (E8 I q (congrArg not QR))
  |_=>exact absurd (show false=true from hs) nZ
 |byt i=>
  obtain⟨t,rfl⟩:=rx
  cases y with
  |byt j=>obtain⟨t',rfl⟩:=ry;exact PySem.W.ne_bytes (E8 I q (congrArg not QN))
  |_=>exact absurd (show false=true from hs) nZ
 |_=>cases y<;>exact absurd (show false=true from hs) nZ
theorem YF:OpR X (compareOp .Lt) (rI0 λi j=> .bl (decide (i<j))):=aIZ λ_ _ _ _ _ _ _ q=>lt_int q
theorem aZZ:OpR X (compareOp .LtE) (rI0 λi j=> .bl (decide (i<=j))):=aIZ λ_ _ _ _ _ _ _ q=>le_int q
theorem cLZ:OpR X (compareOp .Gt) (rI0 λi j=> .bl (decide (j<i))):=aIZ λ_ _ _ _ _ _ _ q=>gt_int q
theorem a2Z:OpR X (compareOp .GtE) (rI0 λi j=> .bl (decide (j<=i))):=aIZ λ_ _ _ _ _ _ _ q=>ge_int q
theorem op_in_str:OpR X (compareOp .In) (λx y H Q=>∃i j,x=.str i/\y=.str j/\Q (.bl (!(Builtin.Str.occurrences j i 0 j.length 1).isEmpty)) H):=by
 intro pins s σ H x y v u Q I rx ry h
 obtain⟨i,j,rfl,rfl,q⟩:=h
 obtain⟨t,rfl⟩:=rx
 obtain⟨t',rfl⟩:=ry
 exact in_str (E8 I q rfl)
theorem KS:OpR X (compareOp .Is) (λx y H Q=>y=.non/\Q (.bl (decide (x=.non))) H):=by
 intro pins s σ H x y v u Q I rx ry h
 obtain⟨rfl,q⟩:=h
 cases ry
 refine is_none_gen (E8 I q ?_)
 cases x<;>first
  |(cases rx;rfl)
  |(obtain⟨t,rfl⟩:=rx;rfl)
theorem RQ:OpR X (compareOp .IsNot) (λx y H Q=>y=.non/\Q (.bl (!decide (x=.non))) H):=by
 intro pins s σ H x y v u Q I rx ry h
 obtain⟨rfl,q⟩:=h
 cases ry
 refine isnot_none_gen (E8 I q ?_)
 cases x<;>first
  |(cases rx;rfl)
  |(obtain⟨t,rfl⟩:=rx;rfl)
theorem OpR.or{f:Value->Value->Sem Value}{r r':R2}(h:OpR X f r)(h':OpR X f r'):OpR X f (λx y H Q=>r x y H Q\/r' x y H Q):=by
 intro pins s σ H x y v u Q I rx ry q
 rcases q with q|q
 ·exact h pins s σ H x y v u Q I rx ry q
 ·exact h' pins s σ H x y v u Q I rx ry q
theorem L0{op:CmpOp}{r:R2}(ho:OpR X (compareOp op) r)(ha:PE X a ta)(hb:PE X b tb)(hm:behindInMarks op b=false):PE X (.Compare a [op] [b] pos) (tOp r ta tb):=by
 intro pins s σ H Q I h
 exact wpAny_Compare1 (b1Z ha hb I h λv u s2 x y H2 I2 rx ry q=>ho pins s2 σ H2 x y v u Q I2 rx ry q) hm
def c8Z(t:TE):TT:=fun σ H Q=>t σ H λx H'=>∃k,x=.bl k/\Q k H'
theorem C7{op:CmpOp}{r:R2}(ho:OpR X (compareOp op) r)(ha:PE X a ta)(hb:PE X b tb)(hm:behindInMarks op b=false):PT X (.Compare a [op] [b] pos) (c8Z (tOp r ta tb)):=by
 intro pins s σ H Q I h
 refine wpAny_isTrue_Compare1 (thn (ha pins s σ H _ I h) λv s1 ⟨x,H1,I1,r1,q1⟩=>thn (hb pins s1 σ H1 _ I1 q1) λu s2 ⟨y,H2,I2,r2,q2⟩=>
  thn (ho pins s2 σ H2 x y v u _ I2 r1 r2 q2) λc s3 ⟨z,H3,I3,r3,k,e,q3⟩=> ?_) hm
 subst e
 cases r3
 exact wpAny_truthy_bool ⟨H3,I3,q3⟩
def bHZ(K:FZ)(x:V)(H:Hp)(k:Bool):Prop:=
 match x with
 | .non=>k=false
 | .bl b=>k=b
 | .int i=>k=(i !=0)
 | .str y=>y.length<=sizeLine/\k=((y.length:Int) !=0)
 | .byt y=>y.size<=sizeLine/\k=((y.size:Int) !=0)
 | .ref p=>(∃xs,SqL K H p xs/\k= !xs.isEmpty)\/(∃xs,SqT K H p xs/\k= !xs.isEmpty)\/∃kvs,H p=some (.dK kvs)/\k= !kvs.isEmpty
 |_=>False
theorem OU{κ:Type}{kvs:List (κ×V)}{vs:List (κ×Value)}(r:KV kvs vs):(!vs.isEmpty)= !kvs.isEmpty:=by
 cases r<;>rfl
theorem GZ{xs:List V}{its:List Value}(r:Vals xs its):(!its.toArray.isEmpty)= !xs.isEmpty:=by
 cases r<;>simp
theorem DD:(sizeLine:Nat)<2^63:=by rw[sizeLine_eq];decide
theorem bXZ:dRZ X (λx H Q=>∃k,bHZ X.K x H k/\Q k H):=by
 intro pins s σ H x v Q I rx h
 obtain⟨k,e,q⟩:=h
 have hl:=DD
 have hs:sizeLine=16777216:=sizeLine_eq
 cases x with
 |non=>
  cases rx
  have e':k=false:=e
  subst e'
  exact truthy_none ⟨H,I,q⟩
 |bl b=>
  cases rx
  have e':k=b:=e
  subst e'
  exact wpAny_truthy_bool ⟨H,I,q⟩
 |int i=>
  obtain⟨t,rfl⟩:=rx
  have e':k=(i !=0):=e
  subst e'
  exact PySem.P.truthy_int ⟨H,I,q⟩
 |str y=>
  obtain⟨t,rfl⟩:=rx
  obtain⟨hy,e'⟩:y.length<=sizeLine/\k=((y.length:Int) !=0):=e
  subst e'
  exact PySem.P.truthy_str (by omega) ⟨H,I.tok _,q⟩
 |byt y=>
  obtain⟨t,rfl⟩:=rx
  obtain⟨hy,e'⟩:y.size<=sizeLine/\k=((y.size:Int) !=0):=e
  subst e'
  exact PySem.W.truthy_bytes (by omega) ⟨H,I.tok _,q⟩
 |ref p=>
  cases rx
  have e':(∃xs,SqL X.K H p xs/\k= !xs.isEmpty)\/(∃xs,SqT X.K H p xs/\k= !xs.isEmpty)\/∃kvs,H p=some (.dK kvs)/\k= !kvs.isEmpty:=e
  rcases e' with⟨xs,hx,e'⟩|⟨xs,hx,e'⟩|⟨kvs,hx,e'⟩
  ·subst e'
   obtain⟨its,r,pl,hz⟩:=I.list hx
   have hlen:=r.length
   exact wpAny_truthy_list pl.isList (by simp only[size_toArray];omega) ⟨H,I.tok _,by rw[GZ r];exact q⟩
  ·subst e'
   obtain⟨its,r,pl,hz⟩:=I.tuple hx
   have hlen:=r.length
   exact truthy_tuple pl (by simp only[size_toArray];omega) ⟨H,I.tok _,by rw[GZ r];exact q⟩
  ·subst e'
   obtain⟨hz,hS,vs,r,m⟩:kvs.length<=sizeLine/\(p==sysModules)=false/\∃vs,KV kvs vs/\s.heap.DictOf (J7 X.prog X.w) p vs:=I.hok p _ hx
   have hlen:kvs.length=vs.length:=Paired.length r
   exact wpAny_truthy_dict hS m (by omega) ⟨H,I.tok _,by rw[OU r];exact q⟩
 |_=>exact(show False from e).elim
theorem VL(ha:PE X a ta)(he:∀whole,isTrue a X.env whole=(do let v<-whole;standAt a.pos;holding [v] (truthy v))):
  PT X a (fun σ H Q=>ta σ H λx H'=>∃k,bHZ X.K x H' k/\Q k H'):=by
 intro pins s σ H Q I h
 exact isTrue_plain (thn (ha pins s σ H _ I h) λv s1 ⟨x,H1,I1,r1,q1⟩=>bXZ pins s1 σ H1 x v Q I1 r1 q1) (he _)
theorem op_add_str:OpR X (binaryOp .Add) (λx y H Q=>∃i j,x=.str i/\y=.str j/\i.length+j.length<=sizeLine/\Q (.str (i++j)) H):=by
 intro pins s σ H x y v u Q I rx ry h
 obtain⟨i,j,rfl,rfl,hz,q⟩:=h
 obtain⟨t,rfl⟩:=rx
 obtain⟨t',rfl⟩:=ry
 exact add_str (λt' tk=>⟨.str (i++j),H,I.tok _,⟨_,rfl⟩,q⟩) hz
theorem R7{x:V}{us:List Value}(r:Vals [x] us):∃u,us=[u]/\RelV x u:=by
 cases r with
 |cons r1 r2=>cases r2;exact⟨_,rfl,r1⟩
theorem QQ{x y:V}{us:List Value}(r:Vals [x,y] us):∃u w',us=[u,w']/\RelV x u/\RelV y w':=by
 cases r with
 |cons r1 r2=>
  cases r2 with
  |cons r3 r4=>cases r4;exact⟨_,_,rfl,r1,r3⟩
theorem VU:CallR X (.builtin "abs") (λxs H Q=>∃i,xs=[.int i]/\Q (.int (if i<0 then -i else i)) H):=by
 intro pins s σ H xs us Q I r h
 obtain⟨i,rfl,q⟩:=h
 obtain⟨u,rfl,t,rfl⟩:=R7 r
 exact call_abs_int λu tk=>⟨.int (if i<0 then -i else i),H,I.tok _,⟨_,rfl⟩,q⟩
theorem UV(hc:X.calm=true):CallR X (.builtin "max") (λxs H Q=>∃i j,xs=[.int i,.int j]/\Q (.int (if j>i then j else i)) H):=by
 intro pins s σ H xs us Q I r h
 obtain⟨i,j,rfl,q⟩:=h
 obtain⟨u,w',rfl,⟨t,rfl⟩,⟨t',rfl⟩⟩:=QQ r
 refine max_two_ints (I.ok.hd hc) λh' tk k=>⟨_,H,I.kept k, ?_,q⟩
 by_cases hj:j>i
 ·rw[if_pos hj,if_pos hj];exact⟨_,rfl⟩
 ·rw[if_neg hj,if_neg hj];exact⟨_,rfl⟩
theorem UR:CallR X (.type "int") (λxs H Q=>(∃i,xs=[.int i]/\Q (.int i) H)\/∃k,xs=[.bl k]/\Q (.int (if k then 1 else 0)) H):=by
 intro pins s σ H xs us Q I r h
 rcases h with⟨i,rfl,q⟩|⟨k,rfl,q⟩
 ·obtain⟨u,rfl,t,rfl⟩:=R7 r
  exact call_int_int ⟨.int i,H,I,⟨_,rfl⟩,q⟩
 ·obtain⟨u,rfl,r1⟩:=R7 r
  cases r1
  exact call_int_bool ⟨.int (if k then 1 else 0),H,I.tok _,⟨_,rfl⟩,q⟩
def ajZ(K:FZ)(x:V)(H:Hp)(n:Nat):Prop:=
 match x with
 | .str y=>y.length<=sizeLine/\n=y.length
 | .byt y=>y.size<=sizeLine/\n=y.size
 | .ref p=>(∃xs,SqL K H p xs/\n=xs.length)\/∃xs,SqT K H p xs/\n=xs.length
 |_=>False
theorem YJ:CallR X (.builtin "len") (λxs H Q=>∃x n,xs=[x]/\ajZ X.K x H n/\Q (.int n) H):=by
 intro pins s σ H xs us Q I r h
 obtain⟨x,n,rfl,e,q⟩:=h
 obtain⟨u,rfl,rx⟩:=R7 r
 have hl:=DD
 have hs:sizeLine=16777216:=sizeLine_eq
 cases x with
 |str y=>
  obtain⟨t,rfl⟩:=rx
  obtain⟨hy,e'⟩:y.length<=sizeLine/\n=y.length:=e
  subst e'
  exact len_str (by omega) ⟨.int _,H,I.tok _,⟨_,rfl⟩,q⟩
 |byt y=>
  obtain⟨t,rfl⟩:=rx
  obtain⟨hy,e'⟩:y.size<=sizeLine/\n=y.size:=e
  subst e'
  exact PySem.W.len_bytes (by omega) ⟨.int _,H,I.tok _,⟨_,rfl⟩,q⟩
 |ref p=>
  cases rx
  have e':(∃xs,SqL X.K H p xs/\n=xs.length)\/∃xs,SqT X.K H p xs/\n=xs.length:=e
  rcases e' with⟨xs,hx,e'⟩|⟨xs,hx,e'⟩
  ·subst e'
   obtain⟨its,r',pl,hz⟩:=I.list hx
   have hlen:=r'.length
   exact Calls.call_len_list pl.isList (by simp only[size_toArray];omega) ⟨.int xs.length,H,I.tok _,⟨_,by simp only[size_toArray];rw[hlen]⟩,q⟩
  ·subst e'
   obtain⟨its,r',pl,hz⟩:=I.tuple hx
   have hlen:=r'.length
   exact len_tuple pl (by simp only[size_toArray];omega) ⟨.int xs.length,H,I.tok _,⟨_,by simp only[size_toArray];rw[hlen]⟩,q⟩
 |_=>exact(show False from e).elim
end
structure ObjM (h:Heap) (x dx C:Addr) (mA:Str->Option Value):Prop where
 obj:h.get? x=some (instObj C dx)
 ns:h.Ns1 dx mA
 ne:dx≠x
theorem TJ{h:Heap}{dx:Addr}{mA:Str->Option Value}(n:h.Ns1 dx mA):∃od,h.get? dx=some od/\∀name,lookIn name od=some (mA name):=by
 obtain⟨o,es,ep,ho,hd,hk,_,hm⟩:=n
 refine⟨o,ho,λname=> ?_⟩
 have e:=hm name
 unfold nsFind findBy at e
 rw[<-Array.find?_toList]at e
 unfold lookIn
 rw[hd]
 dsimp only
 split
 ·rename_i y q
  rw[q]at e
  exact congrArg some e
 ·rename_i q
  rw[q]at e
  have a:es.toList.any (·.refKey)=false:=by
   rw[List.any_eq_false]
   intro y hy
   obtain⟨z,t,hkey⟩:=hk y (Array.mem_toList_iff.mp hy)
   simp[DictEntry.refKey,hkey]
  have a':¬es.toList.any (·.refKey)=true:=by rw[a];exact nZ
  rw[if_neg a']
  exact congrArg some e
theorem ObjM.look{h:Heap}{x dx C:Addr}{mA:Str->Option Value}(I:ObjM h x dx C mA):∃od,PySem.W.InstAt h x (instObj C dx) C (some od)/\∀name,lookIn name od=some (mA name):=
 let⟨od,ho,hl⟩:=TJ I.ns
 ⟨od,⟨I.obj,rfl,rfl,ho⟩,hl⟩
section
variable{prog:Program}{w:World}{A:Around}{E:Value->Shared->Prop}{s:Shared}{K:FZ}{x dx C f:Addr}{mA:Str->Option Value}{name:Str}{v:Value}
theorem aqZ{expr:Bool}{Q:Value->Shared->Prop}(X:K.In s.heap)(I:ObjM s.heap x dx C mA)(hg:plainGet K C name=true)(hh:PySem.W.hasDictIn K C=true)
  (ha:findIn K (.ref C) name=some none)(hv:mA name=some v)(hv':PySem.W.handedIn v=true)(h:Q v {s with toks:=s.toks+1}):
  wpAny (model prog w) A (getAttr (.ref x) name expr) Q E s:=by
 obtain⟨od,J,hl⟩:=I.look
 exact PySem.W.get_value X J (PySem.W.plainGet_of hg).1 (PySem.W.findObj_own hh ha rfl (by rw[hl,hv])) hv' h
theorem WB{pl:Sem Bool}{Q:Value×List Value->Shared->Prop}(X:K.In s.heap)(I:ObjM s.heap x dx C mA)(hg:plainGet K C name=true)
  (hf:findIn K (.ref C) name=some (some (.ref f)))(ht:isFn K (.ref f)=true)(hv:mA name=none)(h:Q (.ref f,[.ref x]) s):
  wpAny (model prog w) A (getMethod (.ref x) name pl) Q E s:=by
 obtain⟨od,J,hl⟩:=I.look
 exact PySem.W.method_fn X J (PySem.W.plainGet_of hg).1 (PySem.W.plainGet_of hg).2 hf (beq_iff_eq.mp ht) (by show(lookIn name od).map (·.isSome)=some false;rw[hl,hv];rfl) h
theorem aWZ{ns:List Str}{Q:Unit->Shared->Prop}(X:K.In s.heap)(I:ObjM s.heap x dx C mA)
  (hs:findIn K (.ref C) "__setattr__"=some (some (.builtin "object.__setattr__")))(hp:PySem.W.plainOver K C=true)(ht:PySem.W.takerIn K C name=some none)(hh:PySem.W.hasDictIn K C=true)
  (hw:PySem.Within mA ns)(hsz:ns.length<=sizeLine)
  (h:∀h',ObjM h' x dx C (λy=>if y=name then some v else mA y)->Heap.SameBut dx s.heap h'->Q () {s with heap:=h',toks:=s.toks+2}):
  wpAny (model prog w) A (setAttr (.ref x) name v) Q E s:=by
 obtain⟨od,J,hl⟩:=I.look
 refine PySem.W.set_plain X J hs (PySem.W.osa_open (s:={s with toks:=s.toks+1}) (r:=none) X J hp ht λb=> ?_)
 obtain⟨cd,hc,hd'⟩:=PySem.W.any_some hh
 have hx:s.heap.get? x=some ⟨.ref C,some dx,.plain, #[]⟩:=I.obj
 refine bZ (pZ (bZ (bZ (wpAny_loadPart hx (bZ (PySem.W.Looks.here (s:={s with toks:=s.toks+1}) (PySem.W.looks_clsIn X hc) ?_))))))
 rw[hd']
 refine pZ (a:=some dx) (bZ (pZ (bZ ?_)))
 refine wpAny_nsSet1 (s:={s with toks:=s.toks+1}) I.ns λh' hn2 hs2=> ?_
 obtain⟨oD,esD,epD,hoD,hdD,hcD⟩:=hn2.count (PySem.Within.cons name v hw)
 refine bZ (wpAny_lookBehind hoD (by rw[hdD];exact pastItsLine_dict (le_trans hcD (by rw[length_cons];omega))) ?_)
 exact pZ (h _ ⟨(hs2.2 _ (Ne.symm I.ne)).trans I.obj,hn2,I.ne⟩ hs2)
theorem XB{R:Result->Shared->Prop}{vs:List Value}{kw:List (Str×Value)}(X:K.In s.heap)(hm:PySem.W.makesIn K C=true)
  (hi:findIn K (.ref C) "__init__"=some (some (.ref f)))(hf:PySem.W.typeIn K (.ref f)=some (.type "function"))
  (h:codeAny (model prog w) (A.under (.builtin "type.__call__" ⟨.ref C::vs,kw⟩)) (.call (.ref f) ⟨.ref (s.heap.objs.size+1)::vs,kw⟩) (PySem.W.InitBack (s.heap.objs.size+1) R)
   {s with heap:=(s.heap.push emptyDict).push (instObj C s.heap.objs.size)}):
  codeAny (model prog w) A (.call (.ref C) ⟨vs,kw⟩) R s:=by
 obtain⟨hh,g,d,t,os⟩:=s
 exact PySem.W.make_core (PySem.W.makes_of X hm) (PySem.W.looks_findIn X hi) (λself=>PySem.W.bind_fn X self hf) (.inl rfl) h
end
noncomputable def Q9(f:Str)(v:V):List (Str×V)->List (Str×V)
 | []=> [(f,v)]
 |(g,x)::r=>if g=f then(g,v)::r else(g,x)::Q9 f v r
theorem DW(f g:Str)(v:V):∀fs:List (Str×V),(Q9 f v fs).lookup g=if g=f then some v else fs.lookup g
 | []=>by
  show List.lookup g [(f,v)]=_
  by_cases h:g=f
  ·have hb:(g==f)=true:=beq_iff_eq.mpr h
   simp only[List.lookup,hb,if_pos h]
  ·have hb:(g==f)=false:=beq_eq_false_iff_ne.mpr h
   simp only[List.lookup,hb,if_neg h]
 |(k,x)::r=>by
  have ih:=DW f g v r
  rw[show Q9 f v ((k,x)::r)=(if k=f then(k,v)::r else(k,x)::Q9 f v r)from rfl]
  by_cases hk:k=f
  ·rw[if_pos hk]
   by_cases h:g=k
   ·have hb:(g==k)=true:=beq_iff_eq.mpr h
    simp only[List.lookup,hb,if_pos (h.trans hk)]
   ·have hb:(g==k)=false:=beq_eq_false_iff_ne.mpr h
    simp only[List.lookup,hb,if_neg (λe:g=f=>h (e.trans hk.symm))]
  ·rw[if_neg hk]
   by_cases h:g=k
   ·have hb:(g==k)=true:=beq_iff_eq.mpr h
    simp only[List.lookup,hb,if_neg (λe:g=f=>hk (h.symm.trans e))]
   ·have hb:(g==k)=false:=beq_eq_false_iff_ne.mpr h
    simp only[List.lookup,hb]
    exact ih
theorem CW(f:Str)(v:V):∀fs:List (Str×V),f∈(Q9 f v fs).map (·.1)/\∀g,g∈fs.map (·.1)->g∈(Q9 f v fs).map (·.1)
 | []=>⟨by simp[Q9],λg h=>by simp at h⟩
 |(k,x)::r=>by
  obtain⟨i1,i2⟩:=CW f v r
  rw[show Q9 f v ((k,x)::r)=(if k=f then(k,v)::r else(k,x)::Q9 f v r)from rfl]
  by_cases hk:k=f
  ·rw[if_pos hk]
   subst hk
   exact⟨by simp,λg h=>by simpa using h⟩
  ·rw[if_neg hk]
   refine⟨?_,λg h=> ?_⟩
   ·rw[map_cons]
    exact mem_cons_of_mem _ i1
   ·rw[map_cons]at h⊢
    rcases cZ h with e|e
    ·exact mem_cons.mpr (.inl e)
    ·exact mem_cons_of_mem _ (i2 g e)
theorem DV(f:Str)(v:V):∀fs:List (Str×V),(Q9 f v fs).length<=fs.length+1
 | []=>by simp[Q9]
 |(k,x)::r=>by
  have ih:=DV f v r
  rw[show Q9 f v ((k,x)::r)=(if k=f then(k,v)::r else(k,x)::Q9 f v r)from rfl]
  by_cases hk:k=f
  ·rw[if_pos hk,length_cons,length_cons];omega
  ·rw[if_neg hk,length_cons,length_cons];omega
theorem RelO.some_of{v:V}{o:Option Value}(r:RelO (some v) o):∃u,o=some u/\RelV v u:=by
 cases o with
 |none=>exact(show False from r).elim
 |some u=>exact⟨u,rfl,r⟩
theorem RelO.none_of{o:Option Value}(r:RelO none o):o=none:=by
 cases o with
 |none=>rfl
 |some u=>exact(show False from r).elim
theorem TX{v:V}{u:Value}(r:RelV v u):PySem.W.handedIn u=true:=by
 cases v with
 |non=>cases(show u=Value.none from r);rfl
 |bl b=>cases(show u=Value.bool b from r);rfl
 |int i=>obtain⟨t,e⟩:=(show∃t,u=Value.int i t from r);cases e;rfl
 |str x=>obtain⟨t,e⟩:=(show∃t,u=Value.str x t from r);cases e;rfl
 |byt b=>obtain⟨t,e⟩:=(show∃t,u=Value.bytes b t from r);cases e;rfl
 |flt b=>obtain⟨t,e⟩:=(show∃t,u=Value.float b t from r);cases e;rfl
 |ref a=>cases(show u=Value.ref a from r);rfl
 |ty n=>cases(show u=Value.type n from r);rfl
section
variable{P:Program}{w:World}{H H':Hp}{h h':Heap}{a C dx:Addr}{fs fs':List (Str×V)}
theorem BP(hok:HOk P w H h)(e:H a=some (.ins C dx fs)):∃mA,ObjM h a dx C mA/\(∀f,RelO (fs.lookup f) (mA f))/\PySem.Within mA (fs.map (·.1))/\fs.length<=1000/\H dx=some (.own a):=by
 obtain⟨d,z,ne,ob,mA,n,r,q⟩:=(show ObjOk P w H h a (.ins C dx fs)from hok a _ e)
 exact⟨mA,⟨ob,n,ne⟩,r,q,z,d⟩
end
structure Cls (K:FZ) (C:Addr):Prop where
 pg:plainGet K C Str.empty=true
 hd:PySem.W.hasDictIn K C=true
 po:PySem.W.plainOver K C=true
 sa:findIn K (.ref C) "__setattr__"=some (some (.builtin "object.__setattr__"))
theorem Cls.get{K:FZ}{C:Addr}(c:Cls K C)(f:Str):plainGet K C f=true:=c.pg
def NoAttr(K:FZ)(C:Addr)(f:Str):Prop:=findIn K (.ref C) f=some none
theorem NoAttr.taker{K:FZ}{C:Addr}{f:Str}(n:NoAttr K C f):PySem.W.takerIn K C f=some none:=by
 unfold PySem.W.takerIn
 rw[show findIn K (.ref C) f=some none from n]
 rfl
structure Meth (K:FZ) (C:Addr) (m:Str) (f:Addr):Prop where
 at_:findIn K (.ref C) m=some (some (.ref f))
 fn:isFn K (.ref f)=true
 kp:kZ K (.ref f)=true
section
variable{X:Cx}{pins:List (Addr×Obj)}{σ:St}{H:Hp}{s:Shared}{a C dx:Addr}{fs:List (Str×V)}{f:Str}{v:V}{A:Around}{E:Value->Shared->Prop}
theorem FQ{b:Bool}{Q:Value->Shared->Prop}(I:Inv X pins σ H s)(e:H a=some (.ins C dx fs))(c:Cls X.K C)(n:NoAttr X.K C f)(l:fs.lookup f=some v)
  (h:∀u s',Inv X pins σ H s'->RelV v u->Q u s'):wpAny (model X.prog X.w) A (getAttr (.ref a) f b) Q E s:=by
 obtain⟨mA,O,r,_,_,_⟩:=BP I.hok e
 obtain⟨u,hu,ru⟩:=RelO.some_of (v:=v) (o:=mA f) (by rw[<-l];exact r f)
 exact aqZ I.kIn O (c.get f) c.hd n hu (TX ru) (h u _ (I.tok _) ru)
theorem GO{m:Str}{g:Addr}{pl:Sem Bool}{Q:Value×List Value->Shared->Prop}(I:Inv X pins σ H s)(e:H a=some (.ins C dx fs))(c:Cls X.K C)(k:Meth X.K C m g)(l:fs.lookup m=none)
  (h:Q (.ref g,[.ref a]) s):wpAny (model X.prog X.w) A (getMethod (.ref a) m pl) Q E s:=by
 obtain⟨mA,O,r,_,_,_⟩:=BP I.hok e
 have hn:mA m=none:=RelO.none_of (by rw[<-l];exact r m)
 exact WB I.kIn O (c.get m) k.at_ k.fn hn h
theorem GM{y:V}{u:Value}{Q:Unit->Shared->Prop}(I:Inv X pins σ H s)(e:H a=some (.ins C dx fs))(c:Cls X.K C)(n:NoAttr X.K C f)(hl:fs.length<1000)(ry:RelV y u)
  (h:∀s',Inv X pins σ (upd H a (.ins C dx (Q9 f y fs))) s'->Q () s'):wpAny (model X.prog X.w) A (setAttr (.ref a) f u) Q E s:=by
 obtain⟨mA,O,r,wi,_,ho⟩:=BP I.hok e
 have hz:(fs.map (·.1)).length<=sizeLine:=by rw[length_map,sizeLine_eq];omega
 refine aWZ I.kIn O c.sa c.po n.taker c.hd wi hz λh' O' sb=>h _ ?_
 have hd:∃o,h'.get? dx=some o:=let⟨o,_,_,e',_⟩:=O'.ns;⟨o,e'⟩
 refine I.write (x:=a) (e:=dx) (by rw[e];exact True.intro) (.inr ho) (λb q hb z=>(sb.2 b hb).trans z) hd ?_
 refine⟨by rw[B8 O.ne];exact ho, ?_,O.ne,O'.obj,_,O'.ns,λg=> ?_,λg hg=> ?_⟩
 ·have:=DV f y fs;omega
 ·show RelO ((Q9 f y fs).lookup g) (if g=f then some u else mA g)
  rw[DW]
  by_cases q:g=f
  ·rw[if_pos q,if_pos q];exact ry
  ·rw[if_neg q,if_neg q];exact r g
 ·by_cases q:g=f
  ·rw[q];exact(CW f y fs).1
  ·refine(CW f y fs).2 g (wi g λz=>hg ?_)
   show(if g=f then some u else mA g)=none
   rw[if_neg q];exact z
theorem Inv.made(I:Inv X pins σ H s):Inv X pins σ (upd (upd H s.heap.objs.size (.own (s.heap.objs.size+1))) (s.heap.objs.size+1) (.ins C s.heap.objs.size []))
  {s with heap:=(s.heap.push emptyDict).push (instObj C s.heap.objs.size)}:=by
 have e1:(s.heap.push emptyDict).get? s.heap.objs.size=some emptyDict:=get?_push_size s.heap rfl
 have e2:((s.heap.push emptyDict).push (instObj C s.heap.objs.size)).get? (s.heap.objs.size+1)=some (instObj C s.heap.objs.size):=by
  have:=get?_push_size (s.heap.push emptyDict) (o:=instObj C s.heap.objs.size) rfl
  rwa [size_push]at this
 have e3:(s.heap.push emptyDict).Ns s.heap.objs.size (λ_=>none):=⟨emptyDict, #[],_,e1,rfl,(λe he=>absurd he (by simp)),λ_=>rfl⟩
 have I1:=I.laid (a:=s.heap.objs.size) (o:=.own (s.heap.objs.size+1)) (h':=s.heap.push emptyDict) (t':=s.toks) (λb u q=>gZ _ q) (Nat.le_refl _) ⟨_,e1⟩
 refine I1.laid (a:=s.heap.objs.size+1) (o:=.ins C s.heap.objs.size []) (t':=s.toks) (λb u q=>gZ _ q) (le_of_eq (size_push _ _)) ?_
 have ne:s.heap.objs.size≠s.heap.objs.size+1:=ne_of_lt (lt_succ_self _)
 refine⟨by rw[B8 ne,upd_same],zero_le _,ne,e2,λ_=>none,(Heap.Ns1.of_empty e3).at λo q=>gZ _ q,λ_=>True.intro,λy hy=>absurd rfl hy⟩
theorem aOZ{prog:Program}{w:World}{env:Env}{e:Expr}{f:Str}{pos:Pos}{s:Shared}{Q:Value->Shared->Prop}(hb:attributeBase e f env (eval e env)=eval e env)
  (h:wpAny (model prog w) A (eval e env) (λo s₁=>wpAny (model prog w) A (getAttr o f true) Q E s₁) E s):wpAny (model prog w) A (eval (.Attribute e f pos) env) Q E s:=
 Attribute_any_ h (by rw[arm_eval_Attribute,hb])
end
def dAZ(K:FZ)(ta:TE)(f:Str):TE:=fun σ H Q=>ta σ H λx H1=>∃a C dx fs v,x=.ref a/\H1 a=some (.ins C dx fs)/\Cls K C/\NoAttr K C f/\fs.lookup f=some v/\Q v H1
def d2Z(K:FZ)(ta tv:TE)(f:Str):TS:=λD σ H=>tv σ H λy H1=>ta σ H1 λx H2=>∃a C dx fs,x=.ref a/\H2 a=some (.ins C dx fs)/\Cls K C/\NoAttr K C f/\fs.length<1000/\
 D.nx σ (upd H2 a (.ins C dx (Q9 f y fs)))
def deZ(X:Cx)(op:Operator)(rd:V->V->Hp->VK->Prop):Prop:=
 ∀(pins:List (Addr×Obj)) (s:Shared) (σ:St) (H:Hp) (x y:V) (u v:Value) (Q:VK),Inv X pins σ H s->RelV x u->RelV y v->rd x y H Q->wpAny (model X.prog X.w) X.A (inplaceOp op u v) (EP X pins σ Q) X.xe s
def aHZ(K:FZ)(ta tv:TE)(rd:V->V->Hp->VK->Prop)(f:Str):TS:=λD σ H=>ta σ H λx H1=>∃a C dx fs v,x=.ref a/\H1 a=some (.ins C dx fs)/\Cls K C/\NoAttr K C f/\fs.lookup f=some v/\
 tv σ H1 λy H2=>rd v y H2 λz H3=>∃dx' fs',H3 a=some (.ins C dx' fs')/\fs'.length<1000/\D.nx σ (upd H3 a (.ins C dx' (Q9 f z fs')))
section
variable{X:Cx}{o e value:Expr}{f:Str}{pos pos' tpos:Pos}{ta tv:TE}
theorem E3(he:PE X e ta)(hb:attributeBase e f X.env (eval e X.env)=eval e X.env):PE X (.Attribute e f pos) (dAZ X.K ta f):=by
 intro pins s σ H Q I h
 refine aOZ hb (thn (he pins s σ H _ I h) λu s1 ⟨x,H1,I1,rx,a,C,dx,fs,v,ex,ea,c,n,l,q⟩=> ?_)
 subst ex
 obtain rfl:u=Value.ref a:=rx
 exact FQ I1 ea c n l λu' s2 I2 ru=>⟨v,H1,I2,ru,q⟩
theorem O6(ha:PE X o ta)(hv:PE X value tv)(hs:swapsWith value (some (.Attribute o f pos')) pos.line X.env=pure false):PS X (.Assign [.Attribute o f pos'] value pos) (d2Z X.K ta tv f):=by
 intro pins s σ H D I h
 refine plainObj_wpAny_Assign_Attribute (thn (hv pins s σ H _ I h) λu s1 ⟨y,H1,I1,ry,q⟩=>thn (ha pins s1 σ H1 _ I1 q) λov s2 ⟨x,H2,I2,rx,a,C,dx,fs,ex,ea,c,n,l,q2⟩=> ?_) hs
 subst ex
 obtain rfl:ov=Value.ref a:=rx
 exact GM I2 ea c n l ry λs3 I3=>⟨σ,_,I3,q2⟩
theorem IV{op:Operator}{rd:V->V->Hp->VK->Prop}(ha:PE X o ta)(hv:PE X value tv)(hop:deZ X op rd):PS X (.AugAssign (.Attribute o f tpos) op value pos) (aHZ X.K ta tv rd f):=by
 intro pins s σ H D I h
 refine wpAny_AugAssign_AttributeAny (thn (ha pins s σ H _ I h) λov s1 ⟨x,H1,I1,rx,a,C,dx,fs,v,ex,ea,c,n,l,q⟩=> ?_)
 subst ex
 obtain rfl:ov=Value.ref a:=rx
 refine FQ I1 ea c n l λu s2 I2 ru=>thn (hv pins s2 σ H1 _ I2 q) λw3 s3 ⟨y,H2,I3,ry,q3⟩=>thn (hop pins s3 σ H2 v y u w3 _ I3 ru ry q3) λw4 s4 ⟨z,H3,I4,rz,dx',fs',ea',l',q4⟩=> ?_
 exact GM I4 ea' c n l' rz λs5 I5=>⟨σ,_,I5,q4⟩
def dFZ:V->V->Hp->VK->Prop:=λx y H Q=>∃i j,x=.int i/\y=.int j/\Q (.int (i+j)) H
theorem WF:deZ X .Add dFZ:=by
 rintro pins s σ H x y u v Q I rx ry ⟨i,j,rfl,rfl,q⟩
 obtain⟨t,rfl⟩:=(show∃t,u=Value.int i t from rx)
 obtain⟨t',rfl⟩:=(show∃t',v=Value.int j t' from ry)
 exact PyProof.Rows.iadd_int ⟨.int (i+j),H,I.tok _,⟨_,rfl⟩,q⟩
variable{pins:List (Addr×Obj)}{σ:St}{H:Hp}{s:Shared}{A:Around}{E:Value->Shared->Prop}{Q:Value->Shared->Prop}{c:Value}{b:Bool}
inductive TyOf(K:FZ)(H:Hp):V->Value->Prop where
 |non:TyOf K H .non (.type "NoneType")
 |bl (x:Bool):TyOf K H (.bl x) (.type "bool")
 |int (i:Int):TyOf K H (.int i) (.type "int")
 |str (x:Str):TyOf K H (.str x) (.type "str")
 |flt (x:UInt64):TyOf K H (.flt x) (.type "float")
 |lst {a:Addr} {xs:List V} (e:H a=some (.lst xs)):TyOf K H (.ref a) (.type "list")
 |frz {a:Addr} {o:Obj} {xs:List V} (e:H a=some (.frz o (.lst xs))):TyOf K H (.ref a) (.type "list")
 |tup {a:Addr} {xs:List V} (e:H a=some (.tup xs)):TyOf K H (.ref a) (.type "tuple")
 |dK {a:Addr} {kvs:List (Key×V)} (e:H a=some (.dK kvs)):TyOf K H (.ref a) (.type "dict")
 |dT {a:Addr} {kvs:List (List Key×V)} (e:H a=some (.dT kvs)):TyOf K H (.ref a) (.type "dict")
 |ins {a C dx:Addr} {fs:List (Str×V)} (e:H a=some (.ins C dx fs)) (cl:Cls K C) (ha:findIn K (.ref C) "__class__"=some (some (.builtin "object.__class__")))
   (hn:PySem.W.specialIn K (.builtin "object.__class__") "__get__"=some (some (.builtin "getset_descriptor.__get__"))) (htk:PySem.W.takesIn K (.builtin "object.__class__")=some true)
   (hm:PySem.W.mroIn K C (.type "object")=some true):TyOf K H (.ref a) (.ref C)
theorem TV{x:V}{u t:Value}(I:Inv X pins σ H s)(rx:RelV x u)(ty:TyOf X.K H x t)(e:kitOne X.K t c=some b)(h:∀tk,Q (.bool b) {s with toks:=tk}):
  wpAny (model X.prog X.w) A (call (.builtin "isinstance") [u,c]) Q E s:=by
 cases ty with
 |non=>cases(show u=Value.none from rx);exact kia_one PySem.W.kitx_none I.kIn True.intro e (λz=>nomatch z) h
 |bl y=>cases(show u=Value.bool y from rx);exact kia_one PySem.W.kitx_bool I.kIn True.intro e (λz=>nomatch z) h
 |int i=>obtain⟨t,q⟩:=(show∃t,u=Value.int i t from rx);cases q;exact kia_one PySem.W.kitx_int I.kIn True.intro e (λz=>nomatch z) h
 |str y=>obtain⟨t,q⟩:=(show∃t,u=Value.str y t from rx);cases q;exact kia_one PySem.W.kitx_str I.kIn True.intro e (λz=>nomatch z) h
 |flt y=>obtain⟨t,q⟩:=(show∃t,u=Value.float y t from rx);cases q;exact kia_one PySem.W.kitx_float I.kIn True.intro e (λz=>nomatch z) h
 | @lst a xs ea=>
  cases(show u=Value.ref a from rx)
  obtain⟨_,_,n,_,h1⟩:=(show ObjOk X.prog X.w H s.heap a (.lst xs)from I.hok a _ ea)
  exact kia_one kitx_list I.kIn ⟨_,h1,rfl⟩ e (λz=>nomatch z) h
 | @frz a ob xs ea=>
  cases(show u=Value.ref a from rx)
  obtain⟨_,_,_,n,_,h1⟩:=(show ObjOk X.prog X.w H s.heap a (.frz ob (.lst xs))from I.hok a _ ea)
  exact kia_one kitx_list I.kIn ⟨_,h1,rfl⟩ e (λz=>nomatch z) h
 | @tup a xs ea=>
  cases(show u=Value.ref a from rx)
  obtain⟨_,_,_,p⟩:=(show ObjOk X.prog X.w H s.heap a (.tup xs)from I.hok a _ ea)
  obtain⟨o,h1,h2,_⟩:=p
  exact kia_one PySem.W.kitx_tuple I.kIn ⟨o,h1,h2⟩ e (λz=>nomatch z) h
 | @dK a kvs ea=>
  cases(show u=Value.ref a from rx)
  obtain⟨_,_,vs,_,p⟩:=(show ObjOk X.prog X.w H s.heap a (.dK kvs)from I.hok a _ ea)
  obtain⟨o,es,ep,h1,h2,_⟩:=p
  exact kia_one kitx_dict I.kIn ⟨o,h1,h2.1⟩ e (λz=>nomatch z) h
 | @dT a kvs ea=>
  cases(show u=Value.ref a from rx)
  obtain⟨_,_,xs,_,o,es,ep,h1,h2,_⟩:=(show ObjOk X.prog X.w H s.heap a (.dT kvs)from I.hok a _ ea)
  exact kia_one kitx_dict I.kIn ⟨o,h1,h2.1⟩ e (λz=>nomatch z) h
 | @ins a C dx fs ea cl ha hn htk hm=>
  cases(show u=Value.ref a from rx)
  obtain⟨mA,O,_⟩:=BP I.hok ea
  obtain⟨od,J,_⟩:=O.look
  exact kia_one (PySem.W.kitx_own (cl.get _) cl.hd ha hn htk hm) I.kIn J e (λz=>nomatch z) h
end
structure Room (k:Nat) (A:Around):Prop where
 hd:A.handled=none
 dp:A.depth+3*k+5<recursionLimit
 un:A.units+16*k+200<cLine
theorem Room.mono{j k:Nat}{A:Around}(r:Room k A)(h:j<=k):Room j A:=⟨r.hd,by have:=r.dp;omega,by have:=r.un;omega⟩
theorem Room.deeper{k:Nat}{A:Around}(r:Room (k+1) A)(env:Env):Room k (A.deeper env):=
 ⟨r.hd,by have:=r.dp;show A.depth+1+3*k+5<_;omega,by have:=r.un;show A.units+3+16*k+200<_;omega⟩
theorem OZ{A:Around}{C:Addr}{us:List Value}{kw:List (Str×Value)}:(A.under (.builtin "type.__call__" ⟨.ref C::us,kw⟩)).depth=A.depth+1:=by
 first|rfl|simp[Around.under,Code.weight,Code.isCreation,Code.isGuard,Code.isCaller,Code.frames,Code.isFrame,guardIds]
theorem QB{A:Around}{C:Addr}{us:List Value}{kw:List (Str×Value)}:(A.under (.builtin "type.__call__" ⟨.ref C::us,kw⟩)).units=A.units+1:=by
 first|rfl|simp[Around.under,Code.cUnits,Code.frames,Code.isFrame]
theorem Room.make{k:Nat}{A:Around}(r:Room (k+1) A)(C:Addr)(us:List Value)(kw:List (Str×Value)):Room k (A.under (.builtin "type.__call__" ⟨.ref C::us,kw⟩)):=
 ⟨r.hd,by have:=r.dp;rw[OZ];omega,by have:=r.un;rw[QB];omega⟩
theorem Room.depth{k:Nat}{A:Around}(r:Room k A):A.depth<recursionLimit:=by have:=r.dp;omega
theorem Room.units{k:Nat}{A:Around}(r:Room k A):A.units+64<cLine:=by have:=r.un;omega
theorem Room.units0{k:Nat}{A:Around}(r:Room k A):A.units<cLine:=by have:=r.un;omega
def adZ:TA:=λ_ H Q=>Q [] H
def daZ(ta:TE)(tr:TA):TA:=fun σ H Q=>ta σ H λx H1=>tr σ H1 λxs H2=>Q (x::xs) H2
section
variable{X:Cx}{e:Expr}{es:List Expr}{te:TE}{t:TA}{pos:Pos}
theorem A6:PA X [] adZ:=λ_ _ _ _ H Q I h=>Calls.spliced_nil ⟨[],H,I,.nil,h⟩
theorem A0(ha:PE X e te)(hr:PA X es t)(hs:starEach (e::es) X.env=(false,eval e X.env)::starEach es X.env:=by rfl):PA X (e::es) (daZ te t):=by
 intro pos pins s σ H Q I h
 rw[hs]
 show wpAny _ _ (spliced ((false,eval e X.env)::backTo pos (starEach es X.env))) _ _ s
 refine Calls.spliced_cons (thn (ha pins s σ H _ I h) λu s1 ⟨x,H1,I1,r1,q1⟩=> ?_)
 exact thn (hr pos pins s1 σ H1 _ I1 q1) λus s2 ⟨xs,H2,I2,r2,q2⟩=>⟨x::xs,H2,I2,.cons r1 r2,q2⟩
def dTZ(t:TA):TE:=fun σ H Q=>t σ H λxs H1=>xs.length<=sizeLine/\∀p,H1 p=none->Q (.ref p) (upd H1 p (.tup xs))
def dOZ(t:TA):TE:=fun σ H Q=>t σ H λxs H1=>xs.length<=sizeLine/\∀p,H1 p=none->Q (.ref p) (upd H1 p (.lst xs))
theorem B4{x1}(h:PA X es t):PE X (.Tuple es x1 pos) (dTZ t):=by
 intro pins s σ H Q I hq
 refine wpAny_Tuple_spliced (thn (h pos pins s σ H _ I hq) λus s1 ⟨xs,H1,I1,r,z,q⟩=>⟨by rw[<-r.length];exact z, ?_⟩)
 have hf:H1 s1.heap.objs.size=none:=I1.hok.fresh (Nat.le_refl _)
 refine⟨.ref s1.heap.objs.size,upd H1 s1.heap.objs.size (.tup xs),I1.laid (t':=s1.toks) (λb u e=>gZ _ e) (Nat.le_refl _) ?_,rfl,q _ hf⟩
 exact⟨z,us,r,⟨_,get?_push_size _ rfl,rfl,_,rfl⟩⟩
theorem J8(h:PA X es t):PE X (.List es pos) (dOZ t):=by
 intro pins s σ H Q I hq
 refine wpAny_List_spliced (thn (h pos pins s σ H _ I hq) λus s1 ⟨xs,H1,I1,r,z,q⟩=>⟨by rw[<-r.length];exact z, ?_⟩)
 have hf:H1 s1.heap.objs.size=none:=I1.hok.fresh (Nat.le_refl _)
 refine⟨.ref s1.heap.objs.size,upd H1 s1.heap.objs.size (.lst xs),I1.laid (t':=s1.toks) (λb u e=>gZ _ e) (Nat.le_refl _) ?_,rfl,q _ hf⟩
 exact⟨z,us,0,r,get?_push_size _ rfl⟩
end
abbrev Sp:=List V->Hp->VK->XK->Prop
abbrev CXT:=List Env->Hp->Shared->XK->Value->Shared->Prop
structure Env0 (P:Program) (w:World) (K:FZ) (mg:Str->Option Value) (base:Heap) (A:Around) (outer:List Env) (s:Shared) (H:Hp):Prop where
 frames:A.frames=some outer
 mod:Mod K mg base
 bs:∀b o,base.get? b=some o->s.heap.get? b=some o/\H b=none
 bsz:base.objs.size<=s.heap.objs.size
 funs:s.heap.FunFrames base outer
 frf:∀b∈frs outer,H b=none
 hok:HOk P w H s.heap
 bare:AllBare s.gens
def CE(outer:List Env)(P:Program)(w:World)(H:Hp)(s:Shared)(Q:VK)(u:Value)(s':Shared):Prop:=
 ∃v H',s'.os=s.os/\AllBare s'.gens/\Un (frs outer) [] H H' s.heap s'.heap/\HOk P w H' s'.heap/\RelV v u/\Q v H'
def CR(CX:CXT)(outer:List Env)(P:Program)(w:World)(H:Hp)(s:Shared)(Q:VK)(E:XK)(r:Result)(s':Shared):Prop:=
 match r with
 | .ok (.ret u)=>CE outer P w H s Q u s'
 | .ok _=>False
 | .error e=>CX outer H s E e s'
structure FnOk (P:Program) (w:World) (K:FZ) (mg:Str->Option Value) (base:Heap) (CX:CXT) (k:Nat) (f:Addr) (fd:FuncData) (ps:List Str) (sp:Sp):Prop where
 len:∀vs H Q E,sp vs H Q E->vs.length=ps.length
 run:∀(A:Around) (outer:List Env) (s:Shared) (H:Hp) (args:Args) (us:List Value) (vs:List V) (Q:VK) (E:XK),Room k A->Env0 P w K mg base A outer s H->BindsTo s fd args (ps.zip us)->Vals vs us->sp vs H Q E->
  codeAny (model P w) A (.call (.ref f) args) (CR CX outer P w H s Q E) s
theorem FnOk.mono{P:Program}{w:World}{K:FZ}{mg:Str->Option Value}{base:Heap}{CX:CXT}{j k:Nat}{f:Addr}{fd:FuncData}{ps:List Str}{sp:Sp}(F:FnOk P w K mg base CX j f fd ps sp)(h:j<=k):
  FnOk P w K mg base CX k f fd ps sp:=⟨F.len,λA outer s H args us vs Q E hr=>F.run A outer s H args us vs Q E (hr.mono h)⟩
theorem Env0.make{P:Program}{w:World}{K:FZ}{mg:Str->Option Value}{base:Heap}{A:Around}{outer:List Env}{s:Shared}{H:Hp}(e:Env0 P w K mg base A outer s H)(C:Addr)(us:List Value)(kw:List (Str×Value)):
  Env0 P w K mg base (A.under (.builtin "type.__call__" ⟨.ref C::us,kw⟩)) outer s H:=⟨by first|exact e.frames|(simpa [Around.under,Code.envs,Code.isFrame,pushEnvs]using e.frames),e.mod,e.bs,e.bsz,e.funs,e.frf,e.hok,e.bare⟩
section
variable{X:Cx}{pins:List (Addr×Obj)}{σ:St}{H:Hp}{s s':Shared}
theorem Inv.env0(I:Inv X pins σ H s):Env0 X.prog X.w X.K X.mg X.base X.A X.stack s H:=
 ⟨I.ok.frames,I.ok.mod,I.bs,le_trans I.ok.bsz I.sz,I.stack,I.stkFree,I.hok,I.bare⟩
theorem Inv.after{Q:VK}{u:Value}(I:Inv X pins σ H s)(h:CE X.stack X.prog X.w H s Q u s'):EP X pins σ Q u s':=by
 obtain⟨v,H',os,bare,un,hok,r,q⟩:=h
 obtain⟨hh,g,d,t,os'⟩:=s'
 obtain rfl:os'=s.os:=os
 exact⟨v,H',I.call (h':=hh) (g':=g) (d':=d) (t':=t) (ch:=[]) un hok bare (λb z=>absurd z (by simp)),r,q⟩
end
def dtZ(sp:Sp)(dvs:List V)(E:XK)(t:TA):TE:=fun σ H Q=>t σ H λvs H1=>sp (vs++dvs) H1 Q E
def a7Z(C:Addr)(m:Str)(sp:Sp)(dvs:List V)(E:XK)(ta:TE)(t:TA):TE:=fun σ H Q=>ta σ H λx H1=>∃a dx fs,x=.ref a/\H1 a=some (.ins C dx fs)/\fs.lookup m=none/\
 t σ H1 λvs H2=>sp (x::(vs++dvs)) H2 Q E
def bcZ(C:Addr)(sp:Sp)(dvs:List V)(E:XK)(t:TA):TE:=fun σ H Q=>t σ H λvs H1=>∀x dx,H1 x=none->H1 dx=none->dx≠x->
 sp (.ref x::(vs++dvs)) (upd (upd H1 dx (.own x)) x (.ins C dx [])) (λv H2=>v=.non/\Q (.ref x) H2) E
def Binds(K:FZ)(fd:FuncData)(ps:List Str)(ds:List Value):Prop:=
 ∀(s:Shared) (us:List Value),K.In s.heap->(us++ds).length=ps.length->BindsTo s fd ⟨us,[]⟩ (ps.zip (us++ds))
theorem Binds.all{K:FZ}{fd:FuncData}{ps:List Str}(h:∀us:List Value,us.length=ps.length->bindArgs fd ⟨us,[]⟩=pure (ps.zip us)):Binds K fd ps []:=λs us _ hl=>by
 rw[append_nil]at hl⊢
 exact .of_eq (h us hl)
def U5(CX:CXT)(X:Cx)(E:XK):Prop:=∀(pins:List (Addr×Obj)) (σ:St) (H:Hp) (s:Shared) (e:Value) (s':Shared),Inv X pins σ H s->CX X.stack H s E e s'->X.xe e s'
section
variable{X:Cx}{CX:CXT}{k:Nat}{f C:Addr}{fd:FuncData}{ps:List Str}{sp:Sp}{dvs:List V}{ds:List Value}{E:XK}{x m:Str}{p pos apos:Pos}{e o:Expr}{es:List Expr}{ta:TE}{t:TA}
theorem FJ{pins:List (Addr×Obj)}{σ:St}{H:Hp}{s:Shared}{Q:VK}{us:List Value}{vs:List V}(F:FnOk X.prog X.w X.K X.mg X.base CX k f fd ps sp)(hr:Room k X.A)(hb:Binds X.K fd ps ds)(hd:Vals dvs ds)(hx:U5 CX X E)
  (I:Inv X pins σ H s)(r:Vals vs us)(h:sp (vs++dvs) H Q E):wpAny (model X.prog X.w) X.A (call (.ref f) us) (EP X pins σ Q) X.xe s:=by
 have r2:Vals (vs++dvs) (us++ds):=r.append hd
 have hl:(us++ds).length=ps.length:=by rw[<-r2.length];exact F.len _ _ _ _ h
 refine wpAny_call (codeAny_mono (F.run X.A X.stack s H ⟨us,[]⟩ (us++ds) (vs++dvs) Q E hr I.env0 (hb s us I.kIn hl) r2 h) λr s' hq=> ?_)
 cases r with
 |error e=>exact hx pins σ H s e s' I hq
 |ok fl=>
  cases fl with
  |ret u=>exact I.after hq
  |next=>exact False.elim hq
  |brk=>exact False.elim hq
  |cont=>exact False.elim hq
theorem B9(F:FnOk X.prog X.w X.K X.mg X.base CX k f fd ps sp)(hr:Room k X.A)(hg:Gl X x)(hm:X.mg x=some (.ref f))(hk:kZ X.K (.ref f)=true)(hb:Binds X.K fd ps ds)(hd:Vals dvs ds)(hx:U5 CX X E)
  (ha:PA X (e::es) t)(hdb:(x==("__debug__":Str))=false:=by decide)(he:starEach (e::es) X.env=(false,eval e X.env)::starEach es X.env:=by rfl)(hpl:(backTo pos (starEach es X.env)).any (·.1)=false:=by rfl):
  PE X (.Call (.Name x p) (e::es) [] pos) (dtZ sp dvs E t):=by
 intro pins s σ H Q I h
 refine wpAny_Call_Name_kw (BO I hg hm ?_ hdb)
 refine callWith_K (h₀:=X.base) I.ok.mod.kin hk (thn (ha pos pins s σ H _ I h) λus s1 ⟨vs,H1,I1,r,q⟩=>⟨I1.kIn, ?_⟩) he hpl
 exact FJ F hr hb hd hx I1 r q
theorem K1{pl:Sem Bool}(he:PE X o ta)(c:Cls X.K C)(hm:Meth X.K C m f)(F:FnOk X.prog X.w X.K X.mg X.base CX k f fd ps sp)(hr:Room k X.A)(hb:Binds X.K fd ps ds)(hd:Vals dvs ds)(hx:U5 CX X E)(ha:PA X (e::es) t)
  (hst:starEach (e::es) X.env=(false,eval e X.env)::starEach es X.env:=by rfl)(hpl:(backTo pos (starEach es X.env)).any (·.1)=false:=by rfl)
  (ht:eval (.Call (.Attribute o m apos) (e::es) [] pos) X.env=(do
   let ov<-eval o X.env
   standAt apos.atName
   let(f,first)<-holding [ov] (getMethod ov m pl)
   callWith pos f first (backTo pos (starEach (e::es) X.env)) (backToKw pos (keywordEach [] X.env))):=by rfl):
  PE X (.Call (.Attribute o m apos) (e::es) [] pos) (a7Z C m sp dvs E ta t):=by
 intro pins s σ H Q I h
 refine PySem.W.methodCall_KW (pl:=pl) (thn (he pins s σ H _ I h) λu s1 ⟨x,H1,I1,rx,a,dx,fs,ex,ea,l,q⟩=> ?_) ht
 subst ex
 obtain rfl:u=Value.ref a:=rx
 refine GO I1 ea c hm l ?_
 refine callWith_K (first:=[.ref a]) (h₀:=X.base) I.ok.mod.kin hm.kp (thn (ha pos pins s1 σ H1 _ I1 q) λus s2 ⟨vs,H2,I2,r,q2⟩=>⟨I2.kIn, ?_⟩) hst hpl
 exact FJ (us:=.ref a::us) (vs:=.ref a::vs) F hr hb hd hx I2 (.cons rfl r) q2
theorem G0{pl:Sem Bool}(he:PE X o ta)(c:Cls X.K C)(hm:Meth X.K C m f)(F:FnOk X.prog X.w X.K X.mg X.base CX k f fd ps sp)(hr:Room k X.A)(hb:Binds X.K fd ps ds)(hd:Vals dvs ds)(hx:U5 CX X E)
  (ht:eval (.Call (.Attribute o m apos) [] [] pos) X.env=(do
   let ov<-eval o X.env
   standAt apos.atName
   let(f,first)<-holding [ov] (getMethod ov m pl)
   callWith pos f first (backTo pos (starEach [] X.env)) (backToKw pos (keywordEach [] X.env))):=by rfl):
  PE X (.Call (.Attribute o m apos) [] [] pos) (a7Z C m sp dvs E ta adZ):=by
 intro pins s σ H Q I h
 refine PySem.W.methodCall_KW (pl:=pl) (thn (he pins s σ H _ I h) λu s1 ⟨x,H1,I1,rx,a,dx,fs,ex,ea,l,q⟩=> ?_) ht
 subst ex
 obtain rfl:u=Value.ref a:=rx
 refine GO I1 ea c hm l ?_
 exact PySem.W.callWith_K0 (first:=[.ref a]) I1.kIn hm.kp (FJ (us:=[.ref a]) (vs:=[.ref a]) F hr hb hd hx I1 (.cons rfl .nil) q)
structure Mk (K:FZ) (C f:Addr):Prop where
 makes:PySem.W.makesIn K C=true
 init:findIn K (.ref C) "__init__"=some (some (.ref f))
 fn:isFn K (.ref f)=true
 kp:kZ K (.ref C)=true
theorem MS{pins:List (Addr×Obj)}{σ:St}{H:Hp}{s:Shared}{Q:VK}{us:List Value}{vs:List V}(M:Mk X.K C f)(F:FnOk X.prog X.w X.K X.mg X.base CX k f fd ps sp)(hr:Room (k+1) X.A)(hb:Binds X.K fd ps ds)(hd:Vals dvs ds)
  (hx:U5 CX X E)(I:Inv X pins σ H s)(r:Vals vs us)
  (h:∀x dx,H x=none->H dx=none->dx≠x->sp (.ref x::(vs++dvs)) (upd (upd H dx (.own x)) x (.ins C dx [])) (λv H2=>v=.non/\Q (.ref x) H2) E):
  wpAny (model X.prog X.w) X.A (call (.ref C) us) (EP X pins σ Q) X.xe s:=by
 have hq:=h (s.heap.objs.size+1) s.heap.objs.size (I.hok.fresh (le_succ _)) (I.hok.fresh (Nat.le_refl _)) (ne_of_lt (lt_succ_self _))
 have I2:=Inv.made (C:=C) I
 have r2:Vals (V.ref (s.heap.objs.size+1)::(vs++dvs)) (Value.ref (s.heap.objs.size+1)::(us++ds)):=.cons rfl (r.append hd)
 have hl:(Value.ref (s.heap.objs.size+1)::us++ds).length=ps.length:=by
  have e:=r2.length
  rw[F.len _ _ _ _ hq]at e
  exact e.symm
 refine wpAny_call (XB (f:=f) I.kIn M.makes M.init (beq_iff_eq.mp M.fn) (codeAny_mono (F.run _ X.stack _ _ ⟨Value.ref (s.heap.objs.size+1)::us,[]⟩ (Value.ref (s.heap.objs.size+1)::(us++ds)) _ _ E (hr.make C us [])
  (I2.env0.make C us []) (hb _ (Value.ref (s.heap.objs.size+1)::us) I2.kIn hl) r2 hq) λr s' hq'=> ?_))
 cases r with
 |error e=>exact hx pins σ _ _ e s' I2 hq'
 |ok fl=>
  cases fl with
  |ret u=>
   obtain⟨v,H',I3,rv,ev,q3⟩:=I2.after hq'
   subst ev
   exact⟨rv,⟨V.ref (s.heap.objs.size+1),H',I3,rfl,q3⟩⟩
  |next=>exact False.elim hq'
  |brk=>exact False.elim hq'
  |cont=>exact False.elim hq'
theorem RF(M:Mk X.K C f)(F:FnOk X.prog X.w X.K X.mg X.base CX k f fd ps sp)(hr:Room (k+1) X.A)(hg:Gl X x)(hm:X.mg x=some (.ref C))(hb:Binds X.K fd ps ds)(hd:Vals dvs ds)(hx:U5 CX X E)
  (ha:PA X (e::es) t)(hdb:(x==("__debug__":Str))=false:=by decide)(he:starEach (e::es) X.env=(false,eval e X.env)::starEach es X.env:=by rfl)(hpl:(backTo pos (starEach es X.env)).any (·.1)=false:=by rfl):
  PE X (.Call (.Name x p) (e::es) [] pos) (bcZ C sp dvs E t):=by
 intro pins s σ H Q I h
 refine wpAny_Call_Name_kw (BO I hg hm ?_ hdb)
 refine callWith_K (h₀:=X.base) I.ok.mod.kin M.kp (thn (ha pos pins s σ H _ I h) λus s1 ⟨vs,H1,I1,r,q⟩=>⟨I1.kIn, ?_⟩) he hpl
 exact MS M F hr hb hd hx I1 r q
theorem MG(M:Mk X.K C f)(F:FnOk X.prog X.w X.K X.mg X.base CX k f fd ps sp)(hr:Room (k+1) X.A)(hg:Gl X x)(hm:X.mg x=some (.ref C))(hb:Binds X.K fd ps ds)(hd:Vals dvs ds)(hx:U5 CX X E)
  (hdb:(x==("__debug__":Str))=false:=by decide):PE X (.Call (.Name x p) [] [] pos) (bcZ C sp dvs E adZ):=by
 intro pins s σ H Q I h
 refine wpAny_Call_Name_kw (BO I hg hm ?_ hdb)
 exact PySem.W.callWith_K0 I.kIn M.kp (MS (us:=[]) M F hr hb hd hx I .nil h)
variable{ks:List Str}{kpos:Pos}{kws:List Keyword}{te:TE}{tk:TA}{nm:Option Str}
variable{g:List Value->List Value->List Value}{gV:List V->List V->List V}
end
structure FnScope(N P:List Str)(sc:Scope):Prop where
 kind:sc.kind=.function
 co:sc.isCoroutine=false
 gen:sc.isGenerator=false
 nd:N.Nodup
 pre:N.take P.length=P
 par:∀x∈P,sc.names.lookup x=some .local\/sc.names.lookup x=some .cell
 nofree:∀y∈sc.names,y.2≠ .free
theorem II{kindOf:Str->Option NameKind}{x:Str}:∀ {binds:List (Str×Value)} {m:Str->Option Value},(∀v,(x,v)∉binds)->bindL kindOf binds m x=m x
 | [],_,_=>rfl
 |(n,v)::r,m,h=>by
  unfold bindL
  rw[II λw hw=>h w (mem_cons_of_mem _ hw)]
  split
  ·have:x≠n:=by rintro rfl;exact h v mem_cons_self
   simp[this]
  ·rfl
theorem IF{kindOf:Str->Option NameKind}{x:Str}:∀ {binds:List (Str×Value)} {m:Str->Option Value},(∀v,(x,v)∉binds)->bindC kindOf binds m x=m x
 | [],_,_=>rfl
 |(n,v)::r,m,h=>by
  unfold bindC
  rw[IF λw hw=>h w (mem_cons_of_mem _ hw)]
  split
  ·rfl
  ·have:x≠n:=by rintro rfl;exact h v mem_cons_self
   simp[this]
theorem HU{kindOf:Str->Option NameKind}{x:Str}{v:Value}:∀ {P:List Str} {vs:List Value} {i:Nat} {m:Str->Option Value},P.Nodup->P[i]? =some x->vs[i]? =some v->kindOf x=some .local->
  bindL kindOf (P.zip vs) m x=some v
 | [],_,_,_,_,h,_,_=>by simp at h
 |_::_,[],_,_,_,_,h,_=>by simp at h
 |p::P,w::vs,0,m,nd,h1,h2,hk=>by
  simp at h1 h2;subst h1;subst h2
  show bindL kindOf ((p,w)::P.zip vs) m p=_
  unfold bindL
  rw[II λv hv=>(nodup_cons.mp nd).1 (of_mem_zip hv).1,if_pos hk]
  simp
 |p::P,w::vs,i+1,m,nd,h1,h2,hk=>by
  show bindL kindOf ((p,w)::P.zip vs) m x=_
  unfold bindL
  exact HU (i:=i) (nodup_cons.mp nd).2 (by simpa using h1) (by simpa using h2) hk
theorem IB{kindOf:Str->Option NameKind}{x:Str}{v:Value}:∀ {P:List Str} {vs:List Value} {i:Nat} {m:Str->Option Value},P.Nodup->P[i]? =some x->vs[i]? =some v->kindOf x≠some .local->
  bindC kindOf (P.zip vs) m x=some v
 | [],_,_,_,_,h,_,_=>by simp at h
 |_::_,[],_,_,_,_,h,_=>by simp at h
 |p::P,w::vs,0,m,nd,h1,h2,hk=>by
  simp at h1 h2;subst h1;subst h2
  show bindC kindOf ((p,w)::P.zip vs) m p=_
  unfold bindC
  rw[IF λv hv=>(nodup_cons.mp nd).1 (of_mem_zip hv).1,if_neg hk]
  simp
 |p::P,w::vs,i+1,m,nd,h1,h2,hk=>by
  show bindC kindOf ((p,w)::P.zip vs) m x=_
  unfold bindC
  exact IB (i:=i) (nodup_cons.mp nd).2 (by simpa using h1) (by simpa using h2) hk
noncomputable def start(N:List Str)(vs:List V):St:=vs.map some++List.replicate (N.length - vs.length) none
def MP(CX:CXT)(P:Program)(w:World)(K:FZ)(mg:Str->Option Value)(base:Heap)(N:List Str)(qual:Str)(scope:Scope)(f:Addr)(cd:Value)(A:Around)(outer:List Env)(s:Shared)(H:Hp)(E:XK):Cx where
 prog:=P
 w:=w
 K:=K
 mg:=mg
 base:=base
 A:=A.deeper (envOfC qual scope s.heap.objs.size f cd)
 N:=N
 s₀:=s
 H₀:=H
 env:=envOfC qual scope s.heap.objs.size f cd
 outer:=outer
 stack:=envOfC qual scope s.heap.objs.size f cd::outer
 ex:=[]
 calm:=true
 fn:=λ_=>true
 pn:=[]
 xe:=λe s'=>wpAny (model P w) (A.deeper (envOfC qual scope s.heap.objs.size f cd)) (leaving (envOfC qual scope s.heap.objs.size f cd) e) (λ_ s''=>CX outer H s E e s'') (λe' s''=>CX outer H s E e' s'') s'
theorem LZ{sc:Scope}{n:Nat}{x:Str}(h:sc.names.lookup x=some .cell):∃c,(cellsFrom n sc.names []).lookup x=some c:=by
 have q:=PySem.W.cellsFrom_some sc.names n [] (.inl h)
 exact Option.isSome_iff_exists.mp q
theorem UB{CX:CXT}{P:Program}{w:World}{K:FZ}{mg:Str->Option Value}{base:Heap}{N ps:List Str}{qual:Str}{scope:Scope}{f:Addr}{cd:Value}{A:Around}{outer:List Env}{s s1:Shared}{H:Hp}{E:XK}{us:List Value}{vs:List V}
  (S:FnScope N ps scope)(hd:A.handled=none)(e0:Env0 P w K mg base A outer s H)(hl:vs.length=ps.length)(r:Vals vs us)
  (x:InCallC s s.heap.objs.size (bindL (envOfC qual scope s.heap.objs.size f cd).kindOf (ps.zip us) λ_=>none) (cellsFrom (s.heap.objs.size+1) scope.names []) (bindC (envOfC qual scope s.heap.objs.size f cd).kindOf (ps.zip us) λ_=>none) s1):
  Inv (MP CX P w K mg base N qual scope f cd A outer s H E) [] (start N vs) H s1:=by
 have hpl:ps.length<=N.length:=by have:=congrArg List.length S.pre;rw[length_take]at this;omega
 obtain⟨h1,tk,rfl,hk⟩:=x.done
 have noA:∀b:Addr,b∉(MP CX P w K mg base N qual scope f cd A outer s H E).ex:=λb z=>absurd (show b∈([]:List Addr)from z) (by simp)
 refine⟨⟨e0.mod,S.kind,rfl,rfl,Nat.le_refl _,λy z c h1 h2=> ?_,λy hy=> ?_,λy c _ h=> ?_,λ_=>hd,Around.frames_deeper e0.frames,.inr ⟨rfl,rfl⟩,λb z=>absurd z (noA b),e0.bs,e0.bsz,λb _ _=>noA b,λb z=>absurd z (noA b),e0.funs,e0.frf⟩,
  rfl,e0.bare,Un.kept hk,⟨_,x.toInCall.ns,λi y v h1 h2 h3=> ?_⟩,λy c h=>⟨_,x.cell y c h⟩,e0.hok.fresh (Nat.le_refl _),λy c h=> ?_,λp hp=>absurd (show p∈([]:List (Addr×Obj))from hp) (by simp),e0.hok.kept hk, ?_⟩
 ·exact name_of_addr x.apart (PySem.mem_of_lookup h1) (PySem.mem_of_lookup h2)
 ·have hy:scope.names.lookup y=some .cell\/scope.names.lookup y=some .free:=hy
  rcases hy with hy|hy
  ·exact LZ hy
  ·exact absurd rfl (S.nofree _ (PySem.mem_of_lookup hy))
 ·exact le_of_lt (x.above y c (PySem.mem_of_lookup h))
 ·have hi:i<vs.length:=by
   unfold start at h2
   by_cases hi:i<vs.length
   ·exact hi
   ·rw[getElem?_append_right (by simpa using hi)]at h2
    rw[List.getElem?_replicate]at h2
    split at h2<;>cases h2
  have ha:vs[i]? =some v:=by
   unfold start at h2
   rw[getElem?_append_left (by simpa using hi),getElem?_map]at h2
   cases e:vs[i]? with
   |none=>rw[e]at h2;cases h2
   |some a=>rw[e]at h2;cases h2;rfl
  obtain⟨u,hu,rv⟩:=r.get ha
  have hp:ps[i]? =some y:=by
   rw[<-S.pre,List.getElem?_take_of_lt (by omega)];exact h1
  have ndP:ps.Nodup:=by rw[<-S.pre];exact S.nd.sublist (List.take_sublist _ _)
  refine⟨u,rv, ?_⟩
  rcases S.par y (mem_of_getElem? hp)with k|k
  ·exact .inl ⟨k,HU ndP hp hu k⟩
  ·obtain⟨c,e⟩:=LZ (n:=s.heap.objs.size+1) k
   refine .inr ⟨.inl k,c,e, ?_⟩
   have q:=x.cell y c e
   rw[IB ndP hp hu (by show scope.names.lookup y≠_;rw[k];decide)]at q
   exact q
 ·exact e0.hok.fresh (le_of_lt (x.above y c (PySem.mem_of_lookup h)))
 ·unfold start
  show _=N.length
  rw[length_append,length_map,length_replicate]
  omega
theorem bfZ{CX:CXT}{P:Program}{w:World}{K:FZ}{mg:Str->Option Value}{base:Heap}{k:Nat}{f:Addr}{name qual:Str}{params:Arguments}{body:List Stmt}{scope:Scope}{dV kV doc pm cdv ct oc:Value}{an od:Option Addr}
  {osl:Array (Option Value)}{N ps:List Str}{sp:Sp}(lk:K.lookup f=some ⟨oc,od,.func (fnOf name qual params body scope dV kV doc pm an cdv ct),osl⟩)(hcd:codeIn K cdv qual=true)(S:FnScope N ps scope)
  (len:∀vs H Q E,sp vs H Q E->vs.length=ps.length)
  (hbody:∀(A:Around) (outer:List Env) (s:Shared) (H:Hp) (vs:List V) (Q:VK) (E:XK),Room k (A.deeper (envOfC qual scope s.heap.objs.size f cdv))->sp vs H Q E->
   ∃t,PSs (MP CX P w K mg base N qual scope f cdv A outer s H E) body t/\t {nx:=λ_ H'=>Q .non H',rt:=Q} (start N vs) H):
  FnOk P w K mg base CX (k+1) f (fnOf name qual params body scope dV kV doc pm an cdv ct) ps sp:=by
 refine⟨len,λA outer s H args us vs Q E hr e0 hb r hsp=> ?_⟩
 have hl:=len _ _ _ _ hsp
 have KX:K.In s.heap:=e0.mod.kin.keeps λb o e=>(e0.bs b o e).1
 have lim:s.heap.NoLimit:=e0.mod.nolimit.keeps λb o e=>(e0.bs b o e).1
 have hkind:∀y∈ps.zip us,scope.names.lookup y.1=some .local\/(scope.names.lookup y.1=some .cell/\((cellsFrom (s.heap.objs.size+1) scope.names []).lookup y.1).isSome=true):=λ⟨n,v⟩ hy=>by
  rcases S.par n (of_mem_zip hy).1 with q|q
  ·exact .inl q
  ·exact .inr ⟨q,PySem.W.cellsFrom_some _ _ _ (.inl q)⟩
 refine codeAny_call_function hr.depth (KX _ _ lk) rfl S.co S.gen rfl (PySem.W.codeRec_of KX hcd) (hb _ _ _ _ ?_)
 refine wpAny_newFunctionEnv_cells S.kind hkind λenv he s1 x=> ?_
 subst he
 refine⟨lim.keeps x.toInCall.keep,codeAny_func ?_⟩
 obtain⟨t,ht,hq⟩:=hbody A outer s H vs Q E (hr.deeper _) hsp
 have I:Inv (MP CX P w K mg base N qual scope f cdv A outer s H E) [] (start N vs) H s1:=UB S hr.hd e0 hl r x
 refine wpAny_mono (ht [] s1 (start N vs) H _ I hq) (λfl s' hs=> ?_) λe s' hs=>hs
 have fin:∀ {σ':St} {H':Hp} {v:V} {u:Value},Inv (MP CX P w K mg base N qual scope f cdv A outer s H E) [] σ' H' s'->RelV v u->Q v H'->CE outer P w H s Q u s':=
  λ{σ' H' v u} J rv q=>⟨v,H',J.os,J.bare,J.base,J.hok,rv,q⟩
 cases fl with
 |ret u=>
  obtain⟨v,σ',H',J,rv,q⟩:=hs
  exact fin J rv q
 |next=>
  obtain⟨σ',H',J,q⟩:=hs
  exact fin (v:=V.non) (u:=Value.none) J rfl q
 |brk=>
  obtain⟨_,_,_,q⟩:=hs
  exact False.elim q
 |cont=>
  obtain⟨_,_,_,q⟩:=hs
  exact False.elim q
section
variable{X:Cx}{x:Str}{p pos:Pos}{e:Expr}{es:List Expr}{t:TA}{id T:String}{r:List V->Hp->VK->Prop}
def tCB(r:List V->Hp->VK->Prop)(t:TA):TE:=fun σ H Q=>t σ H λvs H1=>r vs H1 Q
theorem C8(hc:CallR X (.builtin id) r)(hg:Gl X x)(hm:X.mg x=none)(hv:bootBuiltins x=some (.builtin id))(ha:PA X (e::es) t)(hn:x≠ "__name__":=by decide)(hdb:(x==("__debug__":Str))=false:=by decide)
  (he:starEach (e::es) X.env=(false,eval e X.env)::starEach es X.env:=by rfl)(hpl:(backTo pos (starEach es X.env)).any (·.1)=false:=by rfl):PE X (.Call (.Name x p) (e::es) [] pos) (tCB r t):=by
 intro pins s σ H Q I h
 refine wpAny_Call_Name_kw (AJ I hg hm hv ?_ hn hdb)
 exact PyProof.Rows.callWith_builtin1 (thn (ha pos pins s σ H _ I h) λus s1 ⟨vs,H1,I1,r1,q1⟩=>hc pins s1 σ H1 vs us Q I1 r1 q1) he hpl
theorem G3(hc:CallR X (.type T) r)(hg:Gl X x)(hm:X.mg x=none)(hv:bootBuiltins x=some (.type T))(ha:PA X (e::es) t)(hn:x≠ "__name__":=by decide)(hdb:(x==("__debug__":Str))=false:=by decide)
  (he:starEach (e::es) X.env=(false,eval e X.env)::starEach es X.env:=by rfl)(hpl:(backTo pos (starEach es X.env)).any (·.1)=false:=by rfl):PE X (.Call (.Name x p) (e::es) [] pos) (tCB r t):=by
 intro pins s σ H Q I h
 refine wpAny_Call_Name_kw (AJ I hg hm hv ?_ hn hdb)
 exact callWith_type1 (thn (ha pos pins s σ H _ I h) λus s1 ⟨vs,H1,I1,r1,q1⟩=>hc pins s1 σ H1 vs us Q I1 r1 q1) he hpl
end
end L2
namespace HT
open PySem PyProof.Rows
section
open PySem.SeqAt
open PySem.AutoSeq1 (wpAny_loadPart')
open PySem.MeetsSeq PySem.MeetsSeq2 PySem.MeetsSeq3
end
section
variable{prog:Program}{w:World}{A:Around}{E:Value->Shared->Prop}{s:Shared}
theorem cat_tup{t b:Addr}{vs ws:List Value}{Q:Value->Shared->Prop}(ht:IsTup s.heap t vs.toArray)(hb:IsTup s.heap b ws.toArray)(hv:vs≠ [])
  (h1:ws=[]->Q (.ref t) s)(h2:ws≠ []->Q (.ref s.heap.objs.size) {s with heap:=s.heap.push {cls:=.type "tuple",data:=.seq (vs++ws).toArray}})
  (hsz:vs.length+ws.length<=sizeLine):wpAny (model prog w) A (binaryOp .Add (.ref t) (.ref b)) Q E s:=by
 obtain⟨⟨cls,dd,data,sl⟩,ho,hc,n,hd⟩:=id ht
 obtain⟨⟨cls2,dd2,data2,sl2⟩,ho2,hc2,n2,hd2⟩:=id hb
 simp only at hc hd hc2 hd2
 subst hc hd hc2 hd2
 have e:vs.toArray++ws.toArray=(vs++ws).toArray:=by simp
 by_cases hw:ws=[]
 ·exact concat_meets ⟨_,ho,rfl⟩ ⟨_,ho2,rfl⟩ noFill_tuple_add seq_tuple_add PySem.F.slot_tuple_add PySem.F.entry_tuple_add (PySem.F.args_tuple_add_2 _ _)
   (tuple_addW1 t b vs.toArray ws.toArray n n2 dd dd2 sl sl2 (by simpa using hv) (by simp[hw])) ⟨ho,ho2,h1 hw⟩
 ·refine concat_meets ⟨_,ho,rfl⟩ ⟨_,ho2,rfl⟩ noFill_tuple_add seq_tuple_add PySem.F.slot_tuple_add PySem.F.entry_tuple_add (PySem.F.args_tuple_add_2 _ _)
   (tuple_addW2 t b vs.toArray ws.toArray n n2 dd dd2 sl sl2 (by simpa using hv) (by simpa using hw) (by rw[size_toArray,size_toArray];exact hsz)) ⟨ho,ho2, ?_⟩
  rw[e]
  exact h2 hw
noncomputable def sIx(n d:Nat):Option Int->Nat
 |none=>d
 |some v=>if v<0 then(v+(n:Int)).toNat else min v.toNat n
theorem sIx_none(n d:Nat):sIx n d none=d:=rfl
theorem sIx_nat(n d k:Nat):sIx n d (some (k:Int))=min k n:=by
 show(if(k:Int)<0 then((k:Int)+(n:Int)).toNat else min (k:Int).toNat n)=min k n
 rw[if_neg (by omega),Int.toNat_natCast]
theorem b0Z(n d:Nat)(hd:d<=n)(o:Option Int):sIx n d o<=n:=by
 cases o with
 |none=>exact hd
 |some v=>
  show(if v<0 then(v+(n:Int)).toNat else min v.toNat n)<=n
  by_cases hv:v<0
  ·rw[if_pos hv];omega
  ·rw[if_neg hv];exact Nat.min_le_right _ _
theorem RB(v:Int)(n d:Nat):(if v<0 then max (v+(n:Int)) 0 else min v (n:Int))=((sIx n d (some v):Nat):Int):=by
 show(if v<0 then max (v+(n:Int)) 0 else min v (n:Int))=(((if v<0 then(v+(n:Int)).toNat else min v.toNat n):Nat):Int)
 by_cases hv:v<0
 ·simp only[if_pos hv];omega
 ·simp only[if_neg hv];omega
theorem PU(lo hi:Option Int)(n:Nat):Builtin.Slice.sliceAdjust lo hi 1 (n:Int)=(((sIx n 0 lo:Nat):Int),((sIx n n hi:Nat):Int)):=by
 have h1:¬((1:Int)<0):=by omega
 unfold Builtin.Slice.sliceAdjust
 simp only[h1,if_false]
 refine Prod.ext ?_ ?_
 ·cases lo with
  |none=>rfl
  |some v=>exact RB v n 0
 ·cases hi with
  |none=>rfl
  |some v=>exact RB v n n
theorem QC(i j:Nat):Builtin.Slice.slicePlaces (i:Int) (j:Int) 1=j - i:=by
 unfold Builtin.Slice.slicePlaces
 have h1:(1:Int)>0:=by omega
 simp only[h1,if_true,Int.ediv_one]
 split<;>omega
theorem GH{v:Value}{o:Option Int}{Q:Option Int->Shared->Prop}(p:IsPart v o)(h:Q o s):wpAny (model prog w) A (Builtin.Slice.slicePartIndex v) Q E s:=by
 cases p with
 |none=>exact slicePart_none h
 |int i t=>exact slicePart_int h
theorem T3{sl:Addr}{vl vu:Value}{lo hi:Option Int}{n:Nat}{Q:Int×Int×Nat->Shared->Prop}(hs:s.heap.IsSliceOf sl vl vu .none)(pl:IsPart vl lo)(pu:IsPart vu hi)
  (h:Q (((sIx n 0 lo:Nat):Int),1,sIx n n hi - sIx n 0 lo) s):wpAny (model prog w) A (Builtin.Slice.sliceApplied (.ref sl) (pure (n:Int))) Q E s:=by
 obtain⟨os,hos,hcs,hds⟩:=id hs
 unfold Builtin.Slice.sliceApplied Builtin.Slice.sliceFields
 refine bZ (bZ (wpAny_field hos hds (x:=vl) rfl (bZ (wpAny_field hos hds (x:=vu) rfl (bZ (wpAny_field hos hds (x:=.none) rfl (pZ ?_)))))))
 refine bZ (slicePart_none ?_)
 show wpAny _ _ (if((1:Int)==0)=true then _ else _) _ _ s
 rw[if_neg (by decide)]
 refine bZ (GH pl (bZ (GH pu (bZ (pZ ?_)))))
 show wpAny _ _ (match Builtin.Slice.sliceAdjust lo hi 1 (n:Int)with|(lo,hi)=>pure (lo,(1:Int),Builtin.Slice.slicePlaces lo hi 1)) _ _ s
 rw[PU lo hi n]
 show wpAny _ _ (pure (((sIx n 0 lo:Nat):Int),(1:Int),Builtin.Slice.slicePlaces ((sIx n 0 lo:Nat):Int) ((sIx n n hi:Nat):Int) 1)) _ _ s
 rw[QC]
 exact pZ h
theorem XM(xs:Array Value)(i k:Nat):((List.range k).filterMap λ(m:Nat)=>xs[((i:Int)+(m:Int)*1).toNat]?).toArray=((xs.toList.drop i).take k).toArray:=by
 have e:(λ(m:Nat)=>xs[((i:Int)+(m:Int)*1).toNat]?)=λm=>xs[i+m]? :=by
  funext m
  have:((i:Int)+(m:Int)*1).toNat=i+m:=by omega
  rw[this]
 rw[e]
 have:=pick_run xs i k
 rw[List.filterMap_map]at this
 have e2:((λx=>xs[x]?)∘λx=>i+x)=λm=>xs[i+m]? :=rfl
 rw[e2]at this
 rw[this]
theorem getItem_tuple_cut{t sl:Addr}{items:Array Value}{vl vu:Value}{lo hi:Option Int}{Q:Value->Shared->Prop}(ht:IsTup s.heap t items)(hs:s.heap.IsSliceOf sl vl vu .none)(pl:IsPart vl lo)(pu:IsPart vu hi)
  (hw:¬(sIx items.size 0 lo=0/\sIx items.size items.size hi=items.size))
  (h:Q (.ref s.heap.objs.size) {s with heap:=s.heap.push {cls:=.type "tuple",data:=.seq ((items.toList.drop (sIx items.size 0 lo)).take (sIx items.size items.size hi - sIx items.size 0 lo)).toArray}})
  (hsz:items.size<=sizeLine):wpAny (model prog w) A (getItem (.ref t) (.ref sl)) Q E s:=by
 have htake:sizeOk (.seq ((items.toList.drop (sIx items.size 0 lo)).take (sIx items.size items.size hi - sIx items.size 0 lo)).toArray):=by
  show((items.toList.drop (sIx items.size 0 lo)).take (sIx items.size items.size hi - sIx items.size 0 lo)).toArray.size<=sizeLine
  rw[size_toArray,length_take,length_drop,Array.length_toList]
  omega
 have hj:sIx items.size items.size hi<=items.size:=b0Z _ _ (Nat.le_refl _) hi
 obtain⟨os,hos,hcs,hds⟩:=id hs
 have hTs:s.TypeIs (.ref sl) "slice":=⟨os,hos,hcs⟩
 unfold getItem
 try with_reducible refine wpAny_holding ?_
 first|refine bZ (pZ ?_)|skip
 refine bZ (wpAny_sequenceKey ht.typeIs (by decide) ?_)
 refine bZ (wpAny_callSpecial?_slot (name:=Str.ofString "__getitem__") ht.typeIs PyProof.Rows.slot_tuple_getitem
  (wpAny_call_entry PyProof.Rows.slot_tuple_getitem ht.typeIs entry_tuple_getitem ?_ (args_tuple_getitem _ _)))
 show wpAny _ _ (Builtin.Tuple.tupleItemsOf (.ref t)>>=_) _ _ s
 refine bZ (tupleItemsOf_ ht ?_)
 refine bZ (wpAny_typeOf hTs ?_)
 rw[if_pos (by decide)]
 refine bZ (T3 hs pl pu ?_)
 have hno:¬((((sIx items.size 0 lo:Nat):Int)==0&&(1:Int)==1&&(sIx items.size items.size hi - sIx items.size 0 lo)==items.size)=true):=by
  intro q
  rw[Bool.and_eq_true,Bool.and_eq_true]at q
  have q1:((sIx items.size 0 lo:Nat):Int)=0:=eq_of_beq q.1.1
  have q2:sIx items.size items.size hi - sIx items.size 0 lo=items.size:=eq_of_beq q.2
  exact hw ⟨by omega,by omega⟩
 show wpAny _ _ (if(((sIx items.size 0 lo:Nat):Int)==0&&(1:Int)==1&&(sIx items.size items.size hi - sIx items.size 0 lo)==items.size)=true then _ else _) _ _ s
 rw[if_neg hno,XM]
 first
  |exact bZ (m:=Builtin.Tuple.tupleExact _) (wpAny_newObj_type (pZ ⟨_,rfl,pZ h⟩) htake)
  |exact bZ (m:=Builtin.Tuple.tupleExact _) (wpAny_newObj_type (bZ (pZ (pZ ⟨_,rfl,pZ h⟩))) htake)
  |exact bZ (bZ (m:=Builtin.Tuple.tupleExact _) (wpAny_newObj_type (pZ (pZ ⟨_,rfl,pZ h⟩)) htake))
  |exact bZ (bZ (m:=Builtin.Tuple.tupleExact _) (wpAny_newObj_type (pZ ⟨_,rfl,pZ h⟩) htake))
end
end HT
namespace L2
open PySem PySem.Spec PyProof.Rows
abbrev TO:=St->Hp->(Option Int->Hp->Prop)->Prop
def PO(X:Cx)(e:Option Expr)(t:TO):Prop:=
 ∀(pins:List (Addr×Obj)) (s:Shared) (σ:St) (H:Hp) (Q:Option Int->Hp->Prop),Inv X pins σ H s->t σ H Q->
  wpAny (model X.prog X.w) X.A (evalPart e X.env) (λu s'=>∃o H',Inv X pins σ H' s'/\IsPart u o/\Q o H') X.xe s
def ZS:TO:=λ_ H Q=>Q none H
def duZ(t:TE):TO:=fun σ H Q=>t σ H λx H1=>∃i,x=.int i/\Q (some i) H1
theorem PM{ns:List Int}:∀ {us:List Value},Vals (ns.map V.int) us->IntsAre us ns:=by
 induction ns with
 |nil=>intro us r;rw[map_nil]at r;cases r;exact .nil
 |cons n ns ih=>
  intro us r
  rw[map_cons]at r
  cases r with
  |cons r1 r2=>
   obtain⟨t,e⟩:=r1
   subst e
   exact .cons n t (ih r2)
section
variable{X:Cx}{e:Expr}{te:TE}{lo hi:Option Expr}{tl th:TO}{pos p2:Pos}
theorem N7:PO X none ZS:=by
 intro pins s σ H Q I h
 rw[evalPart_none]
 exact pZ ⟨none,H,I,.none,h⟩
theorem J0(h:PE X e te):PO X (some e) (duZ te):=by
 intro pins s σ H Q I hw
 rw[evalPart_some]
 refine thn (h pins s σ H _ I hw) λu s1 ⟨x,H1,I1,r1,q1⟩=> ?_
 obtain⟨i,rfl,q⟩:=q1
 obtain⟨t,rfl⟩:=r1
 exact⟨some i,H1,I1,.int i t,q⟩
def SlR(X:Cx)(r:V->Option Int->Option Int->Hp->VK->Prop):Prop:=
 ∀(pins:List (Addr×Obj)) (s:Shared) (σ:St) (H:Hp) (x:V) (v vl vu:Value) (lo hi:Option Int) (sl:Addr) (Q:VK),Inv X pins σ H s->RelV x v->s.heap.IsSliceOf sl vl vu .none->IsPart vl lo->IsPart vu hi->r x lo hi H Q->
  ∃T id,typeLookup (.type T) "__getitem__"=pure (some (.builtin id))/\s.TypeIs v T/\wpAny (model X.prog X.w) X.A (getItem v (.ref sl)) (EP X pins σ Q) X.xe s
theorem SlR.or{r r':V->Option Int->Option Int->Hp->VK->Prop}(h:SlR X r)(h':SlR X r'):SlR X (λx lo hi H Q=>r x lo hi H Q\/r' x lo hi H Q):=by
 intro pins s σ H x v vl vu lo hi sl Q I rx hs pl pu q
 rcases q with q|q
 ·exact h pins s σ H x v vl vu lo hi sl Q I rx hs pl pu q
 ·exact h' pins s σ H x v vl vu lo hi sl Q I rx hs pl pu q
def tSl(r:V->Option Int->Option Int->Hp->VK->Prop)(te:TE)(tl th:TO):TE:=fun σ H Q=>te σ H λx H1=>tl σ H1 λl H2=>th σ H2 λu H3=>r x l u H3 Q
theorem J1{r:V->Option Int->Option Int->Hp->VK->Prop}(hr:SlR X r)(he:PE X e te)(hl:PO X lo tl)(hu:PO X hi th):PE X (.Subscript e (.Slice lo hi none p2) pos) (tSl r te tl th):=by
 intro pins s σ H Q I h
 refine Subscript_ (thn (he pins s σ H _ I h) λv s1 ⟨x,H1,I1,r1,q1⟩=> ?_)
 refine wpAny_Slice (thn (hl pins s1 σ H1 _ I1 q1) λvl s2 ⟨l,H2,I2,pl,q2⟩=>thn (hu pins s2 σ H2 _ I2 q2) λvu s3 ⟨u,H3,I3,pu,q3⟩=> ?_)
 rw[evalPart_none]
 refine pZ ?_
 have I4:Inv X pins σ H3 {s3 with heap:=s3.heap.push {cls:=.type "slice",data:=.fields #[vl,vu,.none]}}:=I3.kept (t':=s3.toks) λb ob q=>gZ _ q
 obtain⟨T,id,hT,ht,hg⟩:=hr pins {s3 with heap:=s3.heap.push {cls:=.type "slice",data:=.fields #[vl,vu,.none]}} σ H3 x v vl vu l u s3.heap.objs.size Q I4 r1 (Heap.IsSliceOf.new ..) pl pu q3
 show wpAny (model X.prog X.w) X.A (subscriptTail e (.Slice lo hi none p2) v (.ref s3.heap.objs.size)) (EP X pins σ Q) X.xe {s3 with heap:=s3.heap.push {cls:=.type "slice",data:=.fields #[vl,vu,.none]}}
 exact tail_any (ops:=[.ref s3.heap.objs.size,v]) ht hT hg (by with_unfolding_all rfl)
noncomputable def K9(xs:List V)(lo hi:Option Int):List V:=(xs.drop (HT.sIx xs.length 0 lo)).take (HT.sIx xs.length xs.length hi - HT.sIx xs.length 0 lo)
theorem R8(xs:List V)(lo hi:Option Int):(K9 xs lo hi).length<=xs.length:=by
 unfold K9
 rw[length_take,length_drop]
 omega
def aLZ(K:FZ):V->Option Int->Option Int->Hp->VK->Prop:=λx lo hi H Q=>∃a xs,x=.ref a/\SqT K H a xs/\
 ¬(HT.sIx xs.length 0 lo=0/\HT.sIx xs.length xs.length hi=xs.length)/\∀p,H p=none->Q (.ref p) (upd H p (.tup (K9 xs lo hi)))
theorem bxZ:SlR X (aLZ X.K):=by
 intro pins s σ H x v vl vu lo hi sl Q I rx hs pl pu h
 obtain⟨a,xs,rfl,hx,hw,q⟩:=h
 cases rx
 obtain⟨its,r,ht,hz⟩:=I.tuple hx
 have hlen:its.toArray.size=xs.length:=by rw[size_toArray];exact r.length.symm
 refine⟨"tuple",_,PyProof.Rows.slot_tuple_getitem.lookup,ht.typeIs, ?_⟩
 refine HT.getItem_tuple_cut ht hs pl pu (by rw[hlen];exact hw) ?_ (by rw[hlen];exact hz)
 rw[hlen]
 refine⟨.ref s.heap.objs.size,_,I.laid (t':=s.toks) (o:=.tup (K9 xs lo hi)) (λb ob q=>gZ _ q) (Nat.le_refl _) ?_,rfl,q _ (I.hok.fresh (Nat.le_refl _))⟩
 exact⟨le_trans (R8 xs lo hi) hz,_,(r.drop (HT.sIx xs.length 0 lo)).take (HT.sIx xs.length xs.length hi - HT.sIx xs.length 0 lo),IsTup.new _ _⟩
def RG(K:FZ):R2:=λx y H Q=>∃a b xs ys,x=.ref a/\y=.ref b/\SqT K H a xs/\SqT K H b ys/\xs≠ []/\xs.length+ys.length<=sizeLine/\
 (ys=[]->Q (.ref a) H)/\(ys≠ []->∀p,H p=none->Q (.ref p) (upd H p (.tup (xs++ys))))
theorem Vals.nil_iff{xs:List V}{us:List Value}(r:Vals xs us):us=[]↔xs=[]:=by
 cases r with
 |nil=>simp
 |cons _ _=>simp
theorem op_catT:OpR X (binaryOp .Add) (RG X.K):=by
 intro pins s σ H x y v u Q I rx ry h
 obtain⟨a,b,xs,ys,rfl,rfl,ha,hb,hx,hz,q1,q2⟩:=h
 cases rx
 cases ry
 obtain⟨its,r1,p1,_⟩:=I.tuple ha
 obtain⟨its2,r2,p2,_⟩:=I.tuple hb
 refine HT.cat_tup p1 p2 (λz=>hx (r1.nil_iff.mp z)) (λz=>⟨.ref a,H,I,rfl,q1 (r2.nil_iff.mp z)⟩) (λz=> ?_) (by rw[<-r1.length,<-r2.length];exact hz)
 refine⟨.ref s.heap.objs.size,_,I.laid (t':=s.toks) (o:=.tup (xs++ys)) (λb ob q=>gZ _ q) (Nat.le_refl _) ?_,rfl,q2 (λw=>z (r2.nil_iff.mpr w)) _ (I.hok.fresh (Nat.le_refl _))⟩
 exact⟨by rw[length_append];exact hz,_,r1.append r2,IsTup.new _ _⟩
end
noncomputable def ixN(n:Nat)(i:Int):Option Nat:=if 0<=i then(if i<n then some i.toNat else none)else if -(n:Int)<=i then some (i+n).toNat else none
noncomputable def atI{α:Type}(xs:List α)(i:Int):Option α:=(ixN xs.length i).bind λj=>xs[j]?
theorem RH{n:Nat}{i:Int}{j:Nat}(h:ixN n i=some j):seqIndex? i n=some j/\j<n/\ -(n:Int)<=i/\i<n:=by
 unfold ixN at h
 by_cases h0:0<=i
 ·rw[if_pos h0]at h
  by_cases h1:i<n
  ·rw[if_pos h1]at h
   have e:i.toNat=j:=Option.some.inj h
   exact⟨by rw[seqIndex_of h0 h1,e],by omega,by omega,h1⟩
  ·rw[if_neg h1]at h;cases h
 ·rw[if_neg h0]at h
  by_cases h1: -(n:Int)<=i
  ·rw[if_pos h1]at h
   have e:(i+n).toNat=j:=Option.some.inj h
   exact⟨by rw[seqIndex_neg (by omega) h1,e],by omega,h1,by omega⟩
  ·rw[if_neg h1]at h;cases h
theorem KI{α:Type}{xs:List α}{i:Int}{v:α}(h:atI xs i=some v):∃j,seqIndex? i xs.length=some j/\xs[j]? =some v/\j<xs.length/\ -(xs.length:Int)<=i/\i<xs.length:=by
 unfold atI at h
 cases e:ixN xs.length i with
 |none=>rw[e]at h;cases h
 |some j=>
  rw[e]at h
  obtain⟨h1,h2,h3,h4⟩:=RH e
  exact⟨j,h1,h,h2,h3,h4⟩
theorem J2{α:Type}{xs:List α}{j:Nat}{v:α}(h:xs[j]? =some v):atI xs (j:Int)=some v:=by
 have hj:j<xs.length:=(List.getElem?_eq_some_iff.mp h).1
 have e:ixN xs.length (j:Int)=some j:=by
  unfold ixN
  rw[if_pos (by omega),if_pos (by omega)];simp
 unfold atI;rw[e];exact h
theorem M4{α:Type}(xs:List α)(v:α):atI (xs++ [v]) (-1)=some v:=by
 have hl:(xs++ [v]).length=xs.length+1:=by simp
 have e:ixN (xs++ [v]).length (-1)=some xs.length:=by
  unfold ixN
  rw[hl,if_neg (by decide),if_pos (by omega)]
  congr 1
  omega
 unfold atI
 rw[e]
 show(xs++ [v])[xs.length]? =some v
 simp
def RI(b:Expr):Prop:=∀o i,subscripted b false o i=operate [o,i] (getItem o i)
def IxR(X:Cx)(r:R2):Prop:=
 ∀(value slice:Expr) (pins:List (Addr×Obj)) (s:Shared) (σ:St) (H:Hp) (x y:V) (v u:Value) (Q:VK),Inv X pins σ H s->RelV x v->RelV y u->r x y H Q->
  subscripted slice false v u=operate [v,u] (getItem v u)->wpAny (model X.prog X.w) X.A (subscriptTail value slice v u) (EP X pins σ Q) X.xe s
def MtR(X:Cx)(id:String)(r:V->List V->Hp->VK->Prop):Prop:=
 ∀(pins:List (Addr×Obj)) (s:Shared) (σ:St) (H:Hp) (x:V) (xs:List V) (v:Value) (us:List Value) (Q:VK),Inv X pins σ H s->RelV x v->Vals xs us->r x xs H Q->
  wpAny (model X.prog X.w) X.A (call (.builtin id) (v::us)) (EP X pins σ Q) X.xe s
section
variable{X:Cx}{a b:Expr}{ta tb:TE}{pos:Pos}
theorem IxR.or{r r':R2}(h:IxR X r)(h':IxR X r'):IxR X (λx y H Q=>r x y H Q\/r' x y H Q):=by
 intro value slice pins s σ H x y v u Q I rx ry q hs
 rcases q with q|q
 ·exact h value slice pins s σ H x y v u Q I rx ry q hs
 ·exact h' value slice pins s σ H x y v u Q I rx ry q hs
theorem cZZ{r:R2}(hr:IxR X r)(ha:PE X a ta)(hb:PE X b tb)(hs:RI b):PE X (.Subscript a b pos) (tOp r ta tb):=by
 intro pins s σ H Q I h
 exact Subscript_ (b1Z ha hb I h λv u s2 x y H2 I2 rx ry q=>hr a b pins s2 σ H2 x y v u Q I2 rx ry q (hs _ _))
def UP(K:FZ):R2:=λx y H Q=>∃p xs i v,x=.ref p/\y=.int i/\SqL K H p xs/\atI xs i=some v/\Q v H
def VA(K:FZ):R2:=λx y H Q=>∃p xs i v,x=.ref p/\y=.int i/\SqT K H p xs/\atI xs i=some v/\Q v H
def SR:R2:=λx y H Q=>∃z i c,x=.str z/\y=.int i/\z.length<=sizeLine/\atI z.cps.toList i=some c/\Q (.str ⟨#[c]⟩) H
theorem ix_list:IxR X (UP X.K):=by
 intro value slice pins s σ H x y v u Q I rx ry h hs
 obtain⟨p,xs,i,z,rfl,rfl,hq,he,q⟩:=h
 cases rx
 obtain⟨t,rfl⟩:=ry
 obtain⟨its,r,pl,hz⟩:=I.list hq
 obtain⟨j,h1,h2,h3,h4,h5⟩:=KI he
 obtain⟨w,ew,rw'⟩:=r.get h2
 have hl:=r.length
 have hn:=DD
 have fin:EP X pins σ Q w s:=⟨z,H,I,rw',q⟩
 by_cases h0:0<=i
 ·have hj:i.toNat=j:=by
   rw[seqIndex_of h0 h5]at h1
   exact Option.some.inj h1
  exact item_listR pl.isList h0 (by omega) (by rw[hj];simpa using ew) fin hs
 ·have hj:(i+(its.toArray.size:Int)).toNat=j:=by
   rw[seqIndex_neg (by omega) h4]at h1
   rw[size_toArray,<-hl]
   exact Option.some.inj h1
  exact subscriptTail_builtinR (x:=w) pl.isList.typeIs slot_list_getitem.lookup
   (wpAny_getItem_list_neg (Q:=λr s'=>r=w/\EP X pins σ Q r s') pl.isList (by omega) (by rw[size_toArray]<;>omega) (by omega) (by rw[hj];simpa using ew) ⟨rfl,fin⟩) hs
theorem ix_tup:IxR X (VA X.K):=by
 intro value slice pins s σ H x y v u Q I rx ry h hs
 obtain⟨p,xs,i,z,rfl,rfl,hq,he,q⟩:=h
 cases rx
 obtain⟨t,rfl⟩:=ry
 obtain⟨its,r,pl,hz⟩:=I.tuple hq
 obtain⟨j,h1,h2,h3,h4,h5⟩:=KI he
 obtain⟨w,ew,rw'⟩:=r.get h2
 have hl:=r.length
 have hn:=DD
 have fin:EP X pins σ Q w s:=⟨z,H,I,rw',q⟩
 exact subscriptTail_builtinR (x:=w) pl.typeIs slot_tuple_getitem.lookup
  (getItem_tuple (j:=j) (Q:=λr s'=>r=w/\EP X pins σ Q r s') pl (by omega) (by omega) (by rw[size_toArray,<-hl];exact h1) (by simpa using ew) ⟨rfl,fin⟩) hs
theorem ix_str:IxR X SR:=by
 intro value slice pins s σ H x y v u Q I rx ry h hs
 obtain⟨z,i,c,rfl,rfl,hz,he,q⟩:=h
 obtain⟨t,rfl⟩:=rx
 obtain⟨t',rfl⟩:=ry
 obtain⟨j,h1,h2,h3,h4,h5⟩:=KI he
 have hl:z.cps.toList.length=z.length:=by simp[Str.length]
 rw[hl]at h1 h4 h5
 have hn:=DD
 exact tail_any (typeIs_str s z t) slot_str_getitem.lookup (getItem_str (c:=c) (by
  have e1:decide (i< -(2^63:Int))=false:=decide_eq_false (by omega)
  have e2:decide (i≥2^63)=false:=decide_eq_false (by omega)
  rw[e1,e2,Bool.or_false]) (by rw[h1];simpa using h2) ⟨.str ⟨#[c]⟩,H,I.tok _,⟨_,rfl⟩,q⟩) hs
theorem OT(its:List Value)(n j:Nat)(u:Value):Obj.mapSeq (·.setIfInBounds j u) {cls:=.type "list",data:=.seq its.toArray n}={cls:=.type "list",data:=.seq (its.set j u).toArray n}:=by
 simp[Obj.mapSeq]
theorem Inv.lst{pins:List (Addr×Obj)}{σ:St}{H:Hp}{s:Shared}{p:Addr}{xs:List V}(I:Inv X pins σ H s)(h:H p=some (.lst xs)):
  ∃(its:List Value) (n:Nat),Vals xs its/\s.heap.get? p=some {cls:=.type "list",data:=.seq its.toArray n}/\xs.length<=sizeLine:=by
 obtain⟨z,its,n,r,e⟩:=I.hok p _ h
 exact⟨its,n,r,e,z⟩
theorem Inv.lstUpd{pins:List (Addr×Obj)}{σ:St}{H:Hp}{s:Shared}{p:Addr}{xs ys:List V}{its its':List Value}{n n':Nat}{f:Obj->Obj}(I:Inv X pins σ H s)(h:H p=some (.lst xs))
  (ho:s.heap.get? p=some {cls:=.type "list",data:=.seq its.toArray n})(hf:f {cls:=.type "list",data:=.seq its.toArray n}={cls:=.type "list",data:=.seq its'.toArray n'})(r:Vals ys its')(hz:ys.length<=sizeLine)(t:Nat):
  Inv X pins σ (upd H p (.lst ys)) {s with heap:=s.heap.update p f,toks:=t}:=by
 have e:(s.heap.update p f).get? p=some {cls:=.type "list",data:=.seq its'.toArray n'}:=by
  rw[get?_update_self f ho (by rw[hf]<;>rfl),hf]
 refine I.write (x:=p) (e:=p) (by rw[h];trivial) (.inl rfl) (λb u hb q=>(get?_update_other _ _ (Ne.symm hb)).trans q) ⟨_,e⟩ ?_
 exact⟨hz,its',n',r,e⟩
def dcZ:V->V->V->Hp->(Hp->Prop)->Prop:=λo i v H Q=>∃p xs k j,o=.ref p/\i=.int k/\H p=some (.lst xs)/\ixN xs.length k=some j/\Q (upd H p (.lst (xs.set j v)))
theorem GY:bsZ X dcZ:=by
 intro pins s σ H o i v ov iv u Q I ro ri rv h
 obtain⟨p,xs,k,j,rfl,rfl,hp,hj,q⟩:=h
 cases ro
 obtain⟨t,rfl⟩:=ri
 obtain⟨its,n,r,ho,hz⟩:=I.lst hp
 obtain⟨h1,h2,h3,h4⟩:=RH hj
 have hl:=r.length
 have hn:=DD
 have I':Inv X pins σ (upd H p (.lst (xs.set j v))) {s with heap:=s.heap.update p (Obj.mapSeq (·.setIfInBounds j u))}:=
  I.lstUpd hp ho (OT its n j u) (r.set rv j) (by rw[List.length_set];exact hz) s.toks
 by_cases h0:0<=k
 ·have hk:k.toNat=j:=by
   rw[seqIndex_of h0 h4]at h1
   exact Option.some.inj h1
  exact PySem.W.ki_setAt ho h0 (by omega) (by rw[size_toArray,<-hl];exact h4) (by rw[hk];exact⟨_,I',q⟩)
 ·have hk:(k+(its.toArray.size:Int)).toNat=j:=by
   rw[seqIndex_neg (by omega) h3]at h1
   rw[size_toArray,<-hl]
   exact Option.some.inj h1
  exact PySem.W.ki_setBack ho (by omega) (by rw[size_toArray,<-hl];exact h3) (by omega) (by rw[hk];exact⟨_,I',q⟩)
theorem JQ(lo hi:Option Int)(n:Nat):(sliceBounds lo hi none n).1=((HT.sIx n 0 lo:Nat):Int)/\(sliceBounds lo hi none n).2.1=((HT.sIx n n hi:Nat):Int)/\(sliceBounds lo hi none n).2.2=1:=by
 refine⟨?_, ?_,rfl⟩
 ·cases lo with
  |none=>simp[sliceBounds,HT.sIx]
  |some i=>
   simp only[sliceBounds,HT.sIx,Option.getD_none,show(1:Int)>0 by decide,if_true]
   by_cases h:i<0
   ·simp only[h,if_true]<;>omega
   ·simp only[h,if_false]<;>omega
 ·cases hi with
  |none=>simp[sliceBounds,HT.sIx]
  |some i=>
   simp only[sliceBounds,HT.sIx,Option.getD_none,show(1:Int)>0 by decide,if_true]
   by_cases h:i<0
   ·simp only[h,if_true]<;>omega
   ·simp only[h,if_false]<;>omega
theorem HK(its:List Value)(lo hi:Option Int):slicePick its.toArray lo hi none=((its.drop (HT.sIx its.length 0 lo)).take (HT.sIx its.length its.length hi - HT.sIx its.length 0 lo)).toArray:=by
 obtain⟨h1,h2,h3⟩:=JQ lo hi its.toArray.size
 unfold slicePick
 rw[h1,h2,h3]
 simp only[sliceRange_one,pick_run,size_toArray]<;>rfl
def ZP(K:FZ):V->Option Int->Option Int->Hp->VK->Prop:=λx lo hi H Q=>∃a xs,x=.ref a/\SqL K H a xs/\∀p,H p=none->Q (.ref p) (upd H p (.lst (K9 xs lo hi)))
theorem sl_list:SlR X (ZP X.K):=by
 intro pins s σ H x v vl vu lo hi sl Q I rx hs pl pu h
 obtain⟨a,xs,rfl,hx,q⟩:=h
 cases rx
 obtain⟨its,r,ht,hz⟩:=I.list hx
 have hlen:=r.length
 refine⟨"list",_,slot_list_getitem.lookup,ht.isList.typeIs, ?_⟩
 refine wpAny_getItem_list_slice ht.isList hs pl pu .none (by simp) ?_ (by rw[size_toArray]<;>omega)
 rw[HK,<-hlen]
 refine⟨.ref s.heap.objs.size,_,I.laid (t':=s.toks) (o:=.lst (K9 xs lo hi)) (λb ob q=>gZ _ q) (Nat.le_refl _) ?_,rfl,q _ (I.hok.fresh (Nat.le_refl _))⟩
 exact⟨le_trans (R8 xs lo hi) hz,_,0,(r.drop (HT.sIx xs.length 0 lo)).take (HT.sIx xs.length xs.length hi - HT.sIx xs.length 0 lo),get?_push_size _ rfl⟩
def DU:V->Bool
 | .non=>true
 | .bl _=>true
 | .int _=>true
 | .str _=>true
 |_=>false
noncomputable def eqV:V->V->Bool
 | .non,.non=>true
 | .bl a,.bl b=>a==b
 | .bl a,.int b=>(if a then 1 else 0)==b
 | .int a,.bl b=>a==(if b then 1 else 0)
 | .int a,.int b=>a==b
 | .str a,.str b=>a==b
 |_,_=>false
theorem bVZ{A:Around}{s:Shared}{y x:V}{u v:Value}(ry:RelV y u)(rx:RelV x v)(fy:DU y=true)(fx:DU x=true):SeqAt.EqAt A s u v (eqV y x):=by
 cases y with
 |non=>
  cases ry
  cases x with
  |non=>cases rx;exact SeqAt.EqAt.same _
  |bl b=>cases rx;exact SeqAt.EqAt.none_bool b
  |int b=>obtain⟨t,rfl⟩:=rx;exact SeqAt.EqAt.none_int b t
  |str b=>obtain⟨t,rfl⟩:=rx;exact SeqAt.EqAt.none_str b t
  |_=>exact absurd (show false=true from fx) nZ
 |bl a=>
  cases ry
  cases x with
  |non=>cases rx;exact SeqAt.EqAt.bool_none a
  |bl b=>cases rx;exact SeqAt.EqAt.bool_bool a b
  |int b=>obtain⟨t,rfl⟩:=rx;exact SeqAt.EqAt.bool_int a b t
  |str b=>obtain⟨t,rfl⟩:=rx;exact SeqAt.EqAt.bool_str a b t
  |_=>exact absurd (show false=true from fx) nZ
 |int a=>
  obtain⟨t',rfl⟩:=ry
  cases x with
  |non=>cases rx;exact SeqAt.EqAt.int_none a t'
  |bl b=>cases rx;exact SeqAt.EqAt.int_bool a t' b
  |int b=>obtain⟨t,rfl⟩:=rx;exact SeqAt.EqAt.int_int a t' b t
  |str b=>obtain⟨t,rfl⟩:=rx;exact SeqAt.EqAt.int_str a t' b t
  |_=>exact absurd (show false=true from fx) nZ
 |str a=>
  obtain⟨t',rfl⟩:=ry
  cases x with
  |non=>cases rx;exact SeqAt.EqAt.str_none a t'
  |bl b=>cases rx;exact SeqAt.EqAt.str_bool a t' b
  |int b=>obtain⟨t,rfl⟩:=rx;exact SeqAt.EqAt.str_int a t' b t
  |str b=>obtain⟨t,rfl⟩:=rx;exact SeqAt.EqAt.str_str a t' b t
  |_=>exact absurd (show false=true from fx) nZ
 |_=>exact absurd (show false=true from fy) nZ
noncomputable def eqU(x:V)(u:Value):Bool:=match u with
 | .none=>eqV .non x
 | .bool b=>eqV (.bl b) x
 | .int i _=>eqV (.int i) x
 | .str z _=>eqV (.str z) x
 |_=>false
theorem XT{x y:V}{u:Value}(r:RelV y u)(f:DU y=true):eqU x u=eqV y x:=by
 cases y with
 |non=>cases r;rfl
 |bl b=>cases r;rfl
 |int i=>obtain⟨t,rfl⟩:=r;rfl
 |str z=>obtain⟨t,rfl⟩:=r;rfl
 |_=>exact absurd (show false=true from f) nZ
theorem KP{x:V}:∀ {xs:List V} {us:List Value},Vals xs us->xs.all DU=true->us.any (eqU x)=xs.any λy=>eqV y x
 |_,_,.nil,_=>rfl
 |y::xs,u::us,.cons r t,f=>by
  rw[List.all_cons,Bool.and_eq_true]at f
  rw[any_cons,any_cons,XT r f.1,KP t f.2]
theorem GL{A:Around}{s:Shared}{x:V}{v:Value}(rx:RelV x v)(fx:DU x=true):∀ {xs:List V} {us:List Value},Vals xs us->xs.all DU=true->∀u∈us,SeqAt.EqAt A s u v (eqU x u)
 |_,_,.nil,_=>λu hu=>by cases hu
 |y::xs,u::us,.cons r t,f=>λu' hu=>by
  rw[List.all_cons,Bool.and_eq_true]at f
  rcases cZ hu with rfl|hu
  ·rw[XT r f.1];exact bVZ r rx f.1 fx
  ·exact GL rx fx t f.2 u' hu
noncomputable def inV(x:V)(xs:List V):Bool:=xs.any λy=>eqV y x
def rIn(K:FZ)(neg:Bool):R2:=λx y H Q=>∃p xs,y=.ref p/\(SqL K H p xs\/SqT K H p xs)/\DU x=true/\xs.all DU=true/\Q (.bl (if neg then !inV x xs else inV x xs)) H
theorem op_in_seq:OpR X (compareOp .In) (rIn X.K false):=by
 intro pins s σ H x y v u Q I rx ry h
 obtain⟨p,xs,rfl,hq,fx,fs,q⟩:=h
 cases ry
 rcases hq with hq|hq
 ·obtain⟨its,r,pl,hz⟩:=I.list hq
  refine SeqAt.in_listAt (eqU x) pl.isList (λw hw=>GL rx fx r fs w (by simpa using hw)) ⟨.bl _,H,I,rfl, ?_⟩
  rw[show its.toArray.any (eqU x)=its.any (eqU x) by simp,KP r fs]
  exact q
 ·obtain⟨its,r,pl,hz⟩:=I.tuple hq
  refine SeqAt.in_tupleAt (eqU x) pl (λw hw=>GL rx fx r fs w (by simpa using hw)) ⟨.bl _,H,I,rfl, ?_⟩
  rw[show its.toArray.any (eqU x)=its.any (eqU x) by simp,KP r fs]
  exact q
theorem CallR.or{f:Value}{r r':List V->Hp->VK->Prop}(h:CallR X f r)(h':CallR X f r'):CallR X f (λxs H Q=>r xs H Q\/r' xs H Q):=by
 intro pins s σ H xs us Q I rs q
 rcases q with q|q
 ·exact h pins s σ H xs us Q I rs q
 ·exact h' pins s σ H xs us Q I rs q
theorem KE:CallR X (.type "list") (λxs H Q=>∃p ys,xs=[.ref p]/\(SqL X.K H p ys\/SqT X.K H p ys)/\∀l,H l=none->Q (.ref l) (upd H l (.lst ys))):=by
 intro pins s σ H xs us Q I r h
 obtain⟨p,ys,rfl,hq,q⟩:=h
 obtain⟨u,rfl,rx⟩:=R7 r
 cases rx
 have fin:∀(its:List Value),Vals ys its->ys.length<=sizeLine->∀(h':Heap) (c':Nat),(∀b o',s.heap.get? b=some o'->h'.get? b=some o')->
   h'.get? s.heap.objs.size=some {cls:=.type "list",dict:=none,data:=.seq its.toArray c',slots:= #[]}->EP X pins σ Q (.ref s.heap.objs.size) {s with heap:=h'}:=λits r' hz h' c' kp e=>
  ⟨.ref s.heap.objs.size,_,I.laid (t':=s.toks) kp (Nat.le_refl _) (show ObjOk X.prog X.w _ h' _ (.lst ys)from⟨hz,its,c',r',e⟩),rfl,q _ (I.hok.fresh (Nat.le_refl _))⟩
 rcases hq with hq|hq
 ·obtain⟨its,r',pl,hz⟩:=I.list hq
  have hlen:=r'.length
  obtain⟨o,ho,hc,n,hd⟩:=pl.isList
  exact call_list_seq p (.inl rfl) ho hc hd (λh' c' kp e=>fin its r' hz h' c' kp e) (by simp only[size_toArray]<;>omega)
 ·obtain⟨its,r',pl,hz⟩:=I.tuple hq
  have hlen:=r'.length
  obtain⟨o,ho,hc,n,hd⟩:=pl
  exact call_list_seq p (.inr rfl) ho hc hd (λh' c' kp e=>fin its r' hz h' c' kp e) (by simp only[size_toArray]<;>omega)
theorem HM:CallR X (.type "tuple") (λxs H Q=>∃p ys,xs=[.ref p]/\((SqL X.K H p ys/\∀l,H l=none->Q (.ref l) (upd H l (.tup ys)))\/(SqT X.K H p ys/\Q (.ref p) H))):=by
 intro pins s σ H xs us Q I r h
 obtain⟨p,ys,rfl,h⟩:=h
 obtain⟨u,rfl,rx⟩:=R7 r
 cases rx
 rcases h with⟨hq,q⟩|⟨hq,q⟩
 ·obtain⟨its,r',pl,hz⟩:=I.list hq
  have hlen:=r'.length
  refine call_tuple_list pl.isList (λh' kp=> ?_) (by simp only[size_toArray]<;>omega)
  have I1:Inv X pins σ H {s with heap:=h'}:=I.kept (t':=s.toks) kp
  have I2:Inv X pins σ (upd H h'.objs.size (.tup ys)) {s with heap:=h'.push {cls:=.type "tuple",data:=.seq its.toArray}}:=
   I1.laid (t':=s.toks) (λb o e=>gZ _ e) (Nat.le_refl _) (show ObjOk X.prog X.w _ _ _ (.tup ys)from⟨hz,its,r',IsTup.new _ _⟩)
  exact⟨.ref h'.objs.size,_,I2,rfl,q _ (I1.hok.fresh (Nat.le_refl _))⟩
 ·obtain⟨its,r',pl,hz⟩:=I.tuple hq
  exact call_tuple_same pl ⟨.ref p,H,I,rfl,q⟩
def tyV(K:FZ)(T:String)(x:V)(H:Hp):Prop:=match x with
 | .str _=>T="str"
 | .int _=>T="int"
 | .ref p=>(T="list"/\∃xs,SqL K H p xs)\/(T="tuple"/\∃o,K.lookup p=some o/\o.cls=.type "tuple"/\o.dict=none)\/
   (T="dict"/\((∃kvs,H p=some (.dK kvs))\/∃kvs,H p=some (.dT kvs)))\/(T="set"/\∃S n,H p=some (.set S n))
 |_=>False
theorem YO{pins:List (Addr×Obj)}{σ:St}{H:Hp}{s:Shared}{T:String}{x:V}{v:Value}(I:Inv X pins σ H s)(r:RelV x v)(ty:tyV X.K T x H):
  s.TypeIs v T/\∀a,v=.ref a->∃ob,s.heap.get? a=some ob/\ob.dict=none:=by
 cases x with
 |str z=>
  obtain⟨t,rfl⟩:=r
  cases(show T="str"from ty)
  exact⟨typeIs_str s z t,λ_ e=>nomatch e⟩
 |int i=>
  obtain⟨t,rfl⟩:=r
  cases(show T="int"from ty)
  exact⟨typeIs_int s i t,λ_ e=>nomatch e⟩
 |ref p=>
  cases r
  rcases ty with⟨rfl,xs,hq⟩|⟨rfl,o,hk,hc,hd⟩|⟨rfl,hk⟩|⟨rfl,S,n,hk⟩
  ·obtain⟨its,_,pl,_⟩:=I.list hq
   refine⟨pl.isList.typeIs,λa e=> ?_⟩
   cases e
   obtain⟨o,n,e,c,hd,_⟩:=pl
   exact⟨o,e,hd⟩
  ·refine⟨⟨o,I.kIn p o hk,hc⟩,λa e=> ?_⟩
   cases e
   exact⟨o,I.kIn _ o hk,hd⟩
  ·have z:∃o,s.heap.get? p=some o/\o.ExactDict:=by
    rcases hk with⟨kvs,hk⟩|⟨kvs,hk⟩
    ·obtain⟨_,_,_,_,o,_,_,e,ex,_⟩:=I.hok p _ hk
     exact⟨o,e,ex⟩
    ·obtain⟨_,_,_,_,o,_,_,e,ex,_⟩:=I.hok p _ hk
     exact⟨o,e,ex⟩
   obtain⟨o,e,ex⟩:=z
   refine⟨⟨o,e,ex.1⟩,λa e2=> ?_⟩
   cases e2
   exact⟨o,e,ex.2.1⟩
  ·obtain⟨o,_,_,_,e,ex,_⟩:=I.hok p _ hk
   refine⟨⟨o,e,ex.1⟩,λa e2=> ?_⟩
   cases e2
   exact⟨o,e,ex.2.1⟩
 |_=>exact False.elim ty
def cOZ(K:FZ)(T:String)(r:V->List V->Hp->VK->Prop)(to:TE):TE:=fun σ H Q=>to σ H λx H1=>tyV K T x H1/\r x [] H1 Q
def tBM(K:FZ)(T:String)(r:V->List V->Hp->VK->Prop)(to:TE)(t:TA):TE:=fun σ H Q=>to σ H λx H1=>tyV K T x H1/\t σ H1 λxs H2=>r x xs H2 Q
variable{o e:Expr}{es:List Expr}{to:TE}{t:TA}{name:Str}{apos cpos:Pos}{T id:String}{r:V->List V->Hp->VK->Prop}
theorem b6Z(pa:PlainAttrs T)(slot:Slot T name id)(hty:typeOf (.builtin id)=pure (.type "method_descriptor"))(hm:MtR X id r)(ho:PE X o to)
  (hbase:attributeBase o name X.env (eval o X.env)=eval o X.env:=by rfl)(hline:(apos.endLine==cpos.line)=true:=by rfl):PE X (.Call (.Attribute o name apos) [] [] cpos) (cOZ X.K T r to):=by
 intro pins s σ H Q I h
 refine wpAny_Call_method0_late hbase hline (thn (ho pins s σ H _ I h) λv s1 ⟨x,H1,I1,r1,ty,q1⟩=> ?_)
 obtain⟨h1,h2⟩:=YO I1 r1 ty
 exact⟨T,id,pa,slot,hty,h1,h2,Calls.callWith_builtin rfl (PySem.evalArgs_none (hm pins s1 σ H1 x [] v [] Q I1 r1 .nil q1))⟩
theorem cMZ(pa:PlainAttrs T)(slot:Slot T name id)(hty:typeOf (.builtin id)=pure (.type "method_descriptor"))(hm:MtR X id r)(ho:PE X o to)(ha:PA X (e::es) t)
  (hbase:attributeBase o name X.env (eval o X.env)=eval o X.env:=by rfl)
  (hfew:((backTo cpos (starEach (e::es) X.env)).all (λx=> !x.1)&&(backToKw cpos (keywordEach [] X.env)).all (λx=>x.1.isSome)
   &&decide ((e::es).length+([]:List Keyword).length+(if([]:List Keyword).isEmpty then 0 else 1)<30))=true:=by rfl)
  (hline:(apos.endLine==cpos.line)=true:=by rfl)(hs:starEach (e::es) X.env=(false,eval e X.env)::starEach es X.env:=by rfl)(hplain:(backTo cpos (starEach es X.env)).any (·.1)=false:=by rfl):
  PE X (.Call (.Attribute o name apos) (e::es) [] cpos) (tBM X.K T r to t):=by
 intro pins s σ H Q I h
 refine wpAny_Call_method_late hbase hfew hline rfl (thn (ho pins s σ H _ I h) λv s1 ⟨x,H1,I1,r1,ty,q1⟩=> ?_)
 obtain⟨h1,h2⟩:=YO I1 r1 ty
 refine⟨T,id,pa,slot,hty,h1,h2, ?_⟩
 have hA:=ha cpos pins s1 σ H1 _ I1 q1
 rw[hs]at hA⊢
 refine Calls.callWith_builtin (by show(false||(backTo cpos (starEach es X.env)).any (·.1))=false;rw[hplain]<;>rfl) (Calls.evalArgs_plain ?_)
 exact thn hA λus s2 ⟨vs,H2,I2,r2,q2⟩=>hm pins s2 σ H2 x vs v us Q I2 r1 r2 q2
end
def MtM(X:Cx)(id:String)(r:V->List V->Hp->VK->Prop):Prop:=
 ∀(pins:List (Addr×Obj)) (s:Shared) (σ:St) (H:Hp) (x:V) (xs:List V) (v:Value) (us:List Value) (Q:VK),Inv X pins σ H s->RelV x v->Vals xs us->r x xs H Q->
  wpAny (model X.prog X.w) X.A (call (.builtin id) (v::us)) (EP X pins σ Q) X.xe s
theorem Vals.one:∀ {x:V} {us:List Value},Vals [x] us->∃u,us=[u]/\RelV x u
 |_,_,.cons r .nil=>⟨_,rfl,r⟩
theorem Vals.zero:∀ {us:List Value},Vals [] us->us=[]
 |_,.nil=>rfl
theorem Vals.dropLast{xs:List V}{us:List Value}(h:Vals xs us):Vals xs.dropLast us.dropLast:=by
 induction h with
 |nil=>exact .nil
 |cons r t ih=>
  cases t with
  |nil=>exact .nil
  |cons q t'=>exact .cons r ih
theorem Vals.rep{xs:List V}{us:List Value}(h:Vals xs us):∀k:Nat,Vals (List.replicate k xs).flatten (List.replicate k us).flatten
 |0=> .nil
 |k+1=>by
  rw[replicate_succ,replicate_succ,flatten_cons,flatten_cons]
  exact Vals.append h (Vals.rep h k)
theorem OX{α:Type}(l:List α):l.eraseIdx (l.length - 1)=l.dropLast:=by
 induction l with
 |nil=>rfl
 |cons a r ih=>
  cases r with
  |nil=>rfl
  |cons b r=>
   have e:(a::b::r).length - 1=((b::r).length - 1)+1:=by
    have h1:(a::b::r).length=r.length+2:=rfl
    have h2:(b::r).length=r.length+1:=rfl
    omega
   rw[e,List.eraseIdx_cons_succ,ih]
   all_goals rfl
theorem foldl_rep(its:List Value):∀(k:Nat) (acc:List Value),
  List.foldl (λx1 x2=>x1++x2) acc.toArray (List.replicate k its.toArray)=(acc++(List.replicate k its).flatten).toArray
 |0,acc=>by simp
 |k+1,acc=>by
  have e:acc.toArray++its.toArray=(acc++its).toArray:=by simp
  have e2:(acc++its)++(List.replicate k its).flatten=acc++(List.replicate (k+1) its).flatten:=by
   rw[replicate_succ,flatten_cons,List.append_assoc]
  rw[<-e2,<-foldl_rep its k (acc++its),<-e,replicate_succ,List.foldl_cons]
section
variable{X:Cx}{pins:List (Addr×Obj)}{σ:St}{H:Hp}{s:Shared}{l b:Addr}{xs ys zs:List V}
theorem Inv.lset{its its':List Value}{n:Nat}{f:Array Value->Array Value}{t':Nat}(I:Inv X pins σ H s)(hH:H l=some (.lst xs))
  (e:s.heap.get? l=some {cls:=.type "list",data:=.seq its.toArray n})(hf:f its.toArray=its'.toArray)(hv:Vals ys its')(hz:ys.length<=sizeLine):
  Inv X pins σ (upd H l (.lst ys)) {s with heap:=s.heap.update l (Obj.mapSeq f),toks:=t'}:=by
 have q:=PySem.IsL.update e f
 rw[hf]at q
 refine I.write (x:=l) (e:=l) (by rw[hH];exact trivial) (.inl rfl) (λb' u hb hu=>(get?_update_other s.heap (Obj.mapSeq f) (Ne.symm hb)).trans hu) ⟨_,q⟩ ?_
 exact⟨hz,its',_,hv,q⟩
theorem Inv.lnew{its:List Value}{t':Nat}(I:Inv X pins σ H s)(hv:Vals ys its)(hz:ys.length<=sizeLine):
  Inv X pins σ (upd H s.heap.objs.size (.lst ys)) {s with heap:=s.heap.push {cls:=.type "list",data:=.seq its.toArray},toks:=t'}:=
 I.laid (λ_ _ q=>gZ _ q) (Nat.le_refl _) ⟨hz,its,0,hv,get?_push_size _ rfl⟩
theorem Inv.fresh(I:Inv X pins σ H s):H s.heap.objs.size=none:=I.hok.fresh (Nat.le_refl _)
theorem Inv.lstM(I:Inv X pins σ H s)(hH:H l=some (.lst xs)):xs.length<=sizeLine/\∃(its:List Value) (n:Nat),Vals xs its/\xs.length=its.length/\s.heap.get? l=some {cls:=.type "list",data:=.seq its.toArray n}:=by
 obtain⟨z,its,n,r,e⟩:=I.hok l _ hH
 exact⟨z,its,n,r,r.length,e⟩
theorem FE{n:Nat}(h:n<=sizeLine):Builtin.List.listTooLong n=false:=by
 unfold Builtin.List.listTooLong
 exact decide_eq_false (by omega)
def aMZ:V->List V->Hp->VK->Prop:=λx vs H Q=>∃l xs y,x=.ref l/\vs=[y]/\H l=some (.lst xs)/\xs.length<sizeLine/\Q .non (upd H l (.lst (xs++ [y])))
theorem O5:MtM X "list.append" aMZ:=by
 intro pins s σ H x vs v us Q I rx rv h
 obtain⟨l,xs,y,rfl,rfl,hH,hz,q⟩:=h
 cases rx
 obtain⟨u,rfl,ru⟩:=rv.one
 obtain⟨z,its,n,r,hl,e⟩:=I.lstM hH
 refine call_meets F.slot_list_append ⟨_,e,rfl⟩ F.entry_list_append (F.args_list_append_2 _ _) (PySem.list_append l its.toArray n u (by rw[size_toArray];omega)) ⟨e, ?_⟩
 refine⟨.non,_,I.lset (its':=its++ [u]) hH e (by simp) (r.append (.cons ru .nil)) ?_,rfl,q⟩
 rw[length_append,length_singleton]
 omega
def agZ:V->List V->Hp->VK->Prop:=λx vs H Q=>∃l b xs zs,x=.ref l/\vs=[.ref b]/\H l=some (.lst xs)/\H b=some (.lst zs)/\xs.length+zs.length<=sizeLine/\Q .non (upd H l (.lst (xs++zs)))
theorem UO:MtM X "list.extend" agZ:=by
 intro pins s σ H x vs v us Q I rx rv h
 obtain⟨l,b,xs,zs,rfl,rfl,hH,hB,hz,q⟩:=h
 cases rx
 obtain⟨u,rfl,ru⟩:=rv.one
 cases ru
 obtain⟨z,its,n,r,hl,e⟩:=I.lstM hH
 obtain⟨z2,its2,n2,r2,hl2,e2⟩:=I.lstM hB
 have hsz:its.toArray.size+its2.toArray.size<=sizeLine:=by rw[size_toArray,size_toArray];omega
 have hlong:¬(!its.toArray.isEmpty&&Builtin.List.listTooLong (its.toArray.size+its2.toArray.size))=true:=by
  rw[FE hsz,Bool.and_false]
  exact nZ
 refine call_meets F.slot_list_extend ⟨_,e,rfl⟩ F.entry_list_extend (F.args_list_extend_2 _ _)
  (AutoSeq1.list_extend_list_list_0 l its.toArray n b its2.toArray n2 hlong (by rw[size_toArray];omega) (by omega)) ⟨e,e2, ?_⟩
 refine⟨.non,_,I.lset (its':=its++its2) hH e (by simp) (r.append r2) ?_,rfl,q⟩
 rw[length_append]
 omega
def d4Z:V->List V->Hp->VK->Prop:=λx vs H Q=>∃l xs y,x=.ref l/\vs=[]/\H l=some (.lst xs)/\xs[xs.length - 1]? =some y/\Q y (upd H l (.lst xs.dropLast))
theorem HE:MtM X "list.pop" d4Z:=by
 intro pins s σ H x vs v us Q I rx rv h
 obtain⟨l,xs,y,rfl,rfl,hH,hy,q⟩:=h
 cases rx
 have hus:=rv.zero
 subst hus
 obtain⟨z,its,n,r,hl,e⟩:=I.lstM hH
 obtain⟨u,hu,ru⟩:=r.get hy
 have hy':its.toArray[its.toArray.size - 1]? =some u:=by
  show its.toArray[its.length - 1]? =some u
  rw[<-Array.getElem?_toList,<-hl]
  exact hu
 refine call_meets F.slot_list_pop ⟨_,e,rfl⟩ F.entry_list_pop (F.args_list_pop_1 _) (MeetsSeq.list_pop_last l its.toArray n u hy' (by rw[size_toArray];omega)) ⟨e, ?_⟩
 refine⟨y,_,I.lset (its':=its.dropLast) hH e ?_ r.dropLast ?_,ru,q⟩
 ·show its.toArray.eraseIdxIfInBounds (its.toArray.size - 1)=its.dropLast.toArray
  rw[size_toArray,List.eraseIdxIfInBounds_toArray,OX]
 ·rw[List.length_dropLast]
  omega
def b9Z:R2:=λx y H Q=>∃l b xs zs,x=.ref l/\y=.ref b/\H l=some (.lst xs)/\H b=some (.lst zs)/\xs.length+zs.length<=sizeLine/\∀p,H p=none->Q (.ref p) (upd H p (.lst (xs++zs)))
theorem op_cat:OpR X (binaryOp .Add) b9Z:=by
 intro pins s σ H x y v u Q I rx ry h
 obtain⟨l,b,xs,zs,rfl,rfl,hH,hB,hz,q⟩:=h
 cases rx
 cases ry
 obtain⟨z,its,n,r,hl,e⟩:=I.lstM hH
 obtain⟨z2,its2,n2,r2,hl2,e2⟩:=I.lstM hB
 refine PySem.P.add_list e e2 ?_ (by rw[size_toArray,size_toArray];omega)
 have ea:its.toArray++its2.toArray=(its++its2).toArray:=by simp
 rw[ea]
 exact⟨.ref _,_,I.lnew (t':=s.toks) (r.append r2) (by rw[length_append];omega),rfl,q _ I.fresh⟩
def cVZ:R2:=λx y H Q=>∃l k xs,x=.ref l/\y=.int k/\H l=some (.lst xs)/\ -(2^63)<=k/\k<2^63/\xs.length*k.toNat<=sizeLine/\
 ∀p,H p=none->Q (.ref p) (upd H p (.lst (List.replicate k.toNat xs).flatten))
theorem arZ{α:Type}(xs:List α)(k:Nat):(List.replicate k xs).flatten.length=k*xs.length:=by
 induction k with
 |zero=>simp
 |succ k ih=>rw[replicate_succ,flatten_cons,length_append,ih,Nat.succ_mul,Nat.add_comm]
theorem cgZ:OpR X (binaryOp .Mult) cVZ:=by
 intro pins s σ H x y v u Q I rx ry h
 obtain⟨l,k,xs,rfl,rfl,hH,h1,h2,hz,q⟩:=h
 cases rx
 obtain⟨t,rfl⟩:=ry
 obtain⟨z,its,n,r,hl,e⟩:=I.lstM hH
 have hlen:its.toArray.size*k.toNat<=sizeLine:=by rw[size_toArray,<-hl];exact hz
 have hcap:¬its.toArray.size*k.toNat>(2^63 - 1)/8:=by
  have:(sizeLine:Nat)<=(2^63 - 1)/8:=by decide
  omega
 have hfit:¬(!Builtin.List.listFitsIndex k)=true:=by
  rw[fitsIndex_both h1 h2]
  exact nZ
 have hlong:¬Builtin.List.listTooLong (its.toArray.size*k.toNat)=true:=by
  rw[FE hlen]
  exact nZ
 have hnew:List.foldl (λx1 x2=>x1++x2) #[] (List.replicate (if its.toArray.isEmpty=true then 0 else k.toNat) its.toArray)=(List.replicate k.toNat its).flatten.toArray:=by
  have f0:∀m:Nat,List.foldl (λx1 x2=>x1++x2) #[] (List.replicate m its.toArray)=(List.replicate m its).flatten.toArray:=λm=>by
   have:=foldl_rep its m []
   rw[nil_append]at this
   exact this
  rw[f0]
  cases its with
  |nil=>simp
  |cons a r'=>rw[if_neg (by simp)]
 refine wpAny_binaryOp_repeat_ref (T:="list") (U:="int") (by decide) ⟨_,e,rfl⟩ (λs'=>typeIs_int s' k t) noFill_list_mul F.fills_int_mul F.slot_int_rmul repeat_list F.slot_int_index.lookup
  (call_meets F.slot_int_rmul (typeIs_int s k t) F.entry_int_rmul (F.args_int_rmul_2 _ _) (int___rmul___int_list k t l its.toArray n)
   ⟨e,rfl,⟨_,e,rfl⟩,call_meets F.slot_list_mul ⟨_,e,rfl⟩ F.entry_list_mul (F.args_list_mul_2 _ _) (AutoListH.list___mul___list_int_3 l its.toArray n k t hfit hcap hlong) ⟨e, ?_⟩⟩)
 rw[hnew]
 exact⟨.ref _,_,I.lnew (t':=s.toks) (r.rep k.toNat) (by rw[arZ,Nat.mul_comm];exact hz),rfl,q _ I.fresh⟩
variable{prog:Program}{w:World}{A:Around}{E:Value->Shared->Prop}
end
end L2
namespace Att
open PySem PySem.W PySem.Calls PyProof.Rows
theorem EO{P:Params}{h:Heap}:∀(ns:List Int) (vs:List Value),WellAll P h vs (ns.map WData.int)->IntsAre vs ns:=by
 intro ns
 induction ns with
 |nil=>
  intro vs w
  rw[map_nil]at w
  cases w
  exact .nil
 |cons n ns ih=>
  intro vs w
  rw[map_cons]at w
  cases w with
  |cons a b=>
   cases a
   exact .cons _ _ (ih _ b)
theorem UT{l:OpenLaw}{n:Nat}(hn:l.most=some n){P:Params}{h:Heap}{args:List WData}{vals:List Value}
  (hpre:l.row.toRowW.claim.pre args=true)(hwl:WellAll P h vals args):
  ∃a vs ns,vals=[Value.ref a]/\args=[WData.list (ns.map WData.int)]/\h.get? a=some {cls:=.type "list",data:=.seq vs.toArray}/\IntsAre vs ns/\ns.length<=n:=by
 have hsh:WShape.hasAll [] args [.list .int]=true:=(pre_splitW hpre).1
 have hc:l.pre.holds [] {args:=args}=true:=(pre_splitW hpre).2
 obtain⟨d,r,rfl,h1,h2⟩:=hasAllW_cons hsh
 obtain rfl:=hasAllW_nil h2
 obtain⟨xs,rfl,h3⟩:=hasW_list h1
 obtain⟨ns,rfl⟩:=items_int h3
 have hlen:ns.length<=n:=by
  unfold OpenLaw.pre at hc
  have h4:(WTm.not (.lt (.lit (.int (n:Int))) (.len (.arg 0)))).holds [] {args:=[.list (ns.map .int)]}=true:=by
   have h4:=(holds_andW hc).1
   rw[hn]at h4
   exact h4
  have h5:=condW_of h4 (w_not (w_lt w_lit (w_len_list (w_arg rfl))))
  rw[length_map]at h5
  refine Nat.le_of_not_lt λq=> ?_
  have q':(n:Int)<((ns.length:Nat):Int):=by omega
  first
   |(rw[decide_eq_true q']at h5;exact absurd h5 (by decide))
   |(simp at h5;omega)
 cases hwl with
 |cons w1 w2=>
  cases w2
  cases w1 with
  |list ho hall=>exact⟨_,_,ns,rfl,rfl,ho,EO ns _ hall,hlen⟩
theorem TZ(l:OpenLaw)(args:List WData):l.row.toRowW.claim.post args (.bool true) args=true:=
 postW_of (r:=l.row.toRowW) (X:=(true==true))
  (show WShape.has [] (.bool true) .bool=true by first|rfl|decide|simp[WShape.has,WShape.arms,WShape.armsAll])
  (show(WTm.eq .res (.lit (.bool true))).value [] {args:=args,res:=some (.bool true),after:=args}=some (.bool (true==true))from w_eq_bool (w_res rfl) w_lit) rfl
theorem attach_call{l:OpenLaw}{n:Nat}{q:Program}{loose:List Str}{XP:(Str->Option Value)->Heap->Prop}{YP:World->Heap->Prop}{d:DefRec}
  (hn:l.most=some n)(hdf:d.params.defaults=[])
  (call:∀(w:World) (s₀ s₁:Shared) (mg mb:Str->Option Value) (fa:Addr) (o:Obj) (pm cd doc:Value) (a:Addr) (vs:List Value) (ns:List Int),
   Ground q loose [] XP w s₀ mg mb s₁.heap->YP w s₁.heap->
   s₁.heap.get? fa=some o->o.data=.func (docDef d.name d.params d.body d.scope pm cd doc)->s₁.heap.CodeRec cd d.name->mg d.name=some (.ref fa)->
   s₁.heap.get? a=some {cls:=.type "list",data:=.seq vs.toArray}->IntsAre vs ns->ns.length<=n->s₁.gens= #[]->
   codeAny (model l.prog w) callerA (.call (.ref fa) ⟨[.ref a],[]⟩) (λr s'=>r=.ok (.ret (.bool true))/\OldK s₁.heap s'.heap/\s'.os=s₁.os/\AllBare s'.gens) s₁):
  WalkO q loose XP YP l.row.toRowW d [] (λf vs=>PySem.call f vs):=by
 intro w s₀ s₁ mg mb G Y fa o pm cd doc dV kV ho hd hcd hD hmg hg args vals as hpre hlay hrd hwl hlo
 obtain rfl:dV=.none:=Dflts.none hD hdf
 obtain rfl:kV=.none:=Dflts.noKw hD
 obtain⟨a,vs,ns,rfl,rfl,hobj,hints,hlen⟩:=UT hn hpre hwl
 refine enter_call (codeAny_mono (call w s₀ s₁ mg mb fa o pm cd doc a vs ns G Y ho (fd_plain hd) hcd hmg hobj hints hlen hg) λr s' hq=> ?_)
 obtain⟨rfl,h2,h3,h4⟩:=hq
 exact⟨.inl ⟨.bool true,.bool true,[],rfl,λ_=>rfl,.bool true,TZ l _,λ_=>⟨List.Pairwise.nil,λ_ hm=>(nomatch hm)⟩⟩,h2,h3,h4⟩
section
variable{prog:Program}{w:World}{A:Around}{E:Value->Shared->Prop}{s:Shared}{K:Frag}
end
end Att
namespace L2
open PySem PySem.Spec PyProof.Rows
theorem ID:∀ {vs:List Value} {ns:List Int},IntsAre vs ns->Vals (ns.map V.int) vs
 |_,_,.nil=> .nil
 |_,_,.cons n t h=> .cons ⟨t,rfl⟩ (ID h)
noncomputable def G6(s:Stmt)(j:Nat):Stmt:=match s with
 | .ClassDef _ _ _ body _ _ _ _ _ _ _=>body.getD j (.Pass ⟨0,0,0,0⟩)
 |_=> .Pass ⟨0,0,0,0⟩
def E9(s:Stmt):Arguments:=match s with
 | .FunctionDef _ a _ _ _ _ _ _ _ _=>a
 |_=> {posonlyargs:=[],args:=[],vararg:=none,kwonlyargs:=[],kw_defaults:=[],kwarg:=none,defaults:=[]}
def D9(s:Stmt):List Stmt:=match s with
 | .FunctionDef _ _ b _ _ _ _ _ _ _=>b
 |_=> []
noncomputable def B0(s:Stmt):Scope:=match s with
 | .FunctionDef _ _ _ _ _ _ sc _ _ _=>sc
 |_=> {kind:=.function,names:=[],isGenerator:=false,isCoroutine:=false}
abbrev CX0:CXT:=λ_ _ _ _ _ _=>False
abbrev E0:XK:=λ_ _ _=>False
theorem C2{X:Cx}:U5 CX0 X E0:=λ_ _ _ _ _ _ _ h=>h.elim
structure Fun (K:FZ) (x qual:Str) (st:Stmt) (f:Addr) (fd:FuncData):Prop where
 ex:∃(oc:Value) (od:Option Addr) (kV doc pm:Value) (an:Option Addr) (cdv ct:Value) (osl:Array (Option Value)),
  fd=fnOf x qual (E9 st) (D9 st) (B0 st) .none kV doc pm an cdv ct/\K.lookup f=some ⟨oc,od,.func fd,osl⟩/\codeIn K cdv qual=true
 kp:kZ K (.ref f)=true
section
variable{P:Program}{w:World}{K:FZ}{mg:Str->Option Value}{base:Heap}
theorem Fun.ok{x qual:Str}{st:Stmt}{f:Addr}{fd:FuncData}{N ps:List Str}{k:Nat}{sp:Sp}(F:Fun K x qual st f fd)(S:FnScope N ps (B0 st))(len:∀vs H Q E,sp vs H Q E->vs.length=ps.length)
  (hbody:∀(cdv:Value) (A:Around) (outer:List Env) (s:Shared) (H:Hp) (vs:List V) (Q:VK) (E:XK),Room k (A.deeper (envOfC qual (B0 st) s.heap.objs.size f cdv))->sp vs H Q E->
   ∃t,PSs (MP CX0 P w K mg base N qual (B0 st) f cdv A outer s H E).nox (D9 st) t/\t {nx:=λ_ H'=>Q .non H',rt:=Q} (start N vs) H):FnOk P w K mg base CX0 (k+1) f fd ps sp:=by
 obtain⟨oc,od,kV,doc,pm,an,cdv,ct,osl,rfl,lk,hcd⟩:=F.ex
 refine bfZ lk hcd S len λA outer s H vs Q E hr hsp=> ?_
 obtain⟨t,h,q⟩:=hbody cdv A outer s H vs Q E hr hsp
 exact⟨t,h.nox,q⟩
theorem Fun.binds{x qual:Str}{st:Stmt}{f:Addr}{fd:FuncData}{ps:List Str}(F:Fun K x qual st f fd)
  (h:∀(kV doc pm:Value) (an:Option Addr) (cdv ct:Value) (us:List Value),us.length=ps.length->bindArgs (fnOf x qual (E9 st) (D9 st) (B0 st) .none kV doc pm an cdv ct) ⟨us,[]⟩=pure (ps.zip us)):Binds K fd ps []:=by
 obtain⟨oc,od,kV,doc,pm,an,cdv,ct,osl,rfl,lk,hcd⟩:=F.ex
 exact .all (h kV doc pm an cdv ct)
theorem U4{x qual:Str}{st:Stmt}{f:Addr}{oc:Value}{od an:Option Addr}{osl:Array (Option Value)}{kV doc pm cdv ct:Value}(l:K.lookup f=some ⟨oc,od,.func (fnOf x qual (E9 st) (D9 st) (B0 st) .none kV doc pm an cdv ct),osl⟩)
  (c:codeIn K cdv qual=true)(k:kZ K (.ref f)=true):Fun K x qual st f (fnOf x qual (E9 st) (D9 st) (B0 st) .none kV doc pm an cdv ct):=⟨⟨oc,od,kV,doc,pm,an,cdv,ct,osl,rfl,l,c⟩,k⟩
variable{X:Cx}
theorem pv(i:Nat){x:Str}{pos:Pos}(hN:X.N[i]? =some x:=by rfl)(hv:Vis X.env.scope x:=by first|exact Or.inl rfl|exact Or.inr (Or.inl rfl)|exact Or.inr (Or.inr rfl))(hd:(x==("__debug__":Str))=false:=by decide)
  (hcd:(x==("__classdict__":Str))=false:=by decide):PE X (.Name x pos) (cUZ i):=bJZ hN hv hd hcd
end
theorem HB{c A B:Prop}[Decidable c](h1:c->A)(h2:¬c->B):if c then A else B:=by
 by_cases h:c
 ·rw[if_pos h]
  exact h1 h
 ·rw[if_neg h]
  exact h2 h
def Same(H H':Hp):Prop:=∀b o,H b=some o->H' b=some o
theorem Same.refl(H:Hp):Same H H:=λ_ _ h=>h
theorem Same.trans{H H1 H2:Hp}(a:Same H H1)(b:Same H1 H2):Same H H2:=λc o h=>b c o (a c o h)
theorem Same.free{H H':Hp}(e:Same H H'){l:Addr}(h:H' l=Option.none):H l=Option.none:=by
 cases q:H l with
 |none=>rfl
 |some o=>
  rw[e l o q]at h
  cases h
theorem Same.seq{K:FZ}{H H':Hp}{a:Addr}{xs:List V}(e:Same H H')(h:SqL K H a xs):SqL K H' a xs:=by
 rcases h with(h|⟨o,h⟩)|h
 ·exact .inl (.inl (e _ _ h))
 ·exact .inl (.inr ⟨o,e _ _ h⟩)
 ·exact .inr h
theorem KQ{α β:Type}{M:Model}{A:Around}{a:α}{Q:α->Shared->Prop}{E:Value->Shared->Prop}{s:Shared}{t2:Sem β}{Q2:β->Shared->Prop}{E2:Value->Shared->Prop}
  (h:wpAny M A (pure a:Sem α) Q E s)(k:Q a s->wpAny M A t2 Q2 E2 s):wpAny M A t2 Q2 E2 s:=fun Γ p hΓ=>k (h Γ p hΓ) Γ p hΓ
def PTs(X:Cx)(ifs:List Expr)(t:TT):Prop:=
 ∀(pins:List (Addr×Obj)) (s:Shared) (σ:St) (H:Hp) (Q:Bool->Hp->Prop),Inv X pins σ H s->t σ H Q->
  wpAny (model X.prog X.w) X.A (forIn ifs true λc r=>if r=true then do let ok<-isTrue c X.env (eval c X.env);pure (ForInStep.yield ok)else pure (ForInStep.yield r)) (TP X pins σ Q) X.xe s
def RD:TT:=λ_ H Q=>Q true H
theorem Z0{X:Cx}:PTs X [] RD:=λ_ _ _ H _ I h=>wpAny_tests_nil ⟨H,I,h⟩
def AO(cells:List (Str×Addr))(names:List (Str×NameKind))(acc:List (Str×Addr)):List (Str×Addr):=
 match names with
 | []=>acc
 |(n,k)::r=>AO cells r (if k==.free then(n,(cells.lookup n).getD 0)::acc else acc)
theorem BR{env:Env}:∀(names:List (Str×NameKind)) (acc:List (Str×Addr)),(∀y∈names,y.2=.free->∃c,env.cells.lookup y.1=some c)->
  (forIn names acc λ(x:Str×NameKind) (r:List (Str×Addr))=>if(x.2==.free)=true then(do let a<-cellOf env x.1;pure (ForInStep.yield ((x.1,a)::r)):Sem (ForInStep (List (Str×Addr))))else pure (ForInStep.yield r))=(pure (AO env.cells names acc):Sem (List (Str×Addr)))
 | [],acc,_=>rfl
 |(n,k)::r,acc,h=>by
  have ih:=BR (env:=env) r
  rw[List.forIn_cons]
  by_cases hk:(k==NameKind.free)=true
  ·obtain⟨c,hc⟩:=h (n,k) mem_cons_self (by simpa using hk)
   have hc':cellOf env n=pure c:=by unfold cellOf;rw[hc]
   dsimp only
   rw[if_pos hk,hc']
   have e:AO env.cells ((n,k)::r) acc=AO env.cells r ((n,c)::acc):=by
    show AO env.cells r (if(k==NameKind.free)=true then(n,(env.cells.lookup n).getD 0)::acc else acc)=_
    rw[if_pos hk,hc];rfl
   rw[e,<-ih ((n,c)::acc) λy hy=>h y (mem_cons_of_mem _ hy)]
   rfl
  ·dsimp only
   rw[if_neg hk]
   have e:AO env.cells ((n,k)::r) acc=AO env.cells r acc:=by
    show AO env.cells r (if(k==NameKind.free)=true then(n,(env.cells.lookup n).getD 0)::acc else acc)=_
    rw[if_neg hk]
   rw[e,<-ih acc λy hy=>h y (mem_cons_of_mem _ hy)]
   rfl
theorem EK{scope:Scope}{env:Env}(h:∀y∈scope.names,y.2=.free->∃c,env.cells.lookup y.1=some c):closureFor scope env=pure (AO env.cells scope.names []):=by
 unfold closureFor
 have e:=BR (env:=env) scope.names [] h
 first
  |exact e
  |(simp only[bind_pure_comp,map_pure]at*;exact e)
  |(rw[<-e];simp)
theorem MV{cells:List (Str×Addr)}:∀(names:List (Str×NameKind)) (acc:List (Str×Addr)) (p:Str×Addr),(∀y∈names,y.2=.free->∃c,cells.lookup y.1=some c)->p∈AO cells names acc->p∈acc\/(cells.lookup p.1=some p.2/\(p.1,NameKind.free)∈names)
 | [],acc,p,_,h=> .inl h
 |(n,k)::r,acc,p,hn,h=>by
  have h':p∈AO cells r (if(k==NameKind.free)=true then(n,(cells.lookup n).getD 0)::acc else acc):=h
  rcases MV r _ p (λy hy=>hn y (mem_cons_of_mem _ hy)) h' with q|⟨q1,q2⟩
  ·by_cases hk:(k==NameKind.free)=true
   ·rw[if_pos hk]at q
    rcases cZ q with e|q
    ·have hk':k=.free:=by simpa using hk
     obtain⟨c,hc⟩:=hn (n,k) mem_cons_self hk'
     subst e
     refine .inr ⟨?_, ?_⟩
     ·show cells.lookup n=some ((cells.lookup n).getD 0)
      have hc':cells.lookup n=some c:=hc
      rw[hc'];rfl
     ·rw[<-hk'];exact mem_cons_self
    ·exact .inl q
   ·rw[if_neg hk]at q
    exact .inl q
  ·exact .inr ⟨q1,mem_cons_of_mem _ q2⟩
theorem NG{cells:List (Str×Addr)}:∀(names:List (Str×NameKind)) (acc:List (Str×Addr)) (n:Str),((n,NameKind.free)∈names\/∃c,(n,c)∈acc)->∃c,(n,c)∈AO cells names acc
 | [],acc,n,h=>by
  rcases h with h|h
  ·cases h
  ·exact h
 |(m,k)::r,acc,n,h=>by
  show∃c,(n,c)∈AO cells r (if(k==NameKind.free)=true then(m,(cells.lookup m).getD 0)::acc else acc)
  refine NG r _ n ?_
  rcases h with h|⟨c,h⟩
  ·rcases cZ h with e|h
   ·injection e with e1 e2
    subst e1;subst e2
    exact .inr ⟨_,by rw[if_pos (show(NameKind.free==NameKind.free)=true from rfl)];exact mem_cons_self⟩
   ·exact .inl h
  ·refine .inr ⟨c, ?_⟩
   split
   ·exact mem_cons_of_mem _ h
   ·exact h
theorem Z7{α:Type}{n:Str}{c:α}:∀ {l:List (Str×α)},(n,c)∈l->∃d,l.lookup n=some d/\(n,d)∈l
 |(m,d)::r,h=>by
  by_cases e:n=m
  ·subst e
   exact⟨d,by simp[lookup_cons],mem_cons_self⟩
  ·rcases cZ h with q|q
   ·injection q with q1 _
    exact absurd q1 e
   ·obtain⟨d',h1,h2⟩:=Z7 q
    refine⟨d', ?_,mem_cons_of_mem _ h2⟩
    rw[lookup_cons]
    have:(n==m)=false:=beq_eq_false_iff_ne.mpr e
    rw[this];exact h1
structure CompScope (N:List Str) (sc scope:Scope) (x:Str) (caps:List Nat) (ns:List Str):Prop where
 cell:∀y∈scope.names,y.2≠ .cell
 kind:scope.kind=.function
 names:∀y∈scope.names,y.2=.local->scope.names.lookup y.1=some .local
 var:scope.names.lookup x=some .local
 free:∀y∈scope.names,y.2=.free->sc.names.lookup y.1=some .cell\/sc.names.lookup y.1=some .free
 at_:caps.map (λj=>N[j]?)=ns.map some
 nsf:∀y∈ns,scope.names.lookup y=some .free
 nd:(x::ns).Nodup
noncomputable def Cx.comp(X:Cx)(N':List Str)(scope:Scope)(cl:List (Str×Addr))(C:Addr)(s:Shared)(H:Hp)(fp:List Addr):Cx:=
 {X with N:=N',s₀:=s,H₀:=H,env:=compEnvC scope cl C X.env,outer:=X.stack,ex:=fp,fn:=λ_=>false,xe:=λ_ _=>False}
noncomputable def capσ(caps:List Nat)(σ:St)(v:Option V):St:=v::caps.map λj=>(σ[j]?).getD none
def WJ(wi:TI)(caps:List Nat)(tt:TT)(te:TE)(σ:St)(H:Hp)(R:List V->Hp->Prop):Prop:=wi σ H λJ H1=>∃W:Nat->Nat->List V->Hp->Prop,(∃m,W 0 m [] H1)/\∀i m ys H,W i m ys H->
 ys.length<=sizeLine/\((J.stop i H/\R ys H)\/(J.go i H/\∃N:List V->Hp->Prop,(∀ys' H',N ys' H'->∃m',m'<m/\W (i+1) m' ys' H')/\∀v H',J.yld i H v H'->tt (capσ caps σ (some v)) H' λb H2=>
  if b=true then te (capσ caps σ (some v)) H2 λy H3=>N (ys++ [y]) H3 else N ys H2))
def bmZ(wi:TI)(caps:List Nat)(tt:TT)(te:TE):TE:=fun σ H Q=>WJ wi caps tt te σ H λys H1=>∀D,H1 D=none->Q (.ref D) (upd H1 D (.lst ys))
theorem HA{scope:Scope}{env:Env}{y:Str}(h:((relabel scope env).names.lookup y=some .cell\/(relabel scope env).names.lookup y=some .free))(hc:∀y∈scope.names,y.2≠ .cell):(y,NameKind.free)∈scope.names:=by
 have h':∃k,(k=.cell\/k=.free)/\(y,k)∈(relabel scope env).names:=by
  rcases h with h|h
  ·exact⟨_,.inl rfl,PySem.mem_of_lookup h⟩
  ·exact⟨_,.inr rfl,PySem.mem_of_lookup h⟩
 obtain⟨k,hk,hm⟩:=h'
 unfold relabel at hm
 obtain⟨⟨n,k0⟩,hm0,e⟩:=mem_map.mp hm
 dsimp only at e
 split at e
 ·rename_i hcond
  injection e with e1 e2
  subst e1
  have:k0=.free:=by
   simp only[Bool.and_eq_true]at hcond
   simpa using hcond.1.1
  subst this
  exact hm0
 ·injection e with e1 e2
  subst e1;subst e2
  rcases hk with rfl|rfl
  ·exact absurd rfl (hc _ hm0)
  ·exact hm0
theorem P3{env:Env}:∀ {names:List (Str×NameKind)} {x:Str},names.lookup x=some .free->
  (names.map λ(n,k)=>if(k==NameKind.free&&env.scope.kind==.function&&env.kindOf n==some .cell)then(n,NameKind.cell)else(n,k)).lookup x=some .cell\/
  (names.map λ(n,k)=>if(k==NameKind.free&&env.scope.kind==.function&&env.kindOf n==some .cell)then(n,NameKind.cell)else(n,k)).lookup x=some .free
 | [],_,h=>by simp at h
 |(n,k)::r,x,h=>by
  have ih:= @P3 env r x
  show(List.lookup x ((if(k==NameKind.free&&env.scope.kind==.function&&env.kindOf n==some .cell)=true then(n,NameKind.cell)else(n,k))::_)=_)\/(List.lookup x ((if(k==NameKind.free&&env.scope.kind==.function&&env.kindOf n==some .cell)=true then(n,NameKind.cell)else(n,k))::_)=_)
  cases hx:x==n with
  |true=>
   simp only[lookup_cons,hx]at h
   cases h
   split
   ·left;simp[lookup_cons,hx]
   ·right;simp[lookup_cons,hx]
  |false=>
   simp only[lookup_cons,hx]at h
   by_cases hc:(k==NameKind.free&&env.scope.kind==.function&&env.kindOf n==some .cell)=true
   ·rw[if_pos hc];simp only[lookup_cons,hx];exact ih h
   ·rw[if_neg hc];simp only[lookup_cons,hx];exact ih h
section
variable{X:Cx}
theorem IE{x:Str}{px:Pos}{iter elt:Expr}{ifs:List Expr}{scope:Scope}{pos pos':Pos}{wi:TI}{tt:TT}{te:TE}{caps:List Nat}{ns:List Str}{use:Option (Value->Sem Unit)}{Q:Value->Shared->Prop}
  {pins:List (Addr×Obj)}{s:Shared}{σ:St}{H:Hp}{R:List V->Hp->Prop}
  (CS:CompScope X.N X.env.scope scope x caps ns)(hc:X.calm=true)(hi:PI X (.Name x px) iter wi)
  (ht:∀cl C s H fp,PTs (X.comp (x::ns) scope cl C s H fp) ifs tt)(he:∀cl C s H fp,PE (X.comp (x::ns) scope cl C s H fp) elt te)
  (hs:∀v,foldedSetIterable iter X.env v=pure v)
  (I:Inv X pins σ H s)(h:WJ wi caps tt te σ H R)
  (hend:∀D C s' H' ys,Inv X pins σ (upd H' D (.lst ys)) s'->H' D=none->R ys H'->(∃m,s'.heap.Ns C m)->(upd H' D (.lst ys)) C=none->C≠X.env.locals->X.s₀.heap.objs.size<=C->(∀y c,X.env.cells.lookup y=some c->c≠C)->(∀p∈X.pn++pins,p.1≠C)->
   compPost (model X.prog X.w) X.A X.xe use Q (.ref D) C (.ok .next) s'):
  wpAny (model X.prog X.w) X.A (comprehension (.ListComp elt [⟨.Name x px,iter,ifs,0⟩] scope pos) scope X.env pos' (newList []) false (eval iter X.env) use) Q X.xe s:=by
 have hcells:∀y∈scope.names,y.2=.free->∃c,X.env.cells.lookup y.1=some c:=λy hy hf=>I.ok.has y.1 (CS.free y hy hf)
 refine wpAny_comprehension_free (use:=use) rfl hs (EK hcells) CS.kind CS.names ?_
 refine thn (hi pins s σ H _ I h) λv s1 h1=>thn h1 λitv s2 h2=> ?_
 obtain⟨it,fp,tn,J,H2,e,I2,T,st2,f2,W,⟨m0,w0⟩,turn⟩:=h2
 subst e
 refine wpAny_newObj_type (wpAny_newFunctionEnv CS.cell (by intro y hy;simp at hy) (λh₁ hns₁ hsb₁=> ?_) CS.kind)
 dsimp only at hns₁ hsb₁⊢
 generalize hHH:s2.heap.push {cls:=.type "list",dict:=none,data:=.seq ([]:List Value).toArray}=HH at hns₁ hsb₁⊢
 have hC:HH.objs.size=s2.heap.objs.size+1:=by rw[<-hHH,size_push]
 generalize hCe:HH.objs.size=C at hns₁ hsb₁ hC⊢
 have hDC:s2.heap.objs.size≠C:=by rw[hC];exact ne_of_lt (lt_succ_self _)
 have below:∀b,b<s2.heap.objs.size->b≠C/\b≠s2.heap.objs.size:=λb hb=>⟨by rw[hC];exact ne_of_lt (Nat.lt_succ_of_lt hb),ne_of_lt hb⟩
 have old:∀b o,s2.heap.get? b=some o->h₁.get? b=some o:=λb o e=>hsb₁.extBut b o (below b (lt_size e)).1 (gZ _ (hHH▸gZ _ e))
 have hacc:h₁.get? s2.heap.objs.size=some (LCg.lst []):=hsb₁.extBut _ _ hDC (gZ _ (hHH▸get?_push_size _ rfl))
 have nfp:∀b∈fp,b<s2.heap.objs.size:=λb hb=>let⟨o,e,_⟩:=T.obj _ _ st2 b hb;lt_size e
 have clsub:∀y c,(AO X.env.cells scope.names []).lookup y=some c->X.env.cells.lookup y=some c:=λy c e=>by
  rcases MV scope.names [] (y,c) hcells (PySem.mem_of_lookup e)with q|q
  ·cases q
  ·exact q.1
 have fresh2:∀a,s2.heap.objs.size<=a->H2 a=none:=λa ha=>I2.hok.fresh ha
 generalize hcl:AO X.env.cells scope.names []=cl at clsub⊢
 have clhas:∀y,(y,NameKind.free)∈scope.names->∃c,cl.lookup y=some c:=λy hy=>by
  obtain⟨c,q⟩:=NG (cells:=X.env.cells) scope.names [] y (.inl hy)
  rw[hcl]at q
  obtain⟨d,q1,_⟩:=Z7 q
  exact⟨d,q1⟩
 have ltC:∀y c,X.env.cells.lookup y=some c->c<s2.heap.objs.size:=λy c e=>let⟨v,z⟩:=I2.cell y c e;z.lt
 have ok':(X.comp (x::ns) scope cl C s2 H2 fp).Ok:=by
  refine⟨I2.ok.mod,CS.kind,I2.ok.glob,I2.ok.blt,(by show s2.heap.objs.size<=C;rw[hC];exact le_succ _),λy z c a b=>I2.ok.inj y z c (clsub y c a) (clsub z c b),λy hy=>clhas y (HA hy CS.cell),λy c z=>(by cases z),I2.ok.hd,I2.ok.frames,.inl rfl,
   λb hb=>⟨(below b (nfp b hb)).1,λy c e z=>(f2 b hb).2.2.2.2.1 y c (clsub y c e) z⟩,λb o e=>I2.bs b o e,le_trans I2.ok.bsz I2.sz,λb o e hb=> ?_,λb hb hf=> ?_,I2.stack,I2.stkFree⟩
  ·rcases(f2 b hb).2.2.2.1 with z|z
   ·exact I2.ok.noex b o e z
   ·exact absurd (lt_of_lt_of_le (lt_size e) (le_trans I2.ok.bsz z)) (lt_irrefl _)
  ·rcases cZ (I2.stkSub b hf)with z|z
   ·exact(f2 b hb).2.1 z
   ·exact(f2 b hb).2.2.1 z
 have capget:∀(k:Nat) (y:Str) (v:V),(x::ns)[k]? =some y->(capσ caps σ none)[k]? =some (some v)->∃j,X.N[j]? =some y/\σ[j]? =some (some v)/\scope.names.lookup y=some .free:=λk y v e1 e2=>by
  cases k with
  |zero=>cases e2
  |succ k=>
   have e1':ns[k]? =some y:=by simpa using e1
   have e2':(caps.map λj=>(σ[j]?).getD none)[k]? =some (some v):=by simpa [capσ]using e2
   have e3:(ns.map some)[k]? =some (some y):=by rw[getElem?_map,e1'];rfl
   rw[<-CS.at_,getElem?_map]at e3
   rw[getElem?_map]at e2'
   cases hj:caps[k]? with
   |none=>rw[hj]at e3;cases e3
   |some j=>
    rw[hj]at e3 e2'
    have e4:X.N[j]? =some y:=Option.some.inj e3
    have e5:(σ[j]?).getD none=some v:=Option.some.inj e2'
    refine⟨j,e4, ?_,CS.nsf y (mem_of_getElem? e1')⟩
    cases hσ:σ[j]? with
    |none=>rw[hσ]at e5;cases e5
    |some z=>rw[hσ]at e5;have e6:z=some v:=e5;rw[e6]
 have visfree:∀y,scope.names.lookup y=some .free->X.env.kindOf y=some .cell\/X.env.kindOf y=some .free:=λy hy=>CS.free (y,.free) (PySem.mem_of_lookup hy) rfl
 have I0:Inv (X.comp (x::ns) scope cl C s2 H2 fp) (pins++ [(s2.heap.objs.size,LCg.lst [])]) (capσ caps σ none) H2 {s2 with heap:=h₁,toks:=s2.toks+([]:List (Str×Value)).length}:=by
  obtain⟨m2,hn2,hl2⟩:=I2.loc
  refine⟨ok',rfl,I2.bare,Un.kept old,⟨_,hns₁,λk y v e1 e2 e3=> ?_⟩,λy c e=> ?_,fresh2 C (by rw[hC];exact le_succ _),λy c e=>I2.freeC y c (clsub y c e),λp hp=> ?_,I2.hok.kept old, ?_⟩
  ·obtain⟨j,q1,q2,q3⟩:=capget k y v e1 e2
   have vf:=visfree y q3
   obtain⟨u,ru,lk⟩:=hl2 j y v q1 q2 (vf.elim (λz=> .inr (.inl z)) λz=> .inr (.inr z))
   refine⟨u,ru,.inr ⟨P3 q3, ?_⟩⟩
   obtain⟨c,hcl'⟩:=clhas y (PySem.mem_of_lookup q3)
   refine⟨c,hcl', ?_⟩
   rcases lk with⟨k1,_⟩|⟨_,c',e',z⟩
   ·rcases vf with vf|vf<;>(rw[k1]at vf;cases vf)
   ·have q:=clsub y c hcl'
    rw[e']at q
    cases q
    exact z.keeps old
  ·obtain⟨v,z⟩:=I2.cell y c (clsub y c e)
   exact⟨v,z.keeps old⟩
  ·rcases mem_append.mp hp with hp|hp
   ·obtain⟨a1,a2,a3,a4,a5⟩:=I2.pin p (mem_append_left _ hp)
    refine⟨old _ _ a1,a2,(below _ (lt_size a1)).1,λz=> ?_,a5⟩
    rcases cZ (I2.stkSub _ z)with z|z
    ·exact a3 z
    ·exact a4 z
   ·rcases mem_append.mp hp with hp|hp
    ·obtain⟨a1,a2,a3,a4,a5⟩:=I2.pin p (mem_append_right _ hp)
     refine⟨old _ _ a1,a2,(below _ (lt_size a1)).1,λz=> ?_,a5⟩
     rcases cZ (I2.stkSub _ z)with z|z
     ·exact a3 z
     ·exact a4 z
    ·have e:p=(s2.heap.objs.size,LCg.lst []):=by simpa using hp
     subst e
     refine⟨hacc,fresh2 _ (Nat.le_refl _),hDC,λz=> ?_,λv z=>by cases z⟩
     rcases cZ (I2.stkSub _ z)with z|z
     ·exact absurd I2.lt (by rw[<-z];exact lt_irrefl _)
     ·exact I2.nofs (Nat.le_refl _) z
  ·show(capσ caps σ none).length=(x::ns).length
   have:=congrArg List.length CS.at_
   simp only[length_map]at this
   simp[capσ,this]
 have loop:∀s₃:Shared,s₃={s2 with heap:=h₁,toks:=s2.toks+([]:List (Str×Value)).length}->
   codeAny (model X.prog X.w) X.A (.compLoop (.ListComp elt [⟨.Name x px,iter,ifs,0⟩] scope pos) 0 (.ref it) (.ref s2.heap.objs.size) (compEnvC scope cl C X.env))
    (compPost (model X.prog X.w) X.A X.xe use Q (.ref s2.heap.objs.size) C) s₃:=by
  rintro s₃ rfl
  refine codeAny_compLoop_tests (λn s'=>∃i ys us H',Inv (X.comp (x::ns) scope cl C s2 H2 fp) (pins++ [(s2.heap.objs.size,LCg.lst us)]) (capσ caps σ none) H' s'/\Vals ys us/\tn i s'.heap/\(∀b∈fp,H' b=none)/\W i n ys H') ?_ m0
   ⟨0,[],[],H2,I0,.nil,T.keep _ _ _ st2 (λb _ o e=>old b o e),λb hb=>(f2 b hb).1,w0⟩
  rintro n s3 ⟨i,ys,us,H3,I3,rv,st3,fr3,w3⟩
  obtain⟨hle,hstep⟩:=turn i n ys H3 w3
  have pinlt:∀p∈X.pn++pins,p.1<s2.heap.objs.size:=λp hp=>lt_size (I2.pin p hp).1
  have stat:∀ {H':Hp},(∀b∈fp,H' b=none)->∀b∈fp,PJ (X.comp (x::ns) scope cl C s2 H2 fp) (pins++ [(s2.heap.objs.size,LCg.lst us)]) H' b:=λhn b hb=>
   ⟨hn b hb,(below b (nfp b hb)).1,ok'.exfs b hb,.inl hb,λy c e z=>(f2 b hb).2.2.2.2.1 y c (clsub y c e) z,λp hp=>by
    rcases mem_append.mp hp with hp|hp
    ·exact(f2 b hb).2.2.2.2.2 p (mem_append_left _ hp)
    ·rcases mem_append.mp hp with hp|hp
     ·exact(f2 b hb).2.2.2.2.2 p (mem_append_right _ hp)
     ·have e:p=(s2.heap.objs.size,LCg.lst us):=by simpa using hp
      subst e
      exact Ne.symm (below b (nfp b hb)).2⟩
  have memD:∀(l:List (Addr×Obj)),(s2.heap.objs.size,LCg.lst us)∈(X.comp (x::ns) scope cl C s2 H2 fp).pn++((pins++ [(s2.heap.objs.size,LCg.lst us)])++l):=λl=>
   mem_append_right _ (mem_append_left _ (mem_append_right _ mem_cons_self))
  rcases hstep with⟨stop,r⟩|⟨go,Nx,hNx,step⟩
  ·refine thn (T.done (X.comp (x::ns) scope cl C s2 H2 fp) rfl rfl rfl hc i _ s3 _ H3 _ I3 (stat fr3) st3 stop) λr' s4 ⟨hr,I4⟩=> ?_
   subst hr
   have pD:=I4.pin (s2.heap.objs.size,LCg.lst us) (mem_append_right _ (mem_append_right _ mem_cons_self))
   have hDn:H3 s2.heap.objs.size=none:=pD.2.1
   have hCn:H3 C=none:=I4.free
   have b4:Un (frs X.stack) fp H2 H3 s2.heap s4.heap:=I4.base
   have u4:Un (frs X.stack) fp H2 (upd H3 s2.heap.objs.size (.lst ys)) s2.heap s4.heap:=
    ⟨b4.keep,b4.slot,λb o e n hx=>by rw[B8 (below b (lt_size e)).2];exact b4.free b o e n hx,b4.there,
     λb xs q=>by rw[B8 (C6 (b4.tups b xs q) hDn)];exact b4.tups b xs q,λb o u q=>by rw[B8 (C6 (b4.frzs b o u q) hDn)];exact b4.frzs b o u q,
     λb ps q=>by
      obtain⟨m1,e1⟩:=b4.tbls b ps q
      exact⟨m1,by rw[B8 (C6 e1 hDn)];exact e1⟩⟩
   have k4:HOk X.prog X.w (upd H3 s2.heap.objs.size (.lst ys)) s4.heap:=λb u e=>by
    by_cases hb:b=s2.heap.objs.size
    ·subst hb
     rw[upd_same]at e
     cases e
     exact⟨hle,us,_,rv,pD.1⟩
    ·rw[B8 hb]at e
     exact(I4.hok b u e).stay (λc v _ q=>q) (λc q=>by rw[B8 (C6 q hDn)];exact q) λc xs q=>by rw[B8 (C6 q hDn)];exact q
   have J4:Inv X pins σ (upd H3 s2.heap.objs.size (.lst ys)) s4:=I2.call' (ch:=fp) I4.os u4 k4 I4.bare λb hb=>⟨(f2 b hb).2.2.2.1,(f2 b hb).2.1,(f2 b hb).2.2.2.2.1,(f2 b hb).2.2.2.2.2⟩
   obtain⟨mC,hnC,_⟩:=I4.loc
   exact hend _ C s4 H3 ys J4 hDn r ⟨mC,hnC⟩ (by rw[B8 (Ne.symm hDC)];exact hCn) (Ne.symm (below _ I2.lt).1) (by rw[hC];exact Nat.le_succ_of_le I2.sz) (λy c e=>(below c (ltC y c e)).1) λp hp=>(below _ (pinlt p hp)).1
  ·refine thn (T.item (X.comp (x::ns) scope cl C s2 H2 fp) rfl rfl rfl hc i _ s3 _ H3 _ I3 (stat fr3) st3 go) λr' s4 ⟨u,hr,h4⟩=> ?_
   subst hr
   refine KQ h4 λ⟨v,H5,I5,r5,y5,st5,fr5⟩=> ?_
   have I5':=I5.pinned (stat fr5) (T.obj _ _ st5)
   refine wpAny_assign_Name (FY (X:=X.comp (x::ns) scope cl C s2 H2 fp) (i:=0) I5' CS.nd rfl (.inl (lookup_relabel_local CS.var)) r5 (λs6 I6=> ?_) (.inr (lookup_relabel_local CS.var)))
   have I6':Inv (X.comp (x::ns) scope cl C s2 H2 fp) ((pins++ [(s2.heap.objs.size,LCg.lst us)])++CP fp s4.heap) (capσ caps σ (some v)) H5 s6:=I6
   refine wpAny_mono (ht cl C s2 H2 fp _ s6 _ H5 _ I6' (step v H5 y5)) (λb s7 ⟨H7,I7,q7⟩=> ?_) (λ_ _ e=>e.elim)
   have weak:∀ {H':Hp} {s':Shared} {pl:List (Addr×Obj)},Inv (X.comp (x::ns) scope cl C s2 H2 fp) pl (capσ caps σ (some v)) H' s'->Inv (X.comp (x::ns) scope cl C s2 H2 fp) pl (capσ caps σ none) H' s':=λ{H' s' pl} J'=>
    J'.weak rfl λk z e=>by
     cases k with
     |zero=>cases e
     |succ k=>exact e
   have keepT:∀ {H':Hp} {s':Shared},Inv (X.comp (x::ns) scope cl C s2 H2 fp) ((pins++ [(s2.heap.objs.size,LCg.lst us)])++CP fp s4.heap) (capσ caps σ (some v)) H' s'->tn (i+1) s'.heap/\∀b∈fp,H' b=none:=λ{H' s'} J'=>by
    refine⟨T.keep _ _ _ st5 λb hb o e=>(J'.pin (b,o) (mem_append_right _ (mem_append_right _ (U6 hb e)))).1,λb hb=> ?_⟩
    obtain⟨o,e,d⟩:=T.obj _ _ st5 b hb
    exact(J'.pin (b,o) (mem_append_right _ (mem_append_right _ (U6 hb e)))).2.1
   cases b with
   |false=>
    rw[if_neg nZ]at q7⊢
    obtain⟨m',hm,w7⟩:=hNx _ _ q7
    exact⟨m',hm,i+1,ys,us,H7,weak I7.unpinned,rv,(keepT I7).1,(keepT I7).2,w7⟩
   |true=>
    rw[if_pos rfl]at q7⊢
    refine wpAny_mono (he cl C s2 H2 fp _ s7 _ H7 _ I7 q7) (λyv s8 ⟨y,H8,I8,ry,n8⟩=> ?_) (λ_ _ e=>e.elim)
    obtain⟨m',hm,w8⟩:=hNx _ _ n8
    have pD:=I8.pin (s2.heap.objs.size,LCg.lst us) (memD _)
    have hul:us.length=ys.length:=rv.length.symm
    refine append_at (hsz:=by show us.toArray.size<=sizeLine;rw[size_toArray,hul];exact hle) pD.1 λh9 hs9 hD9=> ?_
    have I8p:Inv (X.comp (x::ns) scope cl C s2 H2 fp) pins (capσ caps σ none) H8 s8:=weak I8.unpinned.unpinned
    have I9:Inv (X.comp (x::ns) scope cl C s2 H2 fp) pins (capσ caps σ none) H8 {s8 with heap:=h9}:=I8p.turned (t':=s8.toks) (it:=s2.heap.objs.size) (λb o hb e=>(hs9.2 b hb).trans e) pD.2.1 hDC (.inr (Nat.le_refl _)) (λy c e z=>ne_of_lt (ltC y c (clsub y c e)) z) λp hp=>ne_of_lt (pinlt p hp)
    have I9':Inv (X.comp (x::ns) scope cl C s2 H2 fp) (pins++ [(s2.heap.objs.size,LCg.lst (us++ [yv]))]) (capσ caps σ none) H8 {s8 with heap:=h9}:=I9.pins_of λp hp=>by
     rcases mem_append.mp hp with hp|hp
     ·exact I9.pin p (mem_append_right _ hp)
     ·have e:p=(s2.heap.objs.size,LCg.lst (us++ [yv])):=by simpa using hp
      subst e
      exact⟨hD9.trans (congrArg some (LCg.lst_snoc us yv)),pD.2.1,hDC,pD.2.2.2.1,λv z=>by cases z⟩
    refine⟨m',hm,i+1,ys++ [y],us++ [yv],H8,I9',rv.append (.cons ry .nil), ?_,(keepT I8).2,w8⟩
    exact T.keep _ _ _ (keepT I8).1 λb hb o e=>(hs9.2 b (below b (nfp b hb)).2).trans e
 exact codeAny_compStart_list (loop _ rfl) (T.self X.A 0 _ _ _ (T.keep _ _ _ st2 (λb _ o e=>old b o e)) (loop _ rfl))
theorem VP{K:FZ}{a:Addr}{xs:List V}{caps:List Nat}{tt:TT}{te:TE}{σ:St}{H:Hp}{R:List V->Hp->Prop}(Pv:Nat->List V->Hp->Prop)(h0:Pv 0 [] H)(hl:∀i ys H,i<=xs.length->Pv i ys H->SqT K H a xs/\ys.length<=sizeLine)
  (hs:∀i x ys H,xs[i]? =some x->Pv i ys H->tt (capσ caps σ (some x)) H λb H2=>if b=true then te (capσ caps σ (some x)) H2 λy H3=>Pv (i+1) (ys++ [y]) H3 else Pv (i+1) ys H2)(hd:∀ys H,Pv xs.length ys H->R ys H):
  ∃W:Nat->Nat->List V->Hp->Prop,(∃m,W 0 m [] H)/\∀i m ys H,W i m ys H->ys.length<=sizeLine/\(((Itt K a).stop i H/\R ys H)\/((Itt K a).go i H/\∃N:List V->Hp->Prop,(∀ys' H',N ys' H'->∃m',m'<m/\W (i+1) m' ys' H')/\∀v H',(Itt K a).yld i H v H'->
   tt (capσ caps σ (some v)) H' λb H2=>if b=true then te (capσ caps σ (some v)) H2 λy H3=>N (ys++ [y]) H3 else N ys H2)):=by
 refine⟨λi m ys H=>m=xs.length - i/\i<=xs.length/\Pv i ys H,⟨xs.length,by simp,zero_le _,h0⟩, ?_⟩
 rintro i m ys H ⟨rfl,hi,p⟩
 obtain⟨q,hz⟩:=hl i ys H hi p
 refine⟨hz, ?_⟩
 by_cases hlt:i<xs.length
 ·refine .inr ⟨⟨xs,xs[i],q,by simp[hlt]⟩,Pv (i+1),λys' H' p'=>⟨xs.length - (i+1),by omega,rfl,hlt,p'⟩,λx H' y=> ?_⟩
  obtain⟨e,y⟩:=y
  subst e
  exact hs i x ys _ (y xs q) p
 ·have e:i=xs.length:=by omega
  subst e
  exact .inl ⟨⟨xs,q,Nat.le_refl _⟩,hd ys H p⟩
theorem CV{K:FZ}{a:Addr}{xs:List V}{caps:List Nat}{tt:TT}{te:TE}{σ:St}{H:Hp}{R:List V->Hp->Prop}(Pv:Nat->List V->Hp->Prop)(h0:Pv 0 [] H)(hl:∀i ys H,i<=xs.length->Pv i ys H->SqL K H a xs/\ys.length<=sizeLine)
  (hs:∀i x ys H,xs[i]? =some x->Pv i ys H->tt (capσ caps σ (some x)) H λb H2=>if b=true then te (capσ caps σ (some x)) H2 λy H3=>Pv (i+1) (ys++ [y]) H3 else Pv (i+1) ys H2)(hd:∀ys H,Pv xs.length ys H->R ys H):
  ∃W:Nat->Nat->List V->Hp->Prop,(∃m,W 0 m [] H)/\∀i m ys H,W i m ys H->ys.length<=sizeLine/\(((Itl K a).stop i H/\R ys H)\/((Itl K a).go i H/\∃N:List V->Hp->Prop,(∀ys' H',N ys' H'->∃m',m'<m/\W (i+1) m' ys' H')/\∀v H',(Itl K a).yld i H v H'->
   tt (capσ caps σ (some v)) H' λb H2=>if b=true then te (capσ caps σ (some v)) H2 λy H3=>N (ys++ [y]) H3 else N ys H2)):=by
 refine⟨λi m ys H=>m=xs.length - i/\i<=xs.length/\Pv i ys H,⟨xs.length,by simp,zero_le _,h0⟩, ?_⟩
 rintro i m ys H ⟨rfl,hi,p⟩
 obtain⟨q,hz⟩:=hl i ys H hi p
 refine⟨hz, ?_⟩
 by_cases hlt:i<xs.length
 ·refine .inr ⟨⟨xs,xs[i],q,by simp[hlt]⟩,Pv (i+1),λys' H' p'=>⟨xs.length - (i+1),by omega,rfl,hlt,p'⟩,λx H' y=> ?_⟩
  obtain⟨e,y⟩:=y
  subst e
  exact hs i x ys _ (y xs q) p
 ·have e:i=xs.length:=by omega
  subst e
  exact .inl ⟨⟨xs,q,Nat.le_refl _⟩,hd ys H p⟩
theorem AL{lo:Int}{n:Nat}{caps:List Nat}{tt:TT}{te:TE}{σ:St}{H:Hp}{R:List V->Hp->Prop}(Pv:Nat->List V->Hp->Prop)(h0:Pv 0 [] H)(hl:∀i ys H,i<=n->Pv i ys H->ys.length<=sizeLine)
  (hs:∀i ys H,i<n->Pv i ys H->tt (capσ caps σ (some (.int (lo+i)))) H λb H2=>if b=true then te (capσ caps σ (some (.int (lo+i)))) H2 λy H3=>Pv (i+1) (ys++ [y]) H3 else Pv (i+1) ys H2)(hd:∀ys H,Pv n ys H->R ys H):
  ∃W:Nat->Nat->List V->Hp->Prop,(∃m,W 0 m [] H)/\∀i m ys H,W i m ys H->ys.length<=sizeLine/\(((Itr lo n).stop i H/\R ys H)\/((Itr lo n).go i H/\∃N:List V->Hp->Prop,(∀ys' H',N ys' H'->∃m',m'<m/\W (i+1) m' ys' H')/\∀v H',(Itr lo n).yld i H v H'->
   tt (capσ caps σ (some v)) H' λb H2=>if b=true then te (capσ caps σ (some v)) H2 λy H3=>N (ys++ [y]) H3 else N ys H2)):=by
 refine⟨λi m ys H=>m=n - i/\i<=n/\Pv i ys H,⟨n,by simp,zero_le _,h0⟩, ?_⟩
 rintro i m ys H ⟨rfl,hi,p⟩
 refine⟨hl i ys H hi p, ?_⟩
 by_cases hlt:i<n
 ·refine .inr ⟨hlt,Pv (i+1),λys' H' p'=>⟨n - (i+1),by omega,rfl,hlt,p'⟩,λx H' y=> ?_⟩
  obtain⟨e,y⟩:=y
  subst e y
  exact hs i ys _ hlt p
 ·have e:i=n:=by omega
  subst e
  exact .inl ⟨Nat.le_refl _,hd ys H p⟩
theorem KM{x:Str}{px:Pos}{iter elt:Expr}{ifs:List Expr}{scope sc:Scope}{N:List Str}{pos:Pos}{wi:TI}{tt:TT}{te:TE}{caps:List Nat}{ns:List Str}
  (CS:CompScope N sc scope x caps ns)(hN':X.N=N)(hsc:X.env.scope=sc)(hc:X.calm=true)(hi:PI X (.Name x px) iter wi)
  (ht:∀cl C s H fp,PTs (X.comp (x::ns) scope cl C s H fp) ifs tt)(he:∀cl C s H fp,PE (X.comp (x::ns) scope cl C s H fp) elt te)
  (hs:∀v,foldedSetIterable iter X.env v=pure v:=by intro _;rfl):
  PE X (.ListComp elt [⟨.Name x px,iter,ifs,0⟩] scope pos) (bmZ wi caps tt te):=by
 intro pins s σ H Q I h
 subst hN';subst hsc
 rw[eval_ListComp]
 refine IE CS hc hi ht he hs I h ?_
 rintro D C s' H' ys I' hD r ⟨m,hn⟩ c1 c2 c3 c4 c5
 exact⟨m,hn,λh' hs'=>⟨.ref D,_,I'.turned (t':=s'.toks) (λb o hb e=>(hs'.2 b hb).trans e) c1 c2 (.inr c3) c4 c5,rfl,r D hD⟩⟩
theorem AK{i:Nat}{x y:Str}{px py:Pos}{iter elt:Expr}{ifs:List Expr}{scope sc:Scope}{N:List Str}{pos spos:Pos}{wi:TI}{tt:TT}{te:TE}{caps:List Nat}{ns:List Str}(hN:X.N.Nodup)(hi:X.N[i]? =some y)
  (hy:X.env.scope.names.lookup y=some .local)(CS:CompScope N sc scope x caps ns)(hN':X.N=N)(hsc:X.env.scope=sc)(hc:X.calm=true)(hit:PI X (.Name x px) iter wi)
  (ht:∀cl C s H fp,PTs (X.comp (x::ns) scope cl C s H fp) ifs tt)(he:∀cl C s H fp,PE (X.comp (x::ns) scope cl C s H fp) elt te)
  (hsw:swapsWith (.ListComp elt [⟨.Name x px,iter,ifs,0⟩] scope pos) (some (.Name y py)) spos.line X.env=pure true:=by rfl)
  (hs:∀v,foldedSetIterable iter X.env v=pure v:=by intro _;rfl):
  PS X (.Assign [.Name y py] (.ListComp elt [⟨.Name x px,iter,ifs,0⟩] scope pos) spos) (bAZ (bmZ wi caps tt te) (WP i)):=by
 intro pins s σ H D I h
 subst hN';subst hsc
 rw[exec_Assign_Name_used _ _ _ _ hsw]
 refine bZ (wpAny_standAt (bZ ?_))
 show wpAny _ X.A (do let _<-comprehension (.ListComp elt [⟨.Name x px,iter,ifs,0⟩] scope pos) scope X.env _ (newList []) false (eval iter X.env) (some (assign (.Name y py) X.env))) _ _ s
 refine bZ (wpAny_mono (IE (use:=some (assign (.Name y py) X.env)) (Q:=λ_ s'=>SP X pins D .next s') CS hc hit ht he hs I h ?_) (λ_ s' hq=>pZ (pZ hq)) λ_ _ e=>e)
 rintro D' C s' H' ys I' hD r ⟨m,hn⟩ c1 c2 c3 c4 c5
 show wpAny _ _ (assign (.Name y py) X.env (.ref D')) _ _ s'
 refine wpAny_assign_Name (IJ (v:=.ref D') I' hN hi (.inl hy) rfl (λs'' I'' ⟨a,sb,ha⟩=> ?_) (.inr hy))
 have hCa:C≠a:=by
  rcases ha with e|e
  ·rw[e];exact c2
  ·exact Ne.symm (c4 y a e)
 exact⟨m,hn.sameBut sb hCa,λh' hs'=>⟨_,_,I''.turned (t':=s''.toks) (λb o hb e=>(hs'.2 b hb).trans e) c1 c2 (.inr c3) c4 c5,r D' hD⟩⟩
end
theorem L9:bootBuiltins "len"=some (.builtin "len"):=by decide +kernel
theorem WA:bootBuiltins "max"=some (.builtin "max"):=by decide +kernel
theorem ccZ:bootBuiltins "min"=some (.builtin "min"):=by decide +kernel
theorem D7:bootBuiltins "isinstance"=some (.builtin "isinstance"):=by decide +kernel
theorem brZ:bootBuiltins "abs"=some (.builtin "abs"):=by decide +kernel
theorem bOZ:bootBuiltins "all"=some (.builtin "all"):=by decide +kernel
theorem KF:bootBuiltins "sum"=some (.builtin "sum"):=by decide +kernel
theorem UJ:bootBuiltins "sorted"=some (.builtin "sorted"):=by decide +kernel
theorem M2:bootBuiltins "list"=some (.type "list"):=by decide +kernel
theorem N5:bootBuiltins "tuple"=some (.type "tuple"):=by decide +kernel
theorem JW:bootBuiltins "int"=some (.type "int"):=by decide +kernel
theorem QS:bootBuiltins "bool"=some (.type "bool"):=by decide +kernel
theorem YA:bootBuiltins "str"=some (.type "str"):=by decide +kernel
theorem aPZ:bootBuiltins "dict"=some (.type "dict"):=by decide +kernel
section
variable{X:Cx}
theorem UX(hc:X.calm=true):CallR X (.builtin "max") (λxs H Q=>∃(p:Addr) (ns:List Int),xs=[.ref p]/\SqL X.K H p (ns.map V.int)/\0<ns.length/\∀M:Int,M∈ns->(∀a∈ns,a<=M)->Q (.int M) H):=by
 intro pins s σ H vs us Q I r h
 obtain⟨p,ns,rfl,hS,hne,q⟩:=h
 obtain⟨u,rfl,ru⟩:=R7 r
 cases ru
 obtain⟨its,rv,pl,hz⟩:=I.list hS
 have hi:IntsAre its ns:=PM rv
 obtain⟨xs,e⟩:=hi.allInts.items
 have hns:ns=xs.toList.map (·.1):=by
  rw[<-hi.numsOf,<-nums_intItems,<-e]
 have hsz:0<xs.size:=by
  have h3:=hne;rw[hns,length_map,Array.length_toList]at h3;exact h3
 have hl:=pl.isList
 rw[e]at hl
 refine max_intList (I.ok.hd hc) hl hsz λv h' tk hv hk=> ?_
 obtain⟨t,rfl⟩:=intItems_at hv
 obtain⟨h1,h2⟩:=argBest_gt (numAt xs) (xs.size - 1)
 refine⟨.int _,H,I.kept hk,⟨_,rfl⟩,q _ ?_ λa ha=> ?_⟩
 ·rw[hns,numAt_eq];exact getD_mem (by rw[length_map,Array.length_toList];omega)
 ·rw[hns]at ha
  obtain⟨j,hj,rfl⟩:=mem_getD ha
  rw[length_map,Array.length_toList]at hj
  rw[<-numAt_eq];exact h2 j (by omega)
theorem YV(hc:X.calm=true):CallR X (.builtin "max") (λxs H Q=>(∃i j,xs=[.int i,.int j]/\Q (.int (if j>i then j else i)) H)\/
  (∃(p:Addr) (ns:List Int),xs=[.ref p]/\SqL X.K H p (ns.map V.int)/\0<ns.length/\∀M:Int,M∈ns->(∀a∈ns,a<=M)->Q (.int M) H)):=(UV hc).or (UX hc)
theorem op_mul_str:OpR X (binaryOp .Mult) (λx y H Q=>∃i n,x=.str i/\y=.int n/\0<=n/\n<=16777216/\i.length*n.toNat<=16777216/\Q (.str (Txt.mul i n)) H):=by
 intro pins s σ H x y v u Q I rx ry h
 obtain⟨i,n,rfl,rfl,h0,h1,h2,q⟩:=h
 obtain⟨t,rfl⟩:=rx
 obtain⟨t',rfl⟩:=ry
 exact SB.mul (mulOk_of i.length n.toNat (Nat.le_refl _) (by omega) (by omega) (by omega) h2) λt'' k=>⟨.str _,H,I.tok _,⟨_,rfl⟩,q⟩
def KN:V->Bool
 | .byt _=>false
 | .flt _=>false
 |_=>true
theorem UM{A:Around}{s:Shared}{x:V}{u v:Value}(r:RelV x u)(r':RelV x v)(hx:KN x=true):SeqAt.EqAt A s u v true:=by
 cases x with
 |non=>cases r;cases r';exact SeqAt.EqAt.same _
 |bl b=>cases r;cases r';exact SeqAt.EqAt.same _
 |int i=>
  obtain⟨t,rfl⟩:=r;obtain⟨t',rfl⟩:=r'
  have:=SeqAt.EqAt.int_int (A:=A) (s:=s) i t i t'
  simpa using this
 |str i=>
  obtain⟨t,rfl⟩:=r;obtain⟨t',rfl⟩:=r'
  have:=SeqAt.EqAt.str_str (A:=A) (s:=s) i t i t'
  simpa using this
 |ref a=>cases r;cases r';exact SeqAt.EqAt.same _
 |ty n=>cases r;cases r';exact SeqAt.EqAt.same _
 |byt b=>cases hx
 |flt b=>cases hx
theorem IC{A:Around}{s:Shared}{xs:List V}{us vs:List Value}(r:Vals xs us)(r':Vals xs vs)(hx:xs.all KN=true)(j:Nat)(h1:j<us.toArray.size)(h2:j<vs.toArray.size):SeqAt.EqAt A s us.toArray[j] vs.toArray[j] true:=by
 have hj:j<xs.length:=by rw[r.length];simpa using h1
 obtain⟨u,hu,ru⟩:=r.get (i:=j) (x:=xs[j]) (by simp[hj])
 obtain⟨v,hv,rv⟩:=r'.get (i:=j) (x:=xs[j]) (by simp[hj])
 have e1:us.toArray[j]=u:=by
  have:us[j]? =some us.toArray[j]:=by simp
  rw[hu]at this;exact(Option.some.inj this).symm
 have e2:vs.toArray[j]=v:=by
  have:vs[j]? =some vs.toArray[j]:=by simp
  rw[hv]at this;exact(Option.some.inj this).symm
 rw[e1,e2]
 have hp:=all_eq_true.mp hx xs[j] (List.getElem_mem hj)
 exact UM ru rv hp
def PR(K:FZ)(k:Bool):R2:=λx y H Q=>∃a b xs,x=.ref a/\y=.ref b/\SqL K H a xs/\SqL K H b xs/\xs.all KN=true/\Q (.bl k) H
theorem XX(hu:X.A.units<cLine):OpR X (compareOp .Eq) (PR X.K true):=by
 intro pins s σ H x y v u Q I rx ry h
 obtain⟨a,b,xs,rfl,rfl,ha,hb,hp,q⟩:=h
 cases rx;cases ry
 obtain⟨its,r,pl,_⟩:=I.list ha
 obtain⟨its2,r2,pl2,_⟩:=I.list hb
 have hl:its.length=its2.length:=by rw[<-r.length,<-r2.length]
 refine SeqAt.eq_listAt (e:=λ_=>true) pl.isList pl2.isList (by simpa using hl) hu (λj h1 h2=>IC r r2 hp j h1 h2) ⟨.bl true,H,I, ?_,q⟩
 have:((List.range its.toArray.size).all λ_=>true)=true:=by simp
 rw[this];rfl
theorem bvZ(hu:X.A.units<cLine):OpR X (compareOp .NotEq) (PR X.K false):=by
 intro pins s σ H x y v u Q I rx ry h
 obtain⟨a,b,xs,rfl,rfl,ha,hb,hp,q⟩:=h
 cases rx;cases ry
 obtain⟨its,r,pl,_⟩:=I.list ha
 obtain⟨its2,r2,pl2,_⟩:=I.list hb
 have hl:its.length=its2.length:=by rw[<-r.length,<-r2.length]
 refine SeqAt.RcNeAt.lists (e:=λ_=>true) pl.isList pl2.isList (by simpa using hl) hu (λj h1 h2=>IC r r2 hp j h1 h2) X.prog X.w X.xe _ ⟨.bl false,H,I, ?_,q⟩
 have:((List.range its.toArray.size).all λ_=>true)=true:=by simp
 rw[this];rfl
theorem WX:CallR X (.builtin "isinstance") (λxs H Q=>∃x c t b,xs=[x,.ty c]/\TyOf X.K H x t/\kitOne X.K t (.type c)=some b/\Q (.bl b) H):=by
 intro pins s σ H xs us Q I r h
 obtain⟨x,c,t,b,rfl,ty,hk,q⟩:=h
 obtain⟨u,v,rfl,ru,rv⟩:=QQ r
 cases rv
 exact TV I ru ty hk λtk=>⟨.bl b,H,I.tok _,rfl,q⟩
structure TopD (w:World) (K:FZ) (a:Addr) (kvs:List (Str×V)):Prop where
 ex:∃(es:Array DictEntry) (n:Nat),K.lookup a=some ⟨.type "dict",none,.dict es n, #[]⟩/\PySem.W.KeysLit w.params es.toList/\Paired (λ(p:Str×V) (e:DictEntry)=>(∃t,e.key=.str p.1 t)/\RelV p.2 e.val) kvs es.toList
 lo:(a==sysModules)=false
theorem DT{x:Str}:∀ {kvs:List (Str×V)} {es:List DictEntry},Paired (λ(p:Str×V) (e:DictEntry)=>(∃t,e.key=.str p.1 t)/\RelV p.2 e.val) kvs es->
  RelO (kvs.lookup x) ((es.find? λe=>Value.isStrOf x e.key).map (·.val))
 |_,_,.nil=>trivial
 |(k,v)::kvs,e::es,.cons ⟨⟨t,hk⟩,rv⟩ r=>by
  have hk':e.key=.str k t:=hk
  rw[lookup_cons,find?_cons,hk']
  by_cases hx:x=k
  ·subst hx
   have h1:Value.isStrOf x (.str x t)=true:=by simp[Value.isStrOf]
   rw[h1,beq_self_eq_true]
   exact rv
  ·have h1:Value.isStrOf x (.str k t)=false:=by
    cases h:Value.isStrOf x (.str k t)with
    |false=>rfl
    |true=>
     obtain⟨t',e'⟩:=Value.isStrOf_shape (x:=x) (v:=.str k t) h
     injection e' with e1 _
     exact absurd e1.symm hx
   have h2:(x==k)=false:=beq_eq_false_iff_ne.mpr hx
   rw[h1,h2]
   exact DT r
theorem TopD.map{w:World}{K:FZ}{a:Addr}{kvs:List (Str×V)}(T:TopD w K a kvs){prog:Program}{h:Heap}(KX:K.In h):
  ∃f:Str->Option Value,h.MapOf (strKind prog w) a f/\∀x,RelO (kvs.lookup x) (f x):=by
 obtain⟨es,n,hl,hk,hp⟩:=T.ex
 refine⟨λk=>findBy Value.isStrOf es k,PySem.W.mapOf_K KX hl hk,λx=> ?_⟩
 have q:=DT (x:=x) hp
 show RelO (List.lookup x kvs) ((es.find? λe=>Value.isStrOf x e.key).map (·.val))
 rw[<-Array.find?_toList]
 exact q
def DJ(w:World)(K:FZ):R2:=λx y H Q=>∃a k kvs v,x=.ref a/\y=.str k/\TopD w K a kvs/\kvs.lookup k=some v/\Q v H
theorem bYZ:IxR X (DJ X.w X.K):=by
 intro value slice pins s σ H x y v u Q I rx ry h hs
 obtain⟨a,k,kvs,z,rfl,rfl,T,hz,q⟩:=h
 cases rx
 obtain⟨t,rfl⟩:=ry
 obtain⟨f,hm,hf⟩:=T.map (prog:=X.prog) I.kIn
 have hr:=hf k
 rw[hz]at hr
 obtain⟨w',e,r⟩:=hr.some_of
 exact tail_any hm.typeIs slot_dict_getitem.lookup (wpAny_getItem_of (strKind_is X.prog X.w k t) hm e ⟨z,H,I.tok _,r,q⟩) hs
theorem TU:OpR X (compareOp .In) (λx y H Q=>∃k a kvs,x=.str k/\y=.ref a/\TopD X.w X.K a kvs/\Q (.bl (kvs.lookup k).isSome) H):=by
 intro pins s σ H x y v u Q I rx ry h
 obtain⟨k,a,kvs,rfl,rfl,T,q⟩:=h
 cases ry
 obtain⟨t,rfl⟩:=rx
 obtain⟨f,hm,hf⟩:=T.map (prog:=X.prog) I.kIn
 have hr:=hf k
 have e:(f k).isSome=(kvs.lookup k).isSome:=by
  cases h1:kvs.lookup k with
  |none=>rw[h1]at hr;rw[hr.none_of];rfl
  |some z=>rw[h1]at hr;obtain⟨w',e,_⟩:=hr.some_of;rw[e];rfl
 exact wpAny_in_of (strKind_is X.prog X.w k t) T.lo hm ⟨.bl _,H,I.tok _,by rw[e];rfl,q⟩
theorem S6:OpR X (binaryOp .Add) (λx y H Q=>rI0 (λi j=> .int (i+j)) x y H Q\/(∃i j,x=.str i/\y=.str j/\i.length+j.length<=sizeLine/\Q (.str (i++j)) H)\/b9Z x y H Q):=op_add.or (op_add_str.or op_cat)
theorem dZZ:OpR X (binaryOp .Mult) (λx y H Q=>rI CMul (λi j=> .int (i*j)) x y H Q\/(∃i n,x=.str i/\y=.int n/\0<=n/\n<=16777216/\i.length*n.toNat<=16777216/\Q (.str (Txt.mul i n)) H)\/cVZ x y H Q):=op_mul.or (op_mul_str.or cgZ)
theorem uEq(hu:X.A.units<cLine):OpR X (compareOp .Eq) (λx y H Q=>rEq x y H Q\/PR X.K true x y H Q):=op_eq.or (XX hu)
theorem uNe(hu:X.A.units<cLine):OpR X (compareOp .NotEq) (λx y H Q=>rNe x y H Q\/PR X.K false x y H Q):=op_ne.or (bvZ hu)
theorem uIn:OpR X (compareOp .In) (λx y H Q=>(∃i j,x=.str i/\y=.str j/\Q (.bl (!(Builtin.Str.occurrences j i 0 j.length 1).isEmpty)) H)\/rIn X.K false x y H Q\/(∃k a kvs,x=.str k/\y=.ref a/\TopD X.w X.K a kvs/\Q (.bl (kvs.lookup k).isSome) H)):=op_in_str.or (op_in_seq.or TU)
theorem crZ:IxR X (λx y H Q=>UP X.K x y H Q\/VA X.K x y H Q\/SR x y H Q\/DJ X.w X.K x y H Q):=ix_list.or (ix_tup.or (ix_str.or bYZ))
theorem sl_any:SlR X (λx lo hi H Q=>ZP X.K x lo hi H Q\/aLZ X.K x lo hi H Q):=sl_list.or bxZ
def dIZ(t:TS):TS:=λD σ H=>∃R:St->Hp->Prop,t {D with nx:=R} σ H/\∀σ' H',R σ' H'->D.nx σ' H'
theorem G5{st:Stmt}{t:TS}(h:PS X st t):PS X st (dIZ t):=λpins s σ H D I ⟨R,q,hR⟩=>thn (h pins s σ H _ I q) λf s' hs=>by
 cases f with
 |next=>obtain⟨σ',H',I',r⟩:=hs;exact⟨σ',H',I',hR σ' H' r⟩
 |brk=>exact hs
 |cont=>exact hs
 |ret v=>exact hs
variable{K:FZ}{w:World}
theorem kEq(hu:X.A.units<cLine)(hK:X.K=K:=by rfl):OpR X (compareOp .Eq) (λx y H Q=>rEq x y H Q\/PR K true x y H Q):=by subst hK;exact uEq hu
theorem kNe(hu:X.A.units<cLine)(hK:X.K=K:=by rfl):OpR X (compareOp .NotEq) (λx y H Q=>rNe x y H Q\/PR K false x y H Q):=by subst hK;exact uNe hu
theorem kIn(hK:X.K=K:=by rfl)(hw:X.w=w:=by rfl):OpR X (compareOp .In) (λx y H Q=>(∃i j,x=.str i/\y=.str j/\Q (.bl (!(Builtin.Str.occurrences j i 0 j.length 1).isEmpty)) H)\/rIn K false x y H Q\/(∃k a kvs,x=.str k/\y=.ref a/\TopD w K a kvs/\Q (.bl (kvs.lookup k).isSome) H)):=by
 subst hK;subst hw;exact uIn
theorem kIx(hK:X.K=K:=by rfl)(hw:X.w=w:=by rfl):IxR X (λx y H Q=>UP K x y H Q\/VA K x y H Q\/SR x y H Q\/DJ w K x y H Q):=by subst hK;subst hw;exact crZ
theorem P4(hK:X.K=K:=by rfl):CallR X (.builtin "len") (λxs H Q=>∃x n,xs=[x]/\ajZ K x H n/\Q (.int n) H):=by subst hK;exact YJ
theorem X3(hK:X.K=K:=by rfl):CallR X (.type "list") (λxs H Q=>∃p ys,xs=[.ref p]/\(SqL K H p ys\/SqT K H p ys)/\∀l,H l=none->Q (.ref l) (upd H l (.lst ys))):=by subst hK;exact KE
theorem EW(hK:X.K=K:=by rfl):CallR X (.type "tuple") (λxs H Q=>∃p ys,xs=[.ref p]/\((SqL K H p ys/\∀l,H l=none->Q (.ref l) (upd H l (.tup ys)))\/SqT K H p ys/\Q (.ref p) H)):=by subst hK;exact HM
theorem bgZ(hc:X.calm=true)(hK:X.K=K:=by rfl):CallR X (.builtin "max") (λxs H Q=>(∃i j,xs=[.int i,.int j]/\Q (.int (if j>i then j else i)) H)\/
  (∃(p:Addr) (ns:List Int),xs=[.ref p]/\SqL K H p (ns.map V.int)/\0<ns.length/\∀M:Int,M∈ns->(∀a∈ns,a<=M)->Q (.int M) H)):=by subst hK;exact YV hc
theorem T5(hK:X.K=K:=by rfl):CallR X (.builtin "isinstance") (λxs H Q=>∃x c t b,xs=[x,.ty c]/\TyOf K H x t/\kitOne K t (.type c)=some b/\Q (.bl b) H):=by subst hK;exact WX
variable{o e st l c:Expr}{es:List Expr}{to te ts tl:TE}{t:TA}{name:Str}{apos cpos pos p2:Pos}{T id:String}{r:V->List V->Hp->VK->Prop}{tg:Expr}
theorem ND(pa:PlainAttrs T)(slot:Slot T name id)(hty:typeOf (.builtin id)=pure (.type "method_descriptor"))(hm:MtR X id r)(ho:PE X o to)(hK:X.K=K:=by rfl)
  (hbase:attributeBase o name X.env (eval o X.env)=eval o X.env:=by rfl)(hline:(apos.endLine==cpos.line)=true:=by rfl):PE X (.Call (.Attribute o name apos) [] [] cpos) (cOZ K T r to):=by
 subst hK;exact b6Z pa slot hty hm ho hbase hline
theorem HP(pa:PlainAttrs T)(slot:Slot T name id)(hty:typeOf (.builtin id)=pure (.type "method_descriptor"))(hm:MtR X id r)(ho:PE X o to)(ha:PA X (e::es) t)(hK:X.K=K:=by rfl)
  (hbase:attributeBase o name X.env (eval o X.env)=eval o X.env:=by rfl)
  (hfew:((backTo cpos (starEach (e::es) X.env)).all (λx=> !x.1)&&(backToKw cpos (keywordEach [] X.env)).all (λx=>x.1.isSome)
   &&decide ((e::es).length+([]:List Keyword).length+(if([]:List Keyword).isEmpty then 0 else 1)<30))=true:=by rfl)
  (hline:(apos.endLine==cpos.line)=true:=by rfl)(hs:starEach (e::es) X.env=(false,eval e X.env)::starEach es X.env:=by rfl)(hplain:(backTo cpos (starEach es X.env)).any (·.1)=false:=by rfl):
  PE X (.Call (.Attribute o name apos) (e::es) [] cpos) (tBM K T r to t):=by
 subst hK;exact cMZ pa slot hty hm ho ha hbase hfew hline hs hplain
theorem Z2(hl:PE X l tl)(hK:X.K=K:=by rfl):PI X tg l (a5Z K tl):=by subst hK;exact aiZ hl
def dEZ(K:FZ)(ta:TE):TT:=fun σ H Q=>ta σ H λx H'=>∃k,bHZ K x H' k/\Q k H'
theorem K7(ha:PE X e te)(he:∀whole,isTrue e X.env whole=(do let v<-whole;standAt e.pos;holding [v] (truthy v)))(hK:X.K=K:=by rfl):PT X e (dEZ K te):=by subst hK;exact VL ha he
end
theorem CZ{σ:St}{H:Hp}{A B:Hp->Prop}(h:A H):RD σ H (λb H2=>if b=true then A H2 else B H2):=by
 show if true=true then A H else B H
 rw[if_pos rfl];exact h
theorem FL(xs:List V)(k:Nat):K9 xs (some (k:Int)) none=xs.drop k:=by
 unfold K9
 rw[HT.sIx_nat,HT.sIx_none]
 by_cases h:k<=xs.length
 ·rw[min_eq_left h,take_of_length_le (by simp)]
 ·rw[min_eq_right (by omega),drop_eq_nil_of_le (Nat.le_refl _),drop_eq_nil_of_le (by omega)]
  simp
theorem PC(xs:List V)(k:Nat):K9 xs none (some (k:Int))=xs.take k:=by
 unfold K9
 rw[HT.sIx_nat,HT.sIx_none]
 simp only[List.drop_zero,sub_zero]
 by_cases h:k<=xs.length
 ·rw[min_eq_left h]
 ·rw[min_eq_right (by omega),take_of_length_le (Nat.le_refl _),take_of_length_le (by omega)]
theorem NK(xs:List V)(a b:Nat):K9 xs (some (a:Int)) (some (b:Int))=(xs.drop a).take (b - a):=by
 unfold K9
 rw[HT.sIx_nat,HT.sIx_nat]
 by_cases ha:a<=xs.length
 ·rw[min_eq_left ha]
  by_cases hb:b<=xs.length
  ·rw[min_eq_left hb]
  ·rw[min_eq_right (by omega),take_of_length_le (by simp),take_of_length_le (by simp;omega)]
 ·rw[min_eq_right (Nat.le_of_not_le ha),drop_eq_nil_of_le (Nat.le_refl _),drop_eq_nil_of_le (Nat.le_of_not_le ha)]
  simp
section
variable{M:Model}{A:Around}{E:Value->Shared->Prop}{s:Shared}
variable{X:Cx}{pins:List (Addr×Obj)}{σ:St}{H1 H2:Hp}{s1:Shared}{h1 h2:Heap}
end
section
variable{P:Program}{w:World}{K:FZ}{mg:Str->Option Value}{base:Heap}{N:List Str}{qual:Str}{scope:Scope}{f:Addr}{cd:Value}{A:Around}{outer:List Env}{s:Shared}{H:Hp}{E:XK}
 {pins:List (Addr×Obj)}{σ:St}{H1:Hp}{s1:Shared}
variable{h g:Heap}{a:Addr}{C:Value}
variable{fs:List Addr}{H1 H2:Hp}{h0 h1 h2:Heap}
variable{X:Cx}{pins:List (Addr×Obj)}{σ:St}{s1 s2:Shared}
end
section
variable{M:Model}{A:Around}{E:Value->Shared->Prop}{h:Heap}{g:Array GenState}{d:Drawn}{t:Nat}{os:OsState}
variable{X:Cx}{pins:List (Addr×Obj)}{σ:St}{H:Hp}{s:Shared}{e:Value}
variable{xe:Value->Shared->Prop}
end
abbrev TEX:=St->Hp->VK->XK->Prop
abbrev TSX:=Ends->(St->XK)->St->Hp->Prop
section
variable{X:Cx}{k:Nat}{f C:Addr}{fd:FuncData}{ps:List Str}{sp:Sp}{dvs:List V}{ds:List Value}{x m:Str}{p pos apos:Pos}{e o:Expr}{es:List Expr}{ta:TE}{t:TA}
end
section
variable{X:Cx}{e:Expr}{pos:Pos}{t:TEX}{st:Stmt}{rest:List Stmt}{a b:List Stmt}{ta tb:TSX}
variable{x n:Str}{np hpos:Pos}{body suite:List Stmt}{b₀:Stmt}{i:Nat}{ts:TS}{D0:Addr}{Ok:Addr->Prop}
end
section
variable{prog:Program}{w:World}{A:Around}{E:Value->Shared->Prop}{h:Heap}{g:Array GenState}{d:Drawn}{t:Nat}{os:OsState}{a C:Addr}{o:Obj}{bm bmB:List Value}{nid:String}
variable{X:Cx}{pins:List (Addr×Obj)}{σ:St}{H:Hp}{s:Shared}
variable{tg:Expr}
theorem TC{bs:List Bool}{its:List Value}(r:Vals (bs.map V.bl) its){i:Nat}{v:Value}(e:its[i]? =some v):v=.bool (bs.getD i false):=by
 have hl:=r.length
 obtain⟨hi,_⟩:=List.getElem?_eq_some_iff.mp e
 have hb:i<bs.length:=by rw[length_map]at hl;omega
 have hx:(bs.map V.bl)[i]? =some (V.bl (bs.getD i false)):=by simp[hb]
 obtain⟨u,e2,ru⟩:=r.get hx
 rw[e]at e2;cases e2
 exact ru
theorem TF(bs:List Bool):((List.range bs.length).all λi=>bs.getD i false)=bs.all id:=by
 rw[Bool.eq_iff_iff,all_eq_true,all_eq_true]
 constructor
 ·intro h x hx
  obtain⟨i,hi,e⟩:=List.getElem_of_mem hx
  have:=h i (mem_range.mpr hi)
  simpa [getD_eq_getElem?_getD,List.getElem?_eq_getElem hi,e]using this
 ·intro h i hi
  have hi:=mem_range.mp hi
  have:=h bs[i] (List.getElem_mem hi)
  simpa [getD_eq_getElem?_getD,List.getElem?_eq_getElem hi]using this
theorem UZ(hc:X.calm=true):CallR X (.builtin "all") (λxs H Q=>∃(p:Addr) (bs:List Bool),xs=[.ref p]/\SqL X.K H p (bs.map V.bl)/\Q (.bl (bs.all id)) H):=by
 intro pins s σ H vs us Q I r h
 obtain⟨p,bs,rfl,hS,q⟩:=h
 obtain⟨u,rfl,ru⟩:=R7 r
 cases ru
 obtain⟨its,rv,pl,hz⟩:=I.list hS
 have hl:its.length=bs.length:=by have:=rv.length;rw[length_map]at this;omega
 refine call_all_walk (wpAny_pyIter_list pl.isList ?_)
 obtain⟨ol,el,cl,dl⟩:=id pl.isList
 have hpne:p≠s.heap.objs.size:=ne_of_lt (lt_size el)
 have W:=Walks.list (prog:=X.prog) (w:=X.w) (A:=X.A.in1) (show X.A.in1.handled=none from I.ok.hd hc) s.heap.objs.size p hpne its.toArray
 refine⟨s.heap.objs.size,[s.heap.objs.size,p],[s.heap.objs.size],its.toArray.size,_,_,λi=>bs.getD i false,rfl,W,⟨⟨_,get?_push_size _ rfl,rfl,rfl⟩,⟨ol,gZ _ el,cl,dl⟩⟩, ?_, ?_⟩
 ·intro i v s' Q' E' hP hQ
  have e:v=.bool (bs.getD i false):=TC rv (by simpa using hP)
  subst e
  exact pZ hQ
 ·intro h' tk hk
  have e:((List.range its.toArray.size).all λi=>bs.getD i false)=bs.all id:=by
   rw[size_toArray,hl];exact TF bs
  rw[e]
  refine⟨.bl (bs.all id),H,I.kept (t':=tk) λb o e=>hk b o (λz=> ?_) (gZ _ e),rfl,q⟩
  have z':b=s.heap.objs.size:=by simpa using z
  subst z'
  exact absurd (lt_size e) (lt_irrefl _)
variable{e v1 v2:Expr}{es:List Expr}{te:TE}{tp t:St->Hp->(Hp->Prop)->Prop}{pos:Pos}
variable{K:FZ}
theorem cRZ(hc:X.calm=true)(hK:X.K=K:=by rfl):CallR X (.builtin "all") (λxs H Q=>∃(p:Addr) (bs:List Bool),xs=[.ref p]/\SqL K H p (bs.map V.bl)/\Q (.bl (bs.all id)) H):=by subst hK;exact UZ hc
end
noncomputable abbrev tx(l:List Nat):Str:=⟨l.toArray⟩
end L2
namespace PySem
theorem BN(t:Tok):Meets (Builtin.«int.__new__» ⟨[.type "int",.str ⟨#[49]⟩ t],[]⟩) (Made.int 1).spec:=
 Meets.of_wp λprog w A R s hs=>by
  obtain⟨hp,g,d,tk,os⟩:=s
  have f1:=F.conv_sub_int
  have f2:=F.madeHere_int
  have hT:(⟨hp,g,d,tk,os⟩:Shared).TypeIs (.str ⟨#[49]⟩ t) "str":=rfl
  have f3:typeLookup (.type "str") "__int__"=pure none:=by rw[typeLookup_type,builtinLookup_eq_fast];kernel_rfl
  have f4:typeLookup (.type "str") "__index__"=pure none:=by rw[typeLookup_type,builtinLookup_eq_fast];kernel_rfl
  have f5:typeLookup (.type "str") "__trunc__"=pure none:=by rw[typeLookup_type,builtinLookup_eq_fast];kernel_rfl
  repeat (any_goals (first|assumption|wp_step))
  all_goals try (with_unfolding_all show wpAny _ _ (mkInt 1>>=_) _ _ _)
  repeat (any_goals (first|assumption|wp_step))
  all_goals first|exact⟨_,rfl,hs⟩|skip
end PySem
namespace L2
open PySem PySem.Spec PyProof.Rows
section
variable{X:Cx}
theorem BL:CallR X (.type "int") (λxs H Q=>(∃k,xs=[.bl k]/\Q (.int (if k then 1 else 0)) H)\/∃z,xs=[.str z]/\z=tx [49]/\Q (.int 1) H):=by
 intro pins s σ H xs us Q I r h
 rcases h with⟨k,rfl,q⟩|⟨z,rfl,rfl,q⟩
 ·exact UR pins s σ H _ us Q I r (.inr ⟨k,rfl,q⟩)
 ·obtain⟨u,rfl,t,rfl⟩:=R7 r
  exact call_int_1 (BN t) (show(Made.int 1).post _ s from⟨rfl,.int 1,H,I.tok _,⟨_,rfl⟩,q⟩)
variable{o e f:Expr}{td:TE}{t:TA}{apos cpos:Pos}{K:FZ}{w:World}
variable{K:FZ}
theorem KB(ns:List Nat):∀j,j<=ns.length->preSum (λi=>((ns.getD i 0:Nat):Int)) j=(((ns.take j).sum:Nat):Int)
 |0,_=>by simp[preSum]
 |j+1,h=>by
  have ih:=KB ns j (by omega)
  have hj:j<ns.length:=by omega
  show preSum (λi=>((ns.getD i 0:Nat):Int)) j+((ns.getD j 0:Nat):Int)=_
  rw[ih,take_succ_eq_append_getElem hj,sum_append]
  simp[getD_eq_getElem?_getD,List.getElem?_eq_getElem hj]
theorem QI(ns:List Nat)(j:Nat):(ns.take j).sum<=ns.sum:=by
 have h:=congrArg List.sum (List.take_append_drop j ns)
 rw[sum_append]at h
 omega
theorem aaZ{ns:List Nat}{its:List Value}(r:Vals (ns.map λn=>V.int (n:Nat)) its){i:Nat}{v:Value}(e:its[i]? =some v):∃t,v=.int ((ns.getD i 0:Nat):Int) t:=by
 have hl:=r.length
 obtain⟨hi,_⟩:=List.getElem?_eq_some_iff.mp e
 have hb:i<ns.length:=by rw[length_map]at hl;omega
 have hx:(ns.map λn=>V.int (n:Nat))[i]? =some (V.int ((ns.getD i 0:Nat):Int)):=by simp[hb]
 obtain⟨u,e2,ru⟩:=r.get hx
 rw[e]at e2;cases e2
 exact ru
theorem RN(hc:X.calm=true)(hK:X.K=K:=by rfl):CallR X (.builtin "sum") (λxs H Q=>∃(p:Addr) (ns:List Nat),xs=[.ref p]/\SqL K H p (ns.map λn=>V.int (n:Nat))/\ns.sum<=1000000/\Q (.int (ns.sum:Nat)) H):=by
 subst hK
 intro pins s σ H vs us Q I r h
 obtain⟨p,ns,rfl,hS,hfit,q⟩:=h
 obtain⟨u,rfl,ru⟩:=R7 r
 cases ru
 obtain⟨its,rv,pl,hz⟩:=I.list hS
 have hl:its.length=ns.length:=by have:=rv.length;rw[length_map]at this;omega
 refine call_sum_walk (wpAny_pyIter_list pl.isList ?_)
 obtain⟨ol,el,cl,dl⟩:=id pl.isList
 have hplt:=lt_size el
 have hpne:p≠s.heap.objs.size:=ne_of_lt hplt
 have W:=Walks.list (prog:=X.prog) (w:=X.w) (A:=X.A.in1) (show X.A.in1.handled=none from I.ok.hd hc) s.heap.objs.size p hpne its.toArray
 refine⟨s.heap.objs.size,[s.heap.objs.size,p],[s.heap.objs.size],its.toArray.size,_,_,λi=>((ns.getD i 0:Nat):Int),rfl,W,⟨⟨_,get?_push_size _ rfl,rfl,rfl⟩,⟨ol,gZ _ el,cl,dl⟩⟩, ?_, ?_, ?_, ?_⟩
 ·intro b hb
  simp only[mem_cons,not_mem_nil,or_false]at hb
  rw[size_push]
  rcases hb with rfl|rfl
  ·exact lt_succ_self _
  ·exact Nat.lt_succ_of_lt hplt
 ·intro i v hP
  exact aaZ rv (by simpa using hP)
 ·intro j hj
  have hj:j<ns.length:=by rw[size_toArray,hl]at hj;exact hj
  have h1:=QI ns (j+1)
  have h2:=QI ns j
  have e:(ns.take (j+1)).sum=(ns.take j).sum+ns[j]:=by rw[take_succ_eq_append_getElem hj,sum_append];simp
  have hg:ns.getD j 0=ns[j]:=by simp[getD_eq_getElem?_getD,List.getElem?_eq_getElem hj]
  rw[KB ns (j+1) (by omega)]
  show InLong ((ns.getD j 0:Nat):Int)/\_
  rw[hg]
  unfold InLong
  omega
 ·intro h' tk t' hk
  have e:preSum (λi=>((ns.getD i 0:Nat):Int)) its.toArray.size=((ns.sum:Nat):Int):=by
   rw[size_toArray,hl,KB ns ns.length (Nat.le_refl _),take_length]
  rw[e]
  refine⟨.int (ns.sum:Nat),H,I.kept (t':=tk) λb o e=>hk b o (λz=> ?_) (gZ _ e),⟨_,rfl⟩,q⟩
  have z':b=s.heap.objs.size:=by simpa using z
  subst z'
  exact absurd (lt_size e) (lt_irrefl _)
variable{P:Program}{w:World}{mg:Str->Option Value}{base:Heap}{A:Around}{CX:CXT}{E:XK}{x:Str}{p pos:Pos}{e:Expr}{es:List Expr}{tf:TE}{t:TA}
end
theorem DO:bootBuiltins "reversed"=some (.type "reversed"):=by decide +kernel
noncomputable def Itv(K:FZ)(a:Addr)(n:Nat):It:=
 ⟨λi H=>∃xs x,SqL K H a xs/\xs.reverse[i]? =some x/\xs.length=n,λi H x H'=>H'=H/\∀xs,SqL K H a xs->xs.reverse[i]? =some x,λi _=>i=n⟩
theorem XU{P:Program}{w:World}{K:FZ}{tg:Expr}(a it:Addr)(n:Nat):Turn P w K tg (Itv K a n) [it] it (λi h=>h.IsRevIter it a ((n:Int) - 1 - (i:Int))) where
 mem:=by simp
 obj:=λi h st b hb=>by
  have e:b=it:=by simpa using hb
  subst e
  obtain⟨o,e,c,d⟩:=st
  exact⟨o,e,λv z=>by rw[d]at z;cases z⟩
 keep:=λi h h' st k=>st.at λo e=>k it (by simp) o e
 item:=by
  intro X hP hw hK hc i pins s σ H E I hf st hg
  subst hP hw hK
  obtain⟨xs,x,hq,hx,hn⟩:=hg
  obtain⟨its,rv,p,hz⟩:=I.list hq
  have hlt:i<xs.length:=by
   have:=(List.getElem?_eq_some_iff.mp hx).1
   simpa using this
  rw[getElem?_reverse hlt]at hx
  obtain⟨u,hu,ru⟩:=rv.get hx
  obtain⟨f0,f1,f2,f3,f4,f5⟩:=hf it (by simp)
  have e1:(n:Int) - 1 - (i:Int)=((xs.length - 1 - i:Nat):Int):=by omega
  have st1:=st
  rw[e1]at st1
  refine wpAny_pyNext_rev_item st1 p.isList (x:=u) (by simpa using hu) λh' st' sb=> ?_
  have I1:Inv X pins σ H {s with heap:=h'}:=I.turned (t':=s.toks) (λb o hb e=>(sb.2 b hb).trans e) f0 f1 f3 f4 f5
  have e2:((xs.length - 1 - i:Nat):Int) - 1=(n:Int) - 1 - ((i+1:Nat):Int):=by omega
  rw[e2]at st'
  obtain⟨o,e,c,d⟩:=id st'
  exact⟨u,rfl,QL (s:={s with heap:=h'}) e c d (by decide) ⟨x,H,I1,ru,⟨rfl,λys hy=>by rw[I.list_inj hy hq,getElem?_reverse hlt];exact hx⟩,st',λb hb=>(hf b hb).1⟩⟩
 done:=by
  intro X hP hw hK hc i pins s σ H E I hf st hg
  subst hP hw hK
  obtain⟨f0,f1,f2,f3,f4,f5⟩:=hf it (by simp)
  have hi:i=n:=hg
  have e1:(n:Int) - 1 - (i:Int)= -1:=by omega
  rw[e1]at st
  exact wpAny_pyNext_rev_end (I.ok.hd hc) st λh' eb=>⟨rfl,I.turned (t':=s.toks) (λb o hb e=>eb b o hb e) f0 f1 f3 f4 f5⟩
 self:=λ_ _ _ _ _ st h=>wpAny_pyIter_revIter st h
section
variable{X:Cx}{tg:Expr}{K:FZ}
def dDZ(K:FZ)(ta:TA):TI:=fun σ H R=>ta σ H λvs H1=>∃a xs,vs=[.ref a]/\SqL K H1 a xs/\R (Itv K a xs.length) H1
theorem cbZ{a:Expr}{ta:TA}{p pos:Pos}(hg:Gl X "reversed")(hm:X.mg "reversed"=none)(ha:PA X [a] ta)(hK:X.K=K:=by rfl)(hs:starEach [a] X.env=[(false,eval a X.env)]:=by rfl):PI X tg (.Call (.Name "reversed" p) [a] [] pos) (dDZ K ta):=by
 subst hK
 intro pins s σ H R I h
 refine Call_ (AJ I hg hm DO (callWith_type1 (thn (ha pos pins s σ H _ I h) λus s1 ⟨vs,H1,I1,r1,q1⟩=> ?_) hs rfl))
 obtain⟨l,xs,e,hq,q⟩:=q1
 subst e
 cases r1 with
 |cons r rr=>
  cases rr
  cases r
  obtain⟨its,rv,pl,hz⟩:=I1.list hq
  have hl:its.toArray.size=xs.length:=by rw[size_toArray];exact rv.length.symm
  refine call_reversed_list pl.isList ?_
  have st:(s1.heap.push (revObj l ((its.toArray.size:Int) - 1))).IsRevIter s1.heap.objs.size l ((xs.length:Int) - 1 - ((0:Nat):Int)):=⟨_,get?_push_size _ rfl,rfl,by rw[hl];simp[revObj]⟩
  refine wpAny_pyIter_revIter st ?_
  refine⟨s1.heap.objs.size,[s1.heap.objs.size],_,_,H1,rfl,I1.kept (t':=s1.toks) λb o e=>gZ _ e,XU l _ xs.length,st,λb hb=> ?_,q⟩
  have e:b=s1.heap.objs.size:=by simpa using hb
  subst e
  exact I1.fpOk (Nat.le_refl _) (I1.hok.fresh (Nat.le_refl _))
end
theorem ZZ{K:FZ}{a:Addr}{xs:List V}{g:TG}{tb:TS}{D:Ends}{σ:St}{H:Hp}(Pv:Nat->St->Hp->Prop)(h0:Pv 0 σ H)(hl:∀i σ H,i<=xs.length->Pv i σ H->SqL K H a xs)
  (hs:∀i x σ H,xs.reverse[i]? =some x->Pv i σ H->g x σ H fun σ2 H2=>tb {D with nx:=Pv (i+1),ct:=Pv (i+1),bk:=D.nx} σ2 H2)(hd:∀σ H,Pv xs.length σ H->D.nx σ H):
  ∃W:Nat->Nat->St->Hp->Prop,(∃m,W 0 m σ H)/\∀i m σ H,W i m σ H->
   ((Itv K a xs.length).stop i H/\D.nx σ H)\/((Itv K a xs.length).go i H/\∃N:St->Hp->Prop,(∀σ' H',N σ' H'->∃m',m'<m/\W (i+1) m' σ' H')/\∀x H',(Itv K a xs.length).yld i H x H'->g x σ H' fun σ2 H2=>tb {D with nx:=N,ct:=N,bk:=D.nx} σ2 H2):=by
 refine⟨λi m σ H=>m=xs.length - i/\i<=xs.length/\Pv i σ H,⟨xs.length,by simp,zero_le _,h0⟩, ?_⟩
 rintro i m σ H ⟨rfl,hi,p⟩
 have q:=hl i σ H hi p
 by_cases hlt:i<xs.length
 ·have hlt':i<xs.reverse.length:=by rw[length_reverse];exact hlt
  refine .inr ⟨⟨xs,xs.reverse[i],q,List.getElem?_eq_getElem hlt',rfl⟩,Pv (i+1),fun σ' H' p'=>⟨xs.length - (i+1),by omega,rfl,hlt,p'⟩,λx H' y=> ?_⟩
  obtain⟨e,y⟩:=y
  subst e
  exact hs i x σ _ (y xs q) p
 ·have e:i=xs.length:=by omega
  subst e
  exact .inl ⟨rfl,hd σ H p⟩
end L2
namespace PySem
namespace F
theorem nolen_lri:typeLookup (.type "list_reverseiterator") "__len__"=pure none:=by rw[typeLookup_type,builtinLookup_eq_fast];kernel_rfl
theorem hint_lri:typeLookup (.type "list_reverseiterator") "__length_hint__"=pure (some (.builtin "list_reverseiterator.__length_hint__")):=by rw[typeLookup_type,builtinLookup_eq_fast];kernel_rfl
end F
section
variable{prog:Program}{w:World}{A:Around}{E:Value->Shared->Prop}{s:Shared}
abbrev X5(items:Array Value):Nat->Value->Prop:=λi v=>items[items.size - 1 - i]? =some v
theorem DF{R:Result->Shared->Prop}(hh:A.handled=none){I l:Addr}{items:Array Value}(hit:s.heap.IsRevIter I l ((items.size:Int) - 1))(hl:s.heap.IsList l items)(hne:l≠I)(S:Addr)(res:Value)(c₀:Nat)
  (hS:s.heap.get? S=some {cls:=.type "list",data:=.seq #[] c₀})(hSI:S≠I)(hSl:S≠l)
  (hR:∀h' tk acc' c',(∀b o,b≠S->b≠I->s.heap.get? b=some o->h'.get? b=some o)->h'.get? S=some {cls:=.type "list",dict:=none,data:=.seq acc' c',slots:= #[]}->
   ItemsOf (X5 items) acc' items.size->R (.ok (.ret res)) {s with heap:=h',toks:=tk})(hn:items.size<=sizeLine):
  wpAny (model prog w) A.in1 (Builtin.List.listExtendWith (.ref S) (.ref I) res)
   (λfin s'=>match fin with| .done f=>R (.ok f) s'| .again c'=>c'.quiet=true/\codeAny (model prog w) A c' R s') (λe s'=>R (.error e) s') s:=by
 have hSf:S∉ [I,l]:=λhm=>by
  rcases cZ hm with e|hm
  ·exact hSI e
  ·exact hSl (sZ hm)
 have W:=(Walks.listRev (prog:=prog) (w:=w) (A:=A.in1) hh I l hne items).toS
 have hit0:s.heap.IsRevIter I l ((items.size:Int) - 1 - ((0:Nat):Int)):=by
  have e:(items.size:Int) - 1 - ((0:Nat):Int)=(items.size:Int) - 1:=by omega
  rw[e];exact hit
 unfold Builtin.List.listExtendWith
 refine bZ (wpAny_typeOf (T:="list_reverseiterator") hit.typeIs ?_)
 have h1:Builtin.List.listSameRef (.ref S) (.ref I)=false:=by simp[Builtin.List.listSameRef,hSI]
 have h2:(Value.type "list_reverseiterator"==Value.type "list")=false:=by decide
 have h3:(Value.type "list_reverseiterator"==Value.type "tuple")=false:=by decide
 simp only[h1,h2,h3,Bool.or_false,Bool.false_eq_true,if_false]
 refine bZ (wpAny_pyIter_revIter hit ?_)
 refine bZ (wpAny_holding ?_)
 unfold Builtin.List.listLengthHint
 refine bZ (wpAny_specialOf hit.typeIs F.nolen_lri ?_)
 show wpAny _ A.in1 (specialOf (Value.ref I) (Str.ofString "__length_hint__")>>=_) _ _ _
 refine bZ (wpAny_specialOf hit.typeIs F.hint_lri ?_)
 generalize hid:("list_reverseiterator.__length_hint__":String)=id0
 wp_delta
 rw[show splitId id0=some ("list_reverseiterator","__length_hint__")from by subst hid;decide +kernel]
 subst hid
 refine bZ (wpAny_isInstance (b:=true) hit.typeIs (by rw[isSubtype_type];kernel_rfl) ?_)
 refine pZ ?_
 rw[if_neg (by decide)]
 refine pZ ⟨plainId_quiet F.plain_extend_loop _,codeAny_extend_loopS W hn _ hSf _ items.size 0 _ _ _ rfl (zero_le _) ⟨zero_le _,hit0,hl⟩ hS (ItemsOf.nil _) λs' acc' c' hm hS' hacc=> ?_⟩
 rw[Moved.eq_with hm]
 refine hR s'.heap s'.toks acc' c' (λb ob hb hb2 e=>hm.heap b ob (λhmem=> ?_) e) hS' hacc
 rcases cZ hmem with e'|hmem
 ·exact hb e'
 ·exact hb2 (sZ hmem)
theorem Z3{R:Result->Shared->Prop}(hh:A.handled=none){I l:Addr}{items:Array Value}(hit:s.heap.IsRevIter I l ((items.size:Int) - 1))(hl:s.heap.IsList l items)(hne:l≠I)(S:Addr)(hSI:S≠I)(hSl:S≠l)
  (hS:s.heap.get? S=some {cls:=.type "list",data:=.seq #[]})
  (hR:∀h' tk acc' c',(∀b o,b≠S->b≠I->s.heap.get? b=some o->h'.get? b=some o)->h'.get? S=some {cls:=.type "list",dict:=none,data:=.seq acc' c',slots:= #[]}->
   ItemsOf (X5 items) acc' items.size->R (.ok (.ret .none)) {s with heap:=h',toks:=tk})(hn:items.size<=sizeLine):
  wpAny (model prog w) A.in1 (Builtin.«list.__init__» ⟨[.ref S,.ref I],[]⟩)
   (λfin s'=>match fin with| .done f=>R (.ok f) s'| .again c'=>c'.quiet=true/\codeAny (model prog w) A c' R s') (λe s'=>R (.error e) s') s:=by
 show wpAny _ _ (do let old<-Builtin.List.listItems (.ref S);Builtin.List.listUpdate (.ref S) (λ_=> #[]);letGo old.toList.reverse;Builtin.List.listExtendWith (.ref S) (.ref I) .none) _ _ s
 refine bZ ?_
 unfold Builtin.List.listItems
 refine bZ (wpAny_seqItems hS rfl (pZ ?_))
 show wpAny _ _ (updateSeq S (λ_=> #[])>>=λ_=>letGo (#[]:Array Value).toList.reverse>>=λ_=>Builtin.List.listExtendWith (.ref S) (.ref I) .none) _ _ s
 refine bZ (wpAny_updateSeq hS rfl ?_)
 have hS₂:=get?_update_self (Obj.mapSeq (λ_=>(#[]:Array Value))) hS rfl
 have oth:∀b o,b≠S->s.heap.get? b=some o->(s.heap.update S (Obj.mapSeq (λ_=>(#[]:Array Value)))).get? b=some o:=
  λb o hb e=>(get?_update_other _ _ (Ne.symm hb)).trans e
 refine bZ (wpAny_letGo ?_)
 refine DF hh (hit.at λo e=>oth I o (Ne.symm hSI) e) (hl.at λo e=>oth l o (Ne.symm hSl) e) hne S .none _ hS₂ hSI hSl (λh' tk acc' c' hk hS' hacc=> ?_) hn
 exact hR h' tk acc' c' (λb o hb hb2 e=>hk b o hb hb2 (oth b o hb e)) hS' hacc
theorem HJ{Q:Value->Shared->Prop}(hh:A.handled=none){I l:Addr}{items:Array Value}(hit:s.heap.IsRevIter I l ((items.size:Int) - 1))(hl:s.heap.IsList l items)(hne:l≠I)
  (hQ:∀h' tk acc' c',(∀b o,b≠I->s.heap.get? b=some o->h'.get? b=some o)->
   h'.get? s.heap.objs.size=some {cls:=.type "list",dict:=none,data:=.seq acc' c',slots:= #[]}->ItemsOf (X5 items) acc' items.size->Q (.ref s.heap.objs.size) {s with heap:=h',toks:=tk})(hn:items.size<=sizeLine):
  wpAny (model prog w) A (call (.type "list") [.ref I]) Q E s:=by
 have ltI:I<s.heap.objs.size:=let⟨o,e,_⟩:=hit;lt_size e
 have ltl:l<s.heap.objs.size:=let⟨o,e,_⟩:=hl;lt_size e
 refine callType_codes (Q₁:=λobj s₁=>obj=.ref s.heap.objs.size/\s₁={s with heap:=s.heap.push {cls:=.type "list",data:=.seq #[]}}) F.called_list (F.typeCall_list_1 _) F.entry_list_init
  (code_list_new _ ⟨rfl,rfl⟩) λobj s₁ h₁=> ?_
 obtain⟨rfl,rfl⟩:=h₁
 have hS:(s.heap.push {cls:=.type "list",data:=.seq #[]}).get? s.heap.objs.size=some {cls:=.type "list",data:=.seq #[]}:=get?_push_size _ rfl
 refine⟨⟨_,hS,rfl⟩,F.args_list_init_2 _ _,Z3 (A:=A.in1) hh (hit.at λo e=>gZ _ e) (hl.at λo e=>gZ _ e) hne _ (Nat.ne_of_gt ltI) (Nat.ne_of_gt ltl) hS (λh' tk acc' c' hk hS' hacc=> ?_) hn⟩
 exact⟨rfl,hQ h' tk acc' c' (λb o hb e=>hk b o (ne_of_lt (lt_size e)) hb (gZ _ e)) hS' hacc⟩
theorem UU{its:List Value}{acc:Array Value}(h:ItemsOf (X5 its.toArray) acc its.toArray.size):acc=its.reverse.toArray:=by
 obtain⟨h1,h2⟩:=h
 refine Array.ext (by simpa using h1) λi hi hi2=> ?_
 have e:=h2 i acc[i] (Array.getElem?_eq_getElem hi)
 have e':its[its.length - 1 - i]? =some acc[i]:=by simpa [X5]using e
 have hlt:i<its.length:=by simpa using hi2
 have e2:its.reverse[i]? =some acc[i]:=by rw[getElem?_reverse hlt];exact e'
 have e3:its.reverse.toArray[i]? =some acc[i]:=by simpa using e2
 rw[Array.getElem?_eq_getElem hi2]at e3
 exact(Option.some.inj e3).symm
end
end PySem
namespace L2
open PySem PySem.Spec PyProof.Rows
theorem Vals.rev{vs:List V}{us:List Value}(h:Vals vs us):Vals vs.reverse us.reverse:=by
 induction h with
 |nil=>exact .nil
 |cons r _ ih=>rw[reverse_cons,reverse_cons];exact ih.append (.cons r .nil)
section
variable{X:Cx}{K:FZ}
def XE(K:FZ)(ta:TA):TE:=fun σ H Q=>ta σ H λvs H1=>∃a xs,vs=[.ref a]/\SqL K H1 a xs/\∀r,H1 r=none->Q (.ref r) (upd H1 r (.lst xs.reverse))
theorem PD{a:Expr}{ta:TA}{p p' pos pos':Pos}(hg:Gl X "reversed")(hm:X.mg "reversed"=none)(hg':Gl X "list")(hm':X.mg "list"=none)(hc:X.calm=true)(ha:PA X [a] ta)(hK:X.K=K:=by rfl)(hs:starEach [a] X.env=[(false,eval a X.env)]:=by rfl)
  (hs':starEach [.Call (.Name "reversed" p) [a] [] pos] X.env=[(false,eval (.Call (.Name "reversed" p) [a] [] pos) X.env)]:=by rfl):
  PE X (.Call (.Name "list" p') [.Call (.Name "reversed" p) [a] [] pos] [] pos') (XE K ta):=by
 subst hK
 intro pins s σ H Q I h
 refine wpAny_Call_Name_kw (AJ I hg' hm' M2 ?_)
 refine callWith_type1 ?_ hs' rfl
 rw[hs']
 refine Calls.spliced_cons (Call_ (AJ I hg hm DO (callWith_type1 (thn (ha pos pins s σ H _ I h) λus s1 ⟨vs,H1,I1,r1,q1⟩=> ?_) hs rfl)))
 obtain⟨l,xs,e,hq,q⟩:=q1
 subst e
 cases r1 with
 |cons r rr=>
  cases rr
  cases r
  obtain⟨its,rv,pl,hz⟩:=I1.list hq
  refine call_reversed_list pl.isList ?_
  refine Calls.spliced_nil ?_
  have st:(s1.heap.push (revObj l ((its.toArray.size:Int) - 1))).IsRevIter s1.heap.objs.size l ((its.toArray.size:Int) - 1):=⟨_,get?_push_size _ rfl,rfl,rfl⟩
  have ltl:l<s1.heap.objs.size:=let⟨o,e,_⟩:=pl.isList;lt_size e
  have hlen:=rv.length
  refine HJ (I1.ok.hd hc) st (pl.isList.at λo e=>gZ _ e) (ne_of_lt ltl) (λh' tk acc c hk hS hacc=> ?_) (by rw[size_toArray,<-hlen];exact hz)
  rw[UU hacc]at hS
  have ns:(s1.heap.push (revObj l ((its.toArray.size:Int) - 1))).objs.size=s1.heap.objs.size+1:=size_push ..
  rw[ns]at hS⊢
  have kp:∀b o,s1.heap.get? b=some o->h'.get? b=some o:=λb o e=>hk b o (ne_of_lt (lt_size e)) (gZ _ e)
  exact⟨.ref (s1.heap.objs.size+1),_,I1.laid (t':=tk) kp (le_succ _) (show ObjOk X.prog X.w _ h' _ (.lst xs.reverse)from⟨by rw[length_reverse];exact hz,its.reverse,c,rv.rev,hS⟩),rfl,q _ (I1.hok.fresh (le_succ _))⟩
variable{elts:List Expr}{kt:Nat}{pt:Pos}
theorem EU:OpR X (binaryOp .Mult) (rI IntMulOk λi j=> .int (i*j)):=opI λ_ _ _ _ _ _ _ hc q=>mul_int q hc
theorem K8:OpR X (binaryOp .FloorDiv) (rI (λ_ j=>j≠0/\j.natAbs.log2<9000) λi j=> .int (i.fdiv j)):=opI λ_ _ _ _ _ _ _ hc q=>floordiv_int hc.1 q (.inl (PyProof.noPylong_of_log2 hc.2))
end
end L2
namespace Att
open PySem PySem.W PySem.Calls PyProof.Rows
end Att
namespace L2
open PySem PySem.Spec PyProof.Rows
section
variable{X:Cx}{K:FZ}
def WK(K:FZ):R2:=λx y H Q=>∃a b xs ys,x=.ref a/\y=.ref b/\SqL K H a xs/\SqL K H b ys/\xs.length≠ys.length/\Q (.bl false) H
theorem XN(hu:X.A.units<cLine):OpR X (compareOp .Eq) (WK X.K):=by
 intro pins s σ H x y v u Q I rx ry h
 obtain⟨a,b,xs,ys,rfl,rfl,ha,hb,hp,q⟩:=h
 cases rx;cases ry
 obtain⟨its,r,pl,_⟩:=I.list ha
 obtain⟨its2,r2,pl2,_⟩:=I.list hb
 have hl:its.length≠its2.length:=by rw[<-r.length,<-r2.length];exact hp
 exact SeqAt.eq_list_lengthsAt pl.isList pl2.isList (by simpa using hl) hu ⟨.bl false,H,I,rfl,q⟩
theorem dWZ(hu:X.A.units<cLine)(hK:X.K=K:=by rfl):OpR X (compareOp .Eq) (λx y H Q=>PR K true x y H Q\/WK K x y H Q):=by
 subst hK;exact(XX hu).or (XN hu)
def KA(K:FZ):R2:=λx y H Q=>∃a b ys,x=.ref a/\y=.ref b/\SqT K H a []/\SqT K H b ys/\Q (.ref b) H
theorem MM:OpR X (binaryOp .Add) (KA X.K):=by
 intro pins s σ H x y v u Q I rx ry h
 obtain⟨a,b,ys,rfl,rfl,ha,hb,q⟩:=h
 cases rx
 cases ry
 obtain⟨its,r1,p1,_⟩:=I.tuple ha
 obtain⟨its2,r2,p2,hz⟩:=I.tuple hb
 have e0:its=[]:=r1.nil_iff.mpr rfl
 subst e0
 obtain⟨⟨cls,dd,data,sl⟩,ho,hc,n,hd⟩:=id p1
 obtain⟨⟨cls2,dd2,data2,sl2⟩,ho2,hc2,n2,hd2⟩:=id p2
 simp only at hc hd hc2 hd2
 subst hc hd hc2 hd2
 exact concat_meets ⟨_,ho,rfl⟩ ⟨_,ho2,rfl⟩ noFill_tuple_add seq_tuple_add PySem.F.slot_tuple_add PySem.F.entry_tuple_add (PySem.F.args_tuple_add_2 _ _)
  (tuple_addW0 a b _ _ n n2 dd dd2 sl sl2 (by simp)) ⟨ho,ho2,⟨.ref b,H,I,rfl,q⟩⟩
theorem QP(hK:X.K=K:=by rfl):OpR X (binaryOp .Add) (λx y H Q=>rI0 (λi j=> .int (i+j)) x y H Q\/RG K x y H Q\/KA K x y H Q):=by
 subst hK;exact op_add.or (op_catT.or MM)
end
end L2
namespace PySem
open AutoSeq1 (wpAny_loadPart')
section
variable{prog:Program}{w:World}{A:Around}{E:Value->Shared->Prop}{s:Shared}
end
end PySem
namespace PySem
section
variable{prog:Program}{w:World}{A:Around}{E:Value->Shared->Prop}{s:Shared}
end
end PySem
namespace L2
open PySem PySem.Spec PyProof.Rows
section
variable{X:Cx}{K:FZ}{elts:List Expr}{kt:Nat}{pt:Pos}
end
end L2
namespace PySem
open Sem(wp)
namespace ZT
def IsIt(t:Bool)(h:Heap)(i l:Addr)(k:Nat):Prop:=if t then h.IsTupleIter i l k else h.IsListIter i l k
def IsSq(t:Bool)(h:Heap)(l:Addr)(xs:Array Value):Prop:=if t then h.IsTuple l xs else h.IsList l xs
theorem IsIt.extBut{t:Bool}{h h':Heap}{i b l:Addr}{k:Nat}(x:IsIt t h i l k)(hs:Heap.ExtBut b h h')(hb:i≠b):IsIt t h' i l k:=by
 cases t
 ·exact Heap.IsListIter.extBut (show h.IsListIter i l k from x) hs hb
 ·exact Heap.IsTupleIter.extBut (show h.IsTupleIter i l k from x) hs hb
theorem IsIt.at{t:Bool}{h h':Heap}{i l:Addr}{k:Nat}(x:IsIt t h i l k)(e:∀o,h.get? i=some o->h'.get? i=some o):IsIt t h' i l k:=by
 cases t
 ·obtain⟨o,ho,r⟩:=(show h.IsListIter i l k from x)
  exact⟨o,e o ho,r⟩
 ·obtain⟨o,ho,r⟩:=(show h.IsTupleIter i l k from x)
  exact⟨o,e o ho,r⟩
theorem IsIt.live{t:Bool}{h:Heap}{i l:Addr}{k:Nat}(x:IsIt t h i l k):∃o,h.get? i=some o:=by
 cases t
 ·obtain⟨o,ho,r⟩:=(show h.IsListIter i l k from x)
  exact⟨o,ho⟩
 ·obtain⟨o,ho,r⟩:=(show h.IsTupleIter i l k from x)
  exact⟨o,ho⟩
theorem IsSq.at{t:Bool}{h h':Heap}{l:Addr}{xs:Array Value}(x:IsSq t h l xs)(e:∀o,h.get? l=some o->h'.get? l=some o):IsSq t h' l xs:=by
 cases t
 ·obtain⟨o,ho,r⟩:=(show h.IsList l xs from x)
  exact⟨o,e o ho,r⟩
 ·obtain⟨o,ho,r⟩:=(show h.IsTuple l xs from x)
  exact⟨o,e o ho,r⟩
theorem IsSq.extBut{t:Bool}{h h':Heap}{l b:Addr}{xs:Array Value}(x:IsSq t h l xs)(hs:Heap.ExtBut b h h')(hb:l≠b):IsSq t h' l xs:=x.at λo e=>hs l o hb e
section
variable{prog:Program}{w:World}{A:Around}{E:Value->Shared->Prop}{s:Shared}
end
end ZT
end PySem
namespace PySem
open Sem(wp)
namespace ZT
section
variable{prog:Program}{w:World}{A:Around}{E:Value->Shared->Prop}{s:Shared}
end
end ZT
end PySem
namespace PySem
open Sem(wp)
open PyProof.Rows
namespace ZT
section
variable{prog:Program}{w:World}{A:Around}{E:Value->Shared->Prop}{s:Shared}
variable{R:Result->Shared->Prop}
end
end ZT
end PySem
namespace PySem
open Sem(wp)
open PyProof.Rows
namespace F
end F
namespace ZT
section
variable{prog:Program}{w:World}{A:Around}{E:Value->Shared->Prop}{s:Shared}
end
end ZT
end PySem
namespace PySem
open Sem(wp)
open PyProof.Rows
namespace ZT
section
variable{prog:Program}{w:World}{A:Around}{E:Value->Shared->Prop}{s:Shared}
end
end ZT
end PySem
namespace L2
open PySem PySem.Spec PyProof.Rows
section
variable{X:Cx}{K:FZ}{pins:List (Addr×Obj)}{σ:St}{H H':Hp}{s:Shared}{h':Heap}
variable{A:Around}{E:Value->Shared->Prop}{Q:Value->Shared->Prop}{b:Bool}
theorem OS{x c d:V}{u t u1 u2:Value}{p:Addr}(I:Inv X pins σ H s)(rx:RelV x u)(hp:SqT X.K H p [c,d])(r1:∀v,RelV c v->v=u1)(r2:∀v,RelV d v->v=u2)(ty:TyOf X.K H x t)(e:kitAny X.K t [u1,u2]=some b)(hx:u≠ .builtin "__main__.__loader__#opaque")(h:∀tk,Q (.bool b) {s with toks:=tk}):
  wpAny (model X.prog X.w) A (call (.builtin "isinstance") [u,.ref p]) Q E s:=by
 obtain⟨its,r,⟨⟨cl,dd,da,sl⟩,hg,hc,n,hd⟩,_⟩:=I.tuple hp
 simp only at hc hd
 subst hc hd
 obtain⟨w1,w2,rfl,q1,q2⟩:=QQ r
 cases r1 _ q1
 cases r2 _ q2
 cases ty with
 |non=>cases(show u=Value.none from rx);exact kia_tup PySem.W.kitx_none I.kIn True.intro hg e hx h
 |bl y=>cases(show u=Value.bool y from rx);exact kia_tup PySem.W.kitx_bool I.kIn True.intro hg e hx h
 |int i=>obtain⟨t,q⟩:=(show∃t,u=Value.int i t from rx);cases q;exact kia_tup PySem.W.kitx_int I.kIn True.intro hg e hx h
 |str y=>obtain⟨t,q⟩:=(show∃t,u=Value.str y t from rx);cases q;exact kia_tup PySem.W.kitx_str I.kIn True.intro hg e hx h
 |flt y=>obtain⟨t,q⟩:=(show∃t,u=Value.float y t from rx);cases q;exact kia_tup PySem.W.kitx_float I.kIn True.intro hg e hx h
 | @lst a xs ea=>
  cases(show u=Value.ref a from rx)
  obtain⟨_,_,n,_,h1⟩:=(show ObjOk X.prog X.w H s.heap a (.lst xs)from I.hok a _ ea)
  exact kia_tup kitx_list I.kIn ⟨_,h1,rfl⟩ hg e hx h
 | @frz a ob xs ea=>
  cases(show u=Value.ref a from rx)
  obtain⟨_,_,_,n,_,h1⟩:=(show ObjOk X.prog X.w H s.heap a (.frz ob (.lst xs))from I.hok a _ ea)
  exact kia_tup kitx_list I.kIn ⟨_,h1,rfl⟩ hg e hx h
 | @tup a xs ea=>
  cases(show u=Value.ref a from rx)
  obtain⟨_,_,_,p⟩:=(show ObjOk X.prog X.w H s.heap a (.tup xs)from I.hok a _ ea)
  obtain⟨o,h1,h2,_⟩:=p
  exact kia_tup PySem.W.kitx_tuple I.kIn ⟨o,h1,h2⟩ hg e hx h
 | @dK a kvs ea=>
  cases(show u=Value.ref a from rx)
  obtain⟨_,_,vs,_,p⟩:=(show ObjOk X.prog X.w H s.heap a (.dK kvs)from I.hok a _ ea)
  obtain⟨o,es,ep,h1,h2,_⟩:=p
  exact kia_tup kitx_dict I.kIn ⟨o,h1,h2.1⟩ hg e hx h
 | @dT a kvs ea=>
  cases(show u=Value.ref a from rx)
  obtain⟨_,_,xs,_,o,es,ep,h1,h2,_⟩:=(show ObjOk X.prog X.w H s.heap a (.dT kvs)from I.hok a _ ea)
  exact kia_tup kitx_dict I.kIn ⟨o,h1,h2.1⟩ hg e hx h
 | @ins a C dx fs ea cl ha hn htk hm=>
  cases(show u=Value.ref a from rx)
  obtain⟨mA,O,_⟩:=BP I.hok ea
  obtain⟨od,J,_⟩:=O.look
  exact kia_tup (PySem.W.kitx_own (cl.get _) cl.hd ha hn htk hm) I.kIn J hg e hx h
theorem QA{x:V}{u t:Value}(rx:RelV x u)(ty:TyOf K H x t):u≠ .builtin "__main__.__loader__#opaque":=by
 cases ty with
 |non=>cases(show u=Value.none from rx);exact λz=>nomatch z
 |bl y=>cases(show u=Value.bool y from rx);exact λz=>nomatch z
 |int i=>obtain⟨t,q⟩:=(show∃t,u=Value.int i t from rx);cases q;exact λz=>nomatch z
 |str y=>obtain⟨t,q⟩:=(show∃t,u=Value.str y t from rx);cases q;exact λz=>nomatch z
 |flt y=>obtain⟨t,q⟩:=(show∃t,u=Value.float y t from rx);cases q;exact λz=>nomatch z
 |lst|frz|tup|dK|dT|ins=>cases rx;exact λz=>nomatch z
theorem UG:CallR X (.builtin "isinstance") (λxs H Q=>∃x c d t b p,xs=[x,.ref p]/\SqT X.K H p [.ty c,.ty d]/\TyOf X.K H x t/\kitAny X.K t [.type c,.type d]=some b/\Q (.bl b) H):=by
 intro pins s σ H xs us Q I r h
 obtain⟨x,c,d,t,b,p,rfl,hp,ty,hk,q⟩:=h
 obtain⟨u,v,rfl,ru,rv⟩:=QQ r
 cases rv
 exact OS I ru hp (λv h=>by cases h;rfl) (λv h=>by cases h;rfl) ty hk (QA ru ty) λtk=>⟨.bl b,H,I.tok _,rfl,q⟩
theorem b5Z(hK:X.K=K:=by rfl):CallR X (.builtin "isinstance") (λxs H Q=>∃x c d t b p,xs=[x,.ref p]/\SqT K H p [.ty c,.ty d]/\TyOf K H x t/\kitAny K t [.type c,.type d]=some b/\Q (.bl b) H):=by subst hK;exact UG
end
end L2
namespace HT
open PySem PyProof.Rows
section
variable{prog:Program}{w:World}{A:Around}{E:Value->Shared->Prop}{s:Shared}
theorem getItem_tuple_whole{t sl:Addr}{items:Array Value}{vl vu:Value}{lo hi:Option Int}{Q:Value->Shared->Prop}(ht:IsTup s.heap t items)(hs:s.heap.IsSliceOf sl vl vu .none)(pl:IsPart vl lo)(pu:IsPart vu hi)
  (hw:sIx items.size 0 lo=0/\sIx items.size items.size hi=items.size)
  (h:Q (.ref t) s):wpAny (model prog w) A (getItem (.ref t) (.ref sl)) Q E s:=by
 obtain⟨os,hos,hcs,hds⟩:=id hs
 have hTs:s.TypeIs (.ref sl) "slice":=⟨os,hos,hcs⟩
 unfold getItem
 try with_reducible refine wpAny_holding ?_
 first|refine bZ (pZ ?_)|skip
 refine bZ (wpAny_sequenceKey ht.typeIs (by decide) ?_)
 refine bZ (wpAny_callSpecial?_slot (name:=Str.ofString "__getitem__") ht.typeIs PyProof.Rows.slot_tuple_getitem
  (wpAny_call_entry PyProof.Rows.slot_tuple_getitem ht.typeIs entry_tuple_getitem ?_ (args_tuple_getitem _ _)))
 show wpAny _ _ (Builtin.Tuple.tupleItemsOf (.ref t)>>=_) _ _ s
 refine bZ (tupleItemsOf_ ht ?_)
 refine bZ (wpAny_typeOf hTs ?_)
 rw[if_pos (by decide)]
 refine bZ (T3 hs pl pu ?_)
 have hyes:(((sIx items.size 0 lo:Nat):Int)==0&&(1:Int)==1&&(sIx items.size items.size hi - sIx items.size 0 lo)==items.size)=true:=by
  rw[hw.1,hw.2];simp
 show wpAny _ _ (if(((sIx items.size 0 lo:Nat):Int)==0&&(1:Int)==1&&(sIx items.size items.size hi - sIx items.size 0 lo)==items.size)=true then _ else _) _ _ s
 rw[if_pos hyes]
 unfold Builtin.Tuple.tupleIsExact
 refine bZ (bZ (wpAny_typeOf ht.typeIs ?_))
 repeat (first|refine pZ ?_|refine bZ ?_|refine wpAny_rule ?_|rw[if_pos (by decide)])
 exact⟨_,rfl,pZ h⟩
end
end HT
namespace L2
open PySem PySem.Spec PyProof.Rows
section
variable{X:Cx}{K:FZ}
def bwZ(K:FZ):V->Option Int->Option Int->Hp->VK->Prop:=λx lo hi H Q=>∃a xs,x=.ref a/\SqT K H a xs/\(HT.sIx xs.length 0 lo=0/\HT.sIx xs.length xs.length hi=xs.length)/\Q (.ref a) H
theorem WN:SlR X (bwZ X.K):=by
 intro pins s σ H x v vl vu lo hi sl Q I rx hs pl pu h
 obtain⟨a,xs,rfl,hx,hw,q⟩:=h
 cases rx
 obtain⟨its,r,ht,hz⟩:=I.tuple hx
 have hlen:its.toArray.size=xs.length:=by rw[size_toArray];exact r.length.symm
 refine⟨"tuple",_,PyProof.Rows.slot_tuple_getitem.lookup,ht.typeIs, ?_⟩
 exact HT.getItem_tuple_whole ht hs pl pu (by rw[hlen];exact hw) ⟨.ref a,H,I,rfl,q⟩
theorem AM(hK:X.K=K:=by rfl):SlR X (λx lo hi H Q=>(ZP K x lo hi H Q\/aLZ K x lo hi H Q)\/bwZ K x lo hi H Q):=by subst hK;exact sl_any.or WN
end
end L2
namespace TM
open PySem PyProof.Rows
theorem noFill_tuple_mul:fillsNumberSlot (.type "tuple") "mul"=pure false:=
 PySem.fillsNumberSlot_seq (id:="tuple.__mul__") (r:=some (.builtin "tuple.__rmul__")) F.slot_tuple_mul.lookup (by decide +kernel) F.slot_tuple_rmul.lookup (by decide +kernel)
theorem repeat_tuple:seqRepeat? (.type "tuple")=pure (some (.builtin "tuple.__mul__")):=by
 unfold seqRepeat?
 rw[PySem.seqSlot_of (T:="tuple") (name:="__mul__") (id:="tuple.__mul__") F.slot_tuple_mul.lookup (by decide +kernel),PySem.seqSlot_of (T:="tuple") (name:="__rmul__") (id:="tuple.__rmul__") F.slot_tuple_rmul.lookup (by decide +kernel)]
 rfl
theorem int___rmul___int_tuple(a:Int)(t:Tok)(l:Addr)(dd:Option Addr)(items:Array Value)(n:Nat)(sl:Array (Option Value)):
  Meets (Builtin.«int.__rmul__» ⟨[.int a t,.ref l],[]⟩) (λ_ R s=>s.heap.get? l=some {cls:=.type "tuple",dict:=dd,data:=.seq items n,slots:=sl}/\R (.ok (.ret Value.notImplemented)) s):=
 .of_wp λprog w A R s h=>by obtain⟨hp,g,d,tk,os⟩:=s;obtain⟨hl,h⟩:=h;wp_walk;exact⟨_,rfl,h⟩
section
variable{prog:Program}{w:World}{A:Around}{E:Value->Shared->Prop}{s:Shared}
theorem VX(x:Value)(k:Nat):List.foldl (λx1 x2=>x1++x2) #[] (List.replicate k #[x])=(List.replicate k x).toArray:=by
 have:=L2.foldl_rep [x] k []
 rw[nil_append,List.flatten_replicate_singleton]at this
 exact this
theorem tuple_mul1{l:Addr}{x:Value}{k:Int}{t:Tok}{Q:Value->Shared->Prop}(ht:IsTup s.heap l #[x])(h0:0<=k)(h1:k<=1000)(hs:k=1->Q (.ref l) s)
  (hn:k≠1->Q (.ref s.heap.objs.size) {s with heap:=s.heap.push {cls:=.type "tuple",data:=.seq (List.replicate k.toNat x).toArray}}):wpAny (model prog w) A (call (.builtin "tuple.__mul__") [.ref l,.int k t]) Q E s:=by
 refine wpAny_call_entry F.slot_tuple_mul ht.typeIs F.entry_tuple_mul ?_ (F.args_tuple_mul_2 _ _)
 show wpAny _ _ (asIndex (.int k t)>>=_) _ _ s
 refine bZ (m:=asIndex _) (pZ (a:=k) ?_)
 have e1:¬((decide (k< -2^63)||decide (k≥2^63))=true):=by simp;omega
 rw[if_neg e1]
 refine bZ (tupleItemsOf_ ht ?_)
 by_cases e:k=1
 ·subst e
  rw[if_pos (by simp)]
  unfold Builtin.Tuple.tupleIsExact
  refine bZ (bZ (wpAny_typeOf ht.typeIs ?_))
  repeat (first|refine pZ ?_|refine bZ ?_|refine wpAny_rule ?_|rw[if_pos (by decide)])
  exact⟨_,rfl,hs rfl⟩
 ·have e2:¬(((#[x]:Array Value).isEmpty||k==1)=true):=by simp[e]
  rw[if_neg e2]
  have hz:sizeOk (.seq (List.replicate k.toNat x).toArray):=by
   show(List.replicate k.toNat x).toArray.size<=sizeLine
   rw[size_toArray,length_replicate]
   have:(1000:Nat)<=sizeLine:=by decide
   omega
  by_cases e0:k=0
  ·subst e0
   rw[if_pos (by simp)]
   exact bZ (m:=Builtin.Tuple.tupleExact _) (wpAny_newObj_type (pZ ⟨_,rfl,hn e⟩) hz)
  ·rw[if_neg (by simp;omega)]
   have e5:¬(((#[x]:Array Value).size:Int)*k>(2^63 - 1)/8):=by simp;omega
   show wpAny _ _ (if((#[x]:Array Value).size:Int)*k>(2^63 - 1)/8 then _ else _) _ _ s
   rw[if_neg e5]
   have e6:¬(Builtin.Tuple.tupleTooMany (((#[x]:Array Value).size:Int)*k)=true):=by
    unfold Builtin.Tuple.tupleTooMany
    have:(1000:Nat)<=sizeLine:=by decide
    simp
    omega
   show wpAny _ _ (if Builtin.Tuple.tupleTooMany (((#[x]:Array Value).size:Int)*k)=true then _ else _) _ _ s
   rw[if_neg e6,VX]
   exact bZ (m:=Builtin.Tuple.tupleExact _) (wpAny_newObj_type (pZ ⟨_,rfl,hn e⟩) hz)
end
end TM
namespace L2
open PySem PySem.Spec PyProof.Rows
section
variable{X:Cx}{K:FZ}
def blZ(K:FZ):R2:=λx y H Q=>∃l k z,x=.ref l/\y=.int k/\SqT K H l [z]/\0<=k/\k<=1000/\(k=1->Q (.ref l) H)/\(k≠1->∀p,H p=none->Q (.ref p) (upd H p (.tup (List.replicate k.toNat z))))
theorem LU{z:V}{u:Value}(r:RelV z u):∀k:Nat,Vals (List.replicate k z) (List.replicate k u)
 |0=> .nil
 |k+1=> .cons r (LU r k)
theorem azZ:OpR X (binaryOp .Mult) (blZ X.K):=by
 intro pins s σ H x y v u Q I rx ry h
 obtain⟨l,k,z,rfl,rfl,hl,h0,h1,q1,q2⟩:=h
 cases rx
 obtain⟨t,rfl⟩:=ry
 obtain⟨its,r,pl,_⟩:=I.tuple hl
 obtain⟨u,rfl,ru⟩:=R7 r
 obtain⟨⟨cls,dd,data,sl⟩,ho,hc,n,hd⟩:=id pl
 simp only at hc hd
 subst hc hd
 refine wpAny_binaryOp_repeat_ref (T:="tuple") (U:="int") (by decide) ⟨_,ho,rfl⟩ (λs'=>typeIs_int s' k t) TM.noFill_tuple_mul F.fills_int_mul F.slot_int_rmul TM.repeat_tuple F.slot_int_index.lookup
  (call_meets F.slot_int_rmul (typeIs_int s k t) F.entry_int_rmul (F.args_int_rmul_2 _ _) (TM.int___rmul___int_tuple k t l dd _ n sl)
   ⟨ho,rfl,⟨_,ho,rfl⟩,TM.tuple_mul1 pl h0 h1 (λe=>⟨.ref l,H,I,rfl,q1 e⟩) λe=> ?_⟩)
 refine⟨.ref s.heap.objs.size,_,I.laid (t':=s.toks) (o:=.tup (List.replicate k.toNat z)) (λb ob q=>gZ _ q) (Nat.le_refl _) ?_,rfl,q2 e _ (I.hok.fresh (Nat.le_refl _))⟩
 refine⟨?_,_,LU ru k.toNat,IsTup.new _ _⟩
 rw[length_replicate]
 have:(1000:Nat)<=sizeLine:=by decide
 omega
theorem cXZ(hK:X.K=K:=by rfl):OpR X (binaryOp .Mult) (λx y H Q=>rI CMul (λi j=> .int (i*j)) x y H Q\/blZ K x y H Q):=by subst hK;exact op_mul.or azZ
theorem N2(hK:X.K=K:=by rfl):OpR X (binaryOp .Add) (λx y H Q=>rI0 (λi j=> .int (i+j)) x y H Q\/b9Z x y H Q\/RG K x y H Q\/KA K x y H Q):=by
 subst hK;exact op_add.or (op_cat.or (op_catT.or MM))
end
end L2
namespace TM
open PySem PyProof.Rows PySem.SeqAt
end TM
namespace L2
open PySem PySem.Spec PyProof.Rows
section
variable{X:Cx}{K:FZ}
variable{e:Expr}{es tes:List Expr}{t tt:TA}{name:Str}{apos cpos tpos:Pos}{id:String}{r:V->List V->Hp->VK->Prop}
end
structure LamScope(ps fs:List Str)(sc:Scope):Prop where
 kind:sc.kind=.function
 co:sc.isCoroutine=false
 gen:sc.isGenerator=false
 nd:(ps++fs).Nodup
 par:∀x∈ps,sc.names.lookup x=some .local
 nocell:∀y∈sc.names,y.2≠ .cell
 free:∀x,sc.names.lookup x=some .free->x∈fs
 fre:∀x∈fs,sc.names.lookup x=some .free
structure Caught (base:Heap) (cl:List (Str×Addr)) (fs:List Str) (cvs:List V):Prop where
 len:cvs.length=fs.length
 inj:∀x y c,cl.lookup x=some c->cl.lookup y=some c->x=y
 only:∀x c,cl.lookup x=some c->x∈fs
 at_:∀(i:Nat) (x:Str),fs[i]? =some x->∃c u v,cl.lookup x=some c/\base.IsCell c (some u)/\cvs[i]? =some v/\RelV v u
def RE(CX:CXT)(P:Program)(w:World)(K:FZ)(mg:Str->Option Value)(base:Heap)(N:List Str)(qual:Str)(scope:Scope)(f:Addr)(cd:Value)(cl:List (Str×Addr))(A:Around)(outer:List Env)(s:Shared)(H:Hp)(E:XK):Cx where
 prog:=P
 w:=w
 K:=K
 mg:=mg
 base:=base
 A:=A.deeper (envX qual scope s.heap.objs.size f cd cl)
 N:=N
 s₀:=s
 H₀:=H
 env:=envX qual scope s.heap.objs.size f cd cl
 outer:=outer
 stack:=envX qual scope s.heap.objs.size f cd cl::outer
 ex:=[]
 calm:=true
 fn:=λ_=>false
 pn:=[]
 xe:=λe s'=>wpAny (model P w) (A.deeper (envX qual scope s.heap.objs.size f cd cl)) (leaving (envX qual scope s.heap.objs.size f cd cl) e) (λ_ s''=>CX outer H s E e s'') (λe' s''=>CX outer H s E e' s'') s'
theorem VW{ps:List Str}{us:List Value}{i:Nat}{x:Str}{u:Value}(nd:ps.Nodup)(hl:us.length=ps.length)(h1:ps[i]? =some x)(h2:us[i]? =some u):(ps.zip us).reverse.lookup x=some u:=by
 have aux:∀(l:List (Str×Value)),(l.map (·.1)).Nodup->(x,u)∈l->l.lookup x=some u:=by
  intro l
  induction l with
  |nil=>intro _ h;exact absurd h (by simp)
  |cons p l ih=>
   obtain⟨y,z⟩:=p
   intro n h
   rw[map_cons,nodup_cons]at n
   rcases cZ h with e|h
   ·cases e;simp
   ·have ne:x≠y:=λe=>n.1 (e▸List.mem_map_of_mem (f:=(·.1)) h)
    rw[lookup_cons,show(x==y)=false from beq_eq_false_iff_ne.mpr ne]
    exact ih n.2 h
 refine aux _ ?_ ?_
 ·rw[List.map_reverse,List.map_fst_zip (by omega)]
  exact List.pairwise_reverse.mpr (List.Pairwise.imp (λh=>Ne.symm h) nd)
 ·rw[List.mem_reverse]
  refine mem_of_getElem? (i:=i) ?_
  rw[List.getElem?_zip_eq_some]
  exact⟨h1,h2⟩
theorem US{CX:CXT}{P:Program}{w:World}{K:FZ}{mg:Str->Option Value}{base:Heap}{ps fs:List Str}{cvs:List V}{qual:Str}{scope:Scope}{f:Addr}{cd:Value}{cl:List (Str×Addr)}{A:Around}{outer:List Env}{s:Shared}{h1:Heap}{tk:Nat}{H:Hp}{E:XK}{us:List Value}{vs:List V}
  (S:LamScope ps fs scope)(C:Caught base cl fs cvs)(hd:A.handled=none)(e0:Env0 P w K mg base A outer s H)(hl:vs.length=ps.length)(r:Vals vs us)
  (hns:h1.Ns s.heap.objs.size (λx=>(ps.zip us).reverse.lookup x))(hk:∀b o,s.heap.get? b=some o->h1.get? b=some o):
  Inv (RE CX P w K mg base (ps++fs) qual scope f cd cl A outer s H E) [] ((vs++cvs).map some) H {s with heap:=h1,toks:=tk}:=by
 have noA:∀b:Addr,b∉(RE CX P w K mg base (ps++fs) qual scope f cd cl A outer s H E).ex:=λb z=>absurd (show b∈([]:List Addr)from z) (by simp)
 have ndP:ps.Nodup:=(List.nodup_append.mp S.nd).1
 have hul:us.length=ps.length:=by rw[<-r.length];exact hl
 have cb:∀x c,cl.lookup x=some c->∃u,base.IsCell c (some u):=λx c e=>by
  obtain⟨i,hi⟩:=getElem?_of_mem (C.only x c e)
  obtain⟨c',u,v,e1,e2,_⟩:=C.at_ i x hi
  rw[e]at e1;cases e1
  exact⟨u,e2⟩
 have bk:∀b o,base.get? b=some o->h1.get? b=some o:=λb o e=>hk b o (e0.bs b o e).1
 have ck:∀ {c:Addr} {u:Value},base.IsCell c (some u)->h1.IsCell c (some u):=λ{c u} ⟨o,ho,hd⟩=>⟨o,bk _ _ ho,hd⟩
 refine⟨⟨e0.mod,S.kind,rfl,rfl,Nat.le_refl _,C.inj,λy hy=> ?_,λy c h=>absurd (show(false:Bool)=true from h) (by simp),λ_=>hd,Around.frames_deeper e0.frames,.inr ⟨rfl,rfl⟩,λb z=>absurd z (noA b),e0.bs,e0.bsz,λb _ _=>noA b,λb z=>absurd z (noA b),e0.funs,e0.frf⟩,
  rfl,e0.bare,Un.kept hk,⟨_,hns,λi y v h1 h2 h3=> ?_⟩,λy c h=> ?_,e0.hok.fresh (Nat.le_refl _),λy c h=> ?_,λp hp=>absurd (show p∈([]:List (Addr×Obj))from hp) (by simp),e0.hok.kept hk, ?_⟩
 ·have hy:scope.names.lookup y=some .cell\/scope.names.lookup y=some .free:=hy
  rcases hy with hy|hy
  ·exact absurd rfl (S.nocell _ (PySem.mem_of_lookup hy))
  ·obtain⟨i,hi⟩:=getElem?_of_mem (S.free y hy)
   obtain⟨c,u,v,e1,_⟩:=C.at_ i y hi
   exact⟨c,e1⟩
 ·have h1:(ps++fs)[i]? =some y:=h1
  have h3:Vis scope y:=h3
  by_cases hi:i<ps.length
  ·rw[getElem?_append_left hi]at h1
   rw[getElem?_map,getElem?_append_left (by omega)]at h2
   have ha:vs[i]? =some v:=by
    cases e:vs[i]? with
    |none=>rw[e]at h2;cases h2
    |some a=>rw[e]at h2;cases h2;rfl
   obtain⟨u,hu,rv⟩:=r.get ha
   exact⟨u,rv,.inl ⟨S.par y (mem_of_getElem? h1),VW ndP hul h1 hu⟩⟩
  ·rw[getElem?_append_right (by omega)]at h1
   rw[getElem?_map,getElem?_append_right (by omega),hl]at h2
   obtain⟨c,u,v',e1,e2,e3,e4⟩:=C.at_ _ y h1
   rw[e3]at h2;cases h2
   exact⟨u,e4,.inr ⟨.inr (S.fre y (mem_of_getElem? h1)),c,e1,ck e2⟩⟩
 ·obtain⟨u,e⟩:=cb y c h
  exact⟨_,ck e⟩
 ·obtain⟨u,o,ho,_⟩:=cb y c h
  exact(e0.bs _ _ ho).2
 ·show((vs++cvs).map some).length=(ps++fs).length
  rw[length_map,length_append,length_append,hl,C.len]
theorem bzZ{CX:CXT}{P:Program}{w:World}{K:FZ}{mg:Str->Option Value}{base:Heap}{k:Nat}{f:Addr}{name qual:Str}{params:Arguments}{body:Expr}{scope:Scope}{cl:List (Str×Addr)}{pm cdv ct:Value}{o:Obj}
  {ps fs:List Str}{cvs:List V}{sp:Sp}(lk:base.get? f=some o)(hod:o.data=.func (PySem.W.kla_fn name qual params body scope cl pm cdv ct))(hcd:base.CodeRec cdv qual)(S:LamScope ps fs scope)(C:Caught base cl fs cvs)
  (len:∀vs H Q E,sp vs H Q E->vs.length=ps.length)
  (hbody:∀(A:Around) (outer:List Env) (s:Shared) (H:Hp) (vs:List V) (Q:VK) (E:XK),Room k (A.deeper (envX qual scope s.heap.objs.size f cdv cl))->sp vs H Q E->
   ∃t,PE (RE CX P w K mg base (ps++fs) qual scope f cdv cl A outer s H E) body t/\t ((vs++cvs).map some) H Q):
  FnOk P w K mg base CX (k+1) f (PySem.W.kla_fn name qual params body scope cl pm cdv ct) ps sp:=by
 refine⟨len,λA outer s H args us vs Q E hr e0 hb r hsp=> ?_⟩
 have hl:=len _ _ _ _ hsp
 have lim:s.heap.NoLimit:=e0.mod.nolimit.keeps λb o e=>(e0.bs b o e).1
 have hcd':s.heap.CodeRec cdv qual:=by
  obtain⟨c,oc,vs,t,e1,e2,e3⟩:=hcd
  exact⟨c,oc,vs,t,e1,(e0.bs _ _ e2).1,e3⟩
 refine PySem.W.kla_callFunE hr.depth (e0.bs _ _ lk).1 hod S.co S.gen rfl hcd' (hb _ _ _ _ ?_)
 refine wpAny_newFunctionEnv S.nocell (λx hx=>S.par x.1 (of_mem_zip hx).1) (λh₁ hns hsb=>⟨lim.fresh _ hsb, ?_⟩) S.kind
 have hk:∀b o,s.heap.get? b=some o->h₁.get? b=some o:=λb o e=>hsb.extBut b o (ne_of_lt (lt_size e)) (gZ _ e)
 show codeAny _ _ (.expr body (envX qual scope s.heap.objs.size f cdv cl)) _ _
 obtain⟨t,ht,hq⟩:=hbody A outer s H vs Q E (hr.deeper _) hsp
 have I:Inv (RE CX P w K mg base (ps++fs) qual scope f cdv cl A outer s H E) [] ((vs++cvs).map some) H {s with heap:=h₁,toks:=s.toks+(ps.zip us).length}:=US S C hr.hd e0 hl r hns hk
 refine PySem.W.kla_codeExpr (wpAny_mono (ht [] _ _ H Q I hq) (λu s' hs=> ?_) λe s' hs=>hs)
 obtain⟨v,H',J,rv,q⟩:=hs
 exact⟨v,H',J.os,J.bare,J.base,J.hok,rv,q⟩
noncomputable def LamO(name qual:Str)(params:Arguments)(body:Expr)(scope:Scope)(clos:List (Str×Addr))(pm:Value)(c' f:Addr):HO:=
 .ext λh=>∃ctv,h.get? f=some (kla_obj name qual params body scope clos pm c' ctv)
noncomputable def CodeO(qual:Str)(c':Addr):HO:=.ext λh=>∃oc vs t,h.get? c'=some oc/\oc.data=.fields vs/\vs[1]? =some (.str qual t)
theorem LamO.ok{P:Program}{w:World}{H:Hp}{h:Heap}{name qual:Str}{params:Arguments}{body:Expr}{scope:Scope}{clos:List (Str×Addr)}{pm:Value}{c' f:Addr}{ctv:Value}
  (e:h.get? f=some (kla_obj name qual params body scope clos pm c' ctv)):ObjOk P w H h f (LamO name qual params body scope clos pm c' f):=
 ⟨⟨ctv,e⟩,⟨_,e⟩,λh1 h2 ⟨c,q⟩ k=>⟨c,k _ q⟩⟩
theorem CodeO.ok{P:Program}{w:World}{H:Hp}{h:Heap}{qual:Str}{c':Addr}{oc:Obj}{vs:Array Value}{t:Tok}(e:h.get? c'=some oc)(d:oc.data=.fields vs)(v:vs[1]? =some (.str qual t)):
  ObjOk P w H h c' (CodeO qual c'):=⟨⟨oc,vs,t,e,d,v⟩,⟨_,e⟩,λh1 h2 ⟨o,a,b,q,x,y⟩ k=>⟨o,a,b,k _ q,x,y⟩⟩
def FH(H:Hp)(P:Addr)(pos:Pos)(qual:Str):Prop:=∃ps,H P=some (.tbl ps)/\TriplesOk ps.toList/\(codeAmong pos ps.toList=none\/∃c',codeAmong pos ps.toList=some (.ref c')/\H c'=some (CodeO qual c'))
def TabHit(H:Hp)(P:Addr)(pos:Pos)(c':Addr):Prop:=∃ps,H P=some (.tbl ps)/\TriplesOk ps.toList/\codeAmong pos ps.toList=some (.ref c')
theorem TabHit.ok{H:Hp}{P:Addr}{pos:Pos}{c':Addr}{qual:Str}(h:TabHit H P pos c')(hc:H c'=some (CodeO qual c')):FH H P pos qual:=let⟨ps,h1,h2,h3⟩:=h;⟨ps,h1,h2,.inr ⟨c',h3,hc⟩⟩
def dBZ(P:Addr)(pos:Pos)(name qual:Str)(params:Arguments)(body:Expr)(scope:Scope)(clos:List (Str×Addr))(pm:Value):TE:=λ_ H Q=>FH H P pos qual/\
 ∀f c' H',H f=none->H' f=some (LamO name qual params body scope clos pm c' f)->H' c'=some (CodeO qual c')->TabHit H' P pos c'->f≠c'->f≠P->c'≠P->(∀b,b≠f->b≠c'->b≠P->H' b=H b)->
  (∀b o,H b=some o->b≠P->H' b=some o)->Q (.ref f) H'
section
variable{X:Cx}{c P:Addr}{params:Arguments}{body:Expr}{scope:Scope}{pos:Pos}{clos:List (Str×Addr)}
theorem cmZ{pm:Value}(hpm:pm=(X.mg "__name__").getD .none)(hdef:defaultsOf params X.env=([],[]))(hcl:closureFor scope X.env=pure clos)(hcode:X.env.code=.ref c)(C:PySem.W.CodeHd X.base c P)(B:X.base.BuiltinsAt X.mg P):
  PE X (.Lambda params body scope pos) (dBZ P pos "<lambda>" (X.env.qual++ "<lambda>") params body scope clos pm):=by
 subst hpm
 intro pins s σ H Q I h
 obtain⟨⟨ps,hP,ht,hh⟩,h⟩:=h
 refine PySem.W.kla_eval hdef ?_
 have hPo:s.heap.get? P=some (PySem.W.tabObj ps):=I.hok P _ hP
 have hg:s.heap.Ns mainGlobals X.mg:=by
  obtain⟨o,es,ep,e,r⟩:=I.mod.glob
  exact⟨o,es,ep,I.bk _ _ e,r⟩
 have hgP:mainGlobals≠P:=λq=>by
  obtain⟨o,es,ep,e,r⟩:=I.mod.glob
  have:=(I.bs _ _ e).2
  rw[q,hP]at this;cases this
 have B':s.heap.BuiltinsAt X.mg P:=by
  obtain⟨bm,o,b1,b2,b3,b4,b5,r⟩:=B
  exact⟨bm,o,b1,b2,b3,b4,I.bk _ _ b5,r⟩
 have hLP:X.env.locals≠P:=λq=>by have:=I.free;rw[q,hP]at this;cases this
 rcases hh with hnf|⟨c',hf,hc'⟩
 ·refine PySem.W.kla_makeFunction (mg:=X.mg) hcl I.ok.glob hg hcode (C.keeps I.bk) hPo ht hnf hgP B' λc' ctv h' tk hx hge hlt hrec htb=> ?_
  obtain⟨c₂,oc,vs,t,e2,hoc,hd,hv⟩:=hrec
  cases e2
  have hPs:P<s.heap.objs.size:=lt_size hPo
  have sl:s.heap.objs.size<h'.objs.size:=Nat.lt_of_le_of_lt hge hlt
  have nfc:h'.objs.size≠c':=Nat.ne_of_gt hlt
  have nfP:h'.objs.size≠P:=Nat.ne_of_gt (lt_trans hPs sl)
  have ncP:c'≠P:=Nat.ne_of_gt (lt_of_lt_of_le hPs hge)
  have hfn:H h'.objs.size=none:=I.hok.fresh (le_of_lt sl)
  have hcn:H c'=none:=I.hok.fresh hge
  have kb:∀b o,b≠P->s.heap.get? b=some o->(h'.push (kla_obj "<lambda>" (X.env.qual++ "<lambda>") params body scope clos ((X.mg "__name__").getD .none) c' ctv)).get? b=some o:=λb o n e=>gZ _ (hx b o n e)
  generalize hH':upd (upd (upd H P (.tbl (ps++ #[rawInt pos.line,rawInt pos.col,.ref c']))) c' (CodeO (X.env.qual++ "<lambda>") c')) h'.objs.size (LamO "<lambda>" (X.env.qual++ "<lambda>") params body scope clos ((X.mg "__name__").getD .none) c' h'.objs.size)=H'
  have eF:H' h'.objs.size=some (LamO "<lambda>" (X.env.qual++ "<lambda>") params body scope clos ((X.mg "__name__").getD .none) c' h'.objs.size):=by rw[<-hH',upd_same]
  have eC:H' c'=some (CodeO (X.env.qual++ "<lambda>") c'):=by rw[<-hH',B8 (Ne.symm nfc),upd_same]
  have eP:H' P=some (.tbl (ps++ #[rawInt pos.line,rawInt pos.col,.ref c'])):=by rw[<-hH',B8 (Ne.symm nfP),B8 (Ne.symm ncP),upd_same]
  have eO:∀b,b≠h'.objs.size->b≠c'->b≠P->H' b=H b:=λb n1 n2 n3=>by rw[<-hH',B8 n1,B8 n2,B8 n3]
  have eK:∀b o,H b=some o->b≠P->H' b=some o:=λb o e n=>by
   rw[eO b (λz=>by rw[z,hfn]at e;cases e) (λz=>by rw[z,hcn]at e;cases e) n];exact e
  refine⟨.ref h'.objs.size,H', ?_,rfl,h _ c' H' hfn eF eC ⟨_,eP, ?_, ?_⟩ nfc nfP ncP eO eK⟩
  ·refine I.step (g':=s.gens) (d':=s.drawn) (ch:=[]) (λ_ z=>nomatch z) (λb o _ _ _ e n=>kb b o (λz=>by rw[z,hP]at n;cases n) e) (λb o _ _ _ e n=>⟨o.slots,kb b o (λz=>by rw[z,hP]at n;cases n) e⟩)
    (λb o _ e n=> ?_) (λb o _ e=> ?_) (λb xs e=>eK b _ e λz=>by rw[z,hP]at e;cases e) (λb o u e=>eK b _ e λz=>by rw[z,hP]at e;cases e) (λb qs e=> ?_) (λm hm=> ?_) ?_ I.bare
   ·have n1:=lt_size e
    rw[eO b (ne_of_lt (lt_trans n1 sl)) (ne_of_lt (lt_of_lt_of_le n1 hge)) λz=>by rw[z,hP]at n;cases n];exact n
   ·by_cases z:b=P
    ·rw[z];exact⟨_,gZ _ htb⟩
    ·exact⟨o,kb b o z e⟩
   ·by_cases z:b=P
    ·rw[z,hP]at e;cases e
     exact⟨_,by rw[z];exact eP⟩
    ·exact⟨#[],by rw[eK b _ e z];simp⟩
   ·obtain⟨o,es,ep,e,r⟩:=hm
    exact⟨o,es,ep,kb _ _ hLP e,r⟩
   ·intro b u e
    by_cases z1:b=h'.objs.size
    ·rw[z1,eF]at e;cases e
     rw[z1];exact LamO.ok (get?_push_size _ rfl)
    by_cases z2:b=c'
    ·rw[z2,eC]at e;cases e
     rw[z2];exact CodeO.ok (gZ _ hoc) hd hv
    by_cases z3:b=P
    ·rw[z3,eP]at e;cases e
     rw[z3];exact gZ _ htb
    rw[eO b z1 z2 z3]at e
    refine(I.hok b u e).stay (λd v hd' q=>kb d v (λz=> ?_) q) (λd q=>eK d _ q λz=>by rw[z,hP]at q;cases q) λd xs q=>eK d _ q λz=>by rw[z,hP]at q;cases q
    rcases hd' with q|q
    ·exact z3 (q.symm.trans z)
    ·rw[z,hP]at q;cases q
  ·have:(ps++ #[rawInt pos.line,rawInt pos.col,Value.ref c']).toList=ps.toList++ [rawInt pos.line,rawInt pos.col,.ref c']:=by simp
   rw[this];exact TriplesOk_snoc _ _ _ _ ht
  ·have:(ps++ #[rawInt pos.line,rawInt pos.col,Value.ref c']).toList=ps.toList++ [rawInt pos.line,rawInt pos.col,.ref c']:=by simp
   rw[this];exact codeAmong_snoc _ ht hnf
 ·refine PySem.W.kla_makeFunctionHit (mg:=X.mg) hcl I.ok.glob hg hcode (C.keeps I.bk) hPo ht hf B' λctv h' tk hk hsz=> ?_
  obtain⟨⟨oc,vs,t,hoc,hd,hv⟩,_⟩:=I.hok c' _ hc'
  have hPs:P<s.heap.objs.size:=lt_size hPo
  have hcs:c'<s.heap.objs.size:=lt_size hoc
  have nfc:h'.objs.size≠c':=Nat.ne_of_gt (lt_of_lt_of_le hcs hsz)
  have nfP:h'.objs.size≠P:=Nat.ne_of_gt (lt_of_lt_of_le hPs hsz)
  have ncP:c'≠P:=λe=>by rw[e,hP]at hc';cases hc'
  have hfn:H h'.objs.size=none:=I.hok.fresh hsz
  have kb:∀b o,s.heap.get? b=some o->(h'.push (kla_obj "<lambda>" (X.env.qual++ "<lambda>") params body scope clos ((X.mg "__name__").getD .none) c' ctv)).get? b=some o:=λb o e=>gZ _ (hk b o e)
  generalize hH':upd H h'.objs.size (LamO "<lambda>" (X.env.qual++ "<lambda>") params body scope clos ((X.mg "__name__").getD .none) c' h'.objs.size)=H'
  have eF:H' h'.objs.size=some (LamO "<lambda>" (X.env.qual++ "<lambda>") params body scope clos ((X.mg "__name__").getD .none) c' h'.objs.size):=by rw[<-hH',upd_same]
  have eO:∀b,b≠h'.objs.size->H' b=H b:=λb n1=>by rw[<-hH',B8 n1]
  have eK:∀b o,H b=some o->H' b=some o:=λb o e=>by
   rw[eO b (λz=>by rw[z,hfn]at e;cases e)];exact e
  refine⟨.ref h'.objs.size,H', ?_,rfl,h _ c' H' hfn eF (eK _ _ hc') ⟨_,eK _ _ hP,ht,hf⟩ nfc nfP ncP (λb n1 _ _=>eO b n1) λb o e _=>eK b o e⟩
  refine I.step (g':=s.gens) (d':=s.drawn) (ch:=[]) (λ_ z=>nomatch z) (λb o _ _ _ e _=>kb b o e) (λb o _ _ _ e _=>⟨o.slots,kb b o e⟩)
    (λb o _ e n=> ?_) (λb o _ e=>⟨o,kb b o e⟩) (λb xs e=>eK b _ e) (λb o u e=>eK b _ e) (λb qs e=>⟨#[],by rw[eK b _ e];simp⟩) (λm hm=> ?_) ?_ I.bare
  ·have n1:=lt_size e
   rw[eO b (ne_of_lt (lt_of_lt_of_le n1 hsz))];exact n
  ·obtain⟨o,es,ep,e,r⟩:=hm
   exact⟨o,es,ep,kb _ _ e,r⟩
  ·intro b u e
   by_cases z1:b=h'.objs.size
   ·rw[z1,eF]at e;cases e
    rw[z1];exact LamO.ok (get?_push_size _ rfl)
   rw[eO b z1]at e
   exact(I.hok b u e).stay (λd v _ q=>kb d v q) (λd q=>eK d _ q) λd xs q=>eK d _ q
end
noncomputable def del(H:Hp)(a:Addr):Hp:=λb=>if b=a then none else H b
theorem Q8{H:Hp}{a:Addr}:del H a a=none:=by unfold del;rw[if_pos rfl]
theorem X8{H:Hp}{a b:Addr}(h:b≠a):del H a b=H b:=by unfold del;rw[if_neg h]
theorem XD{H:Hp}{a b:Addr}{o:HO}(h:del H a b=some o):b≠a/\H b=some o:=by
 by_cases e:b=a
 ·subst e;rw[Q8]at h;cases h
 ·rw[X8 e]at h;exact⟨e,h⟩
theorem BK{H:Hp}{a b:Addr}(h:H b=none):del H a b=none:=by
 by_cases e:b=a
 ·subst e;exact Q8
 ·rw[X8 e];exact h
structure CapOk (X:Cx) (clos:List (Str×Addr)) (fs:List Str) (js:List Nat):Prop where
 only:∀x c,clos.lookup x=some c->x∈fs/\X.env.cells.lookup x=some c
 has:∀x∈fs,∃c,clos.lookup x=some c
 kind:∀x∈fs,X.env.kindOf x=some .cell
 fn:∀x∈fs,X.fn x=true
 nm:∀(i:Nat) (x:Str),fs[i]? =some x->∃j,js[i]? =some j/\X.N[j]? =some x
 len:js.length=fs.length
def dLZ(σ:St)(js:List Nat)(cvs:List V):Prop:=cvs.length=js.length/\∀(i j:Nat),js[i]? =some j->∃v,σ[j]? =some (some v)/\cvs[i]? =some v
structure LamAt (base:Heap) (name qual:Str) (params:Arguments) (body:Expr) (scope:Scope) (clos:List (Str×Addr)) (pm:Value) (c' f:Addr):Prop where
 fn:∃ctv,base.get? f=some (kla_obj name qual params body scope clos pm c' ctv)
 cd:base.CodeRec (.ref c') qual
theorem LamAt.fnAt{base:Heap}{name qual:Str}{params:Arguments}{body:Expr}{scope:Scope}{clos:List (Str×Addr)}{pm:Value}{c' f:Addr}(h:LamAt base name qual params body scope clos pm c' f):PySem.W.FnAt f base:=
 let⟨_,e⟩:=h.fn;⟨_,_,_,_,e⟩
def cnZ(name qual:Str)(params:Arguments)(body:Expr)(scope:Scope)(clos:List (Str×Addr))(pm:Value)(fs:List Str)(js:List Nat)(sp:Heap->Sp)(E:XK)(t:TA):TE:=fun σ H Q=>t σ H λvs H1=>
 ∃f c' cvs,dLZ σ js cvs/\H1 f=some (LamO name qual params body scope clos pm c' f)/\H1 c'=some (CodeO qual c')/\f≠c'/\
  ∀base',LamAt base' name qual params body scope clos pm c' f->Caught base' clos fs cvs->sp base' vs (del (del H1 f) c') (λv H'=>H' f=none->H' c'=none->Q v (upd H' c' (CodeO qual c'))) E
noncomputable def V4(h base:Heap)(l:List Addr):Heap:=PySem.W.hideAll h ((List.range h.objs.size).filter λa=>(base.get? a).isNone&& !l.contains a)
theorem OP(h base:Heap)(l:List Addr):(V4 h base l).objs.size=h.objs.size:=PySem.W.hideAll_size _ _
theorem Y8{h base:Heap}{l:List Addr}{b:Addr}{o:Obj}(e:h.get? b=some o)(k:(∃u,base.get? b=some u)\/b∈l):(V4 h base l).get? b=some o:=
 PySem.W.hideAll_get _ e λhm=>by
  have:=(mem_filter.mp hm).2
  rw[Bool.and_eq_true]at this
  rcases k with⟨u,k⟩|k
  ·rw[k]at this;simp at this
  ·simp[k]at this
theorem NE{h base:Heap}{l:List Addr}{b:Addr}{o:Obj}(e:(V4 h base l).get? b=some o):h.get? b=some o/\((∃u,base.get? b=some u)\/b∈l):=by
 have e':h.get? b=some o:=PySem.W.of_hideAll _ e
 refine⟨e', ?_⟩
 by_cases k:(∃u,base.get? b=some u)\/b∈l
 ·exact k
 ·exfalso
  have z:(V4 h base l).get? b=none:=PySem.W.hideAll_none _ (mem_filter.mpr ⟨mem_range.mpr (lt_size e'),by
   rw[Bool.and_eq_true]
   constructor
   ·cases q:base.get? b with
    |none=>rfl
    |some u=>exact absurd (.inl ⟨u,q⟩) k
   ·simp;exact λq=>k (.inr q)⟩)
  rw[z]at e;cases e
theorem OY{h base:Heap}{l:List Addr}:∀ {es:List Env},(∀b∈frs es,b∉l)->h.FunFrames base es->h.FunFrames (V4 h base l) es:=by
 intro es
 induction es with
 |nil=>intro _ _;trivial
 |cons env r ih=>
  intro hs hl
  obtain⟨hk,⟨L,o,hf,hn,ho,hd⟩,hr⟩:=hl
  refine⟨hk,⟨L,o,hf, ?_,ho,hd⟩,ih (λb hb=>hs b (by unfold frs;rw[filterMap_cons,hf];exact mem_cons_of_mem _ hb)) hr⟩
  cases q:(V4 h base l).get? L with
  |none=>rfl
  |some u=>
   rcases(NE q).2 with⟨v,z⟩|z
   ·rw[hn]at z;cases z
   ·exact absurd z (hs L (by unfold frs;rw[filterMap_cons,hf];exact mem_cons_self))
section
variable{X:Cx}{k:Nat}{g:Addr}{fd:FuncData}{ps:List Str}{sp:Heap->Sp}{x:Str}{p pos:Pos}{e:Expr}{es:List Expr}{t:TA}{name qual:Str}{params:Arguments}{body:Expr}{scope:Scope}{clos:List (Str×Addr)}{pm:Value}{fs:List Str}{js:List Nat}
theorem VS(F:∀base',FnOk X.prog X.w X.K X.mg base' CX0 k g fd ps (sp base'))(hr:Room k X.A)(hg:Gl X x)(hm:X.mg x=some (.ref g))(hk:kZ X.K (.ref g)=true)(hb:Binds X.K fd ps [])(C:CapOk X clos fs js)
  (ha:PA X (e::es) t)(hdb:(x==("__debug__":Str))=false:=by decide)(he:starEach (e::es) X.env=(false,eval e X.env)::starEach es X.env:=by rfl)(hpl:(backTo pos (starEach es X.env)).any (·.1)=false:=by rfl):
  PE X (.Call (.Name x p) (e::es) [] pos) (cnZ name qual params body scope clos pm fs js sp E0 t):=by
 intro pins s σ H Q I h
 refine wpAny_Call_Name_kw (BO I hg hm ?_ hdb)
 refine callWith_K (h₀:=X.base) I.ok.mod.kin hk (thn (ha pos pins s σ H _ I h) λus s1 ⟨vs,H1,I1,r,q⟩=>⟨I1.kIn, ?_⟩) he hpl
 obtain⟨f,c',cvs,hcv,hf,hc,nfc,q⟩:=q
 obtain⟨⟨ctv,hfo⟩,_⟩:=I1.hok f _ hf
 obtain⟨⟨oc,vsc,tc,hoc,hdc,hvc⟩,_⟩:=I1.hok c' _ hc
 have cellOf:∀y∈fs,∃c,clos.lookup y=some c/\X.env.cells.lookup y=some c/\X.s₀.heap.objs.size<=c:=λy hy=>by
  obtain⟨c,e⟩:=C.has y hy
  exact⟨c,e,(C.only y c e).2,I1.ok.cab y c (C.fn y hy) (C.only y c e).2⟩
 generalize hl:f::c'::fs.filterMap (λy=>clos.lookup y)=l
 have lin:∀b∈l,b=f\/b=c'\/∃y∈fs,clos.lookup y=some b:=λb hb=>by
  rw[<-hl]at hb
  rcases cZ hb with e|hb
  ·exact .inl e
  rcases cZ hb with e|hb
  ·exact .inr (.inl e)
  obtain⟨y,hy,e⟩:=mem_filterMap.mp hb
  exact .inr (.inr ⟨y,hy,e⟩)
 have fl:f∈l:=by rw[<-hl];exact mem_cons_self
 have cl':c'∈l:=by rw[<-hl];exact mem_cons_of_mem _ mem_cons_self
 have yl:∀y∈fs,∀c,clos.lookup y=some c->c∈l:=λy hy c e=>by
  rw[<-hl];exact mem_cons_of_mem _ (mem_cons_of_mem _ (mem_filterMap.mpr ⟨y,hy,e⟩))
 have n2:∀ {b:Addr},H1 b=none->del (del H1 f) c' b=none:=λh=>BK (BK h)
 have nef:∀ {b:Addr} {o:HO},H1 b=some o->(∀φ,o≠ .ext φ)->b≠f/\b≠c':=λ{b o} e n=>
  ⟨λz=>by rw[z,hf]at e;exact n _ (Option.some.inj e).symm,λz=>by rw[z,hc]at e;exact n _ (Option.some.inj e).symm⟩
 have d2:∀ {b:Addr} {o:HO},H1 b=some o->(∀φ,o≠ .ext φ)->del (del H1 f) c' b=some o:=λ{b o} e n=>by
  obtain⟨a1,a2⟩:=nef e n
  rw[X8 a2,X8 a1];exact e
 have hok2:HOk X.prog X.w (del (del H1 f) c') s1.heap:=λb u e=>by
  obtain⟨_,e1⟩:=XD e
  obtain⟨_,e2⟩:=XD e1
  exact(I1.hok b u e2).stay (λ_ _ _ q=>q) (λd q=>d2 q fun φ z=>nomatch z) λd xs q=>d2 q fun φ z=>nomatch z
 have bk':∀b o,X.base.get? b=some o->(V4 s1.heap X.base l).get? b=some o:=λb o e=>Y8 (I1.bk b o e) (.inl ⟨o,e⟩)
 have nsK:∀ {b:Addr} {m:Str->Option Value},X.base.Ns b m->(V4 s1.heap X.base l).Ns b m:=λ{b m} ⟨o,es,ep,e,r⟩=>⟨o,es,ep,bk' _ _ e,r⟩
 have hM:Mod X.K X.mg (V4 s1.heap X.base l):=⟨I1.mod.kin.keeps bk',nsK I1.mod.glob,(let⟨mb,b1,b2⟩:=I1.mod.blt;⟨mb,nsK b1,b2⟩),I1.mod.nolimit.keeps bk'⟩
 have nstk:∀b∈frs X.stack,b∉l:=λb hb hbl=>by
  have hn:=I1.stkFree b hb
  rcases lin b hbl with z|z|⟨y,hy,z⟩
  ·rw[z,hf]at hn;cases hn
  ·rw[z,hc]at hn;cases hn
  ·obtain⟨c,e1,e2,e3⟩:=cellOf y hy
   rw[z]at e1;cases e1
   rcases cZ (I1.stkSub b hb)with q|q
   ·exact I1.cne y b e2 q
   ·obtain⟨_,o,ho,_⟩:=I1.ok.funs.mem q
    exact absurd (lt_of_lt_of_le (lt_size ho) e3) (lt_irrefl _)
 have e0:Env0 X.prog X.w X.K X.mg (V4 s1.heap X.base l) X.A X.stack s1 (del (del H1 f) c'):=⟨I1.ok.frames,hM,λb o e=>by
  obtain⟨e1,kk⟩:=NE e
  refine⟨e1, ?_⟩
  rcases kk with⟨u,z⟩|z
  ·exact n2 (I1.bs b u z).2
  ·rcases lin b z with z|z|⟨y,hy,z⟩
   ·rw[z];exact BK Q8
   ·rw[z];exact Q8
   ·exact n2 (I1.freeC y b (C.only y b z).2),le_of_eq (OP _ _ _),OY nstk I1.stack,λb hb=>n2 (I1.stkFree b hb),hok2,I1.bare⟩
 have LA:LamAt (V4 s1.heap X.base l) name qual params body scope clos pm c' f:=⟨⟨ctv,Y8 hfo (.inr fl)⟩,⟨c',oc,vsc,tc,rfl,Y8 hoc (.inr cl'),hdc,hvc⟩⟩
 have CA:Caught (V4 s1.heap X.base l) clos fs cvs:=by
  refine⟨hcv.1.trans C.len,λy z c h1 h2=>I1.ok.inj y z c (C.only y c h1).2 (C.only z c h2).2,λy c h=>(C.only y c h).1,λi y hy=> ?_⟩
  have hym:y∈fs:=mem_of_getElem? hy
  obtain⟨c,c1,c2,_⟩:=cellOf y hym
  obtain⟨j,hj,hN⟩:=C.nm i y hy
  obtain⟨v,hv,hvc⟩:=hcv.2 i j hj
  obtain⟨m,hn,hlk⟩:=I1.loc
  obtain⟨u,ru,lk⟩:=hlk j y v hN hv (.inr (.inl (C.kind y hym)))
  rcases lk with⟨z,_⟩|⟨_,c3,e3,o,ho,hd⟩
  ·rw[C.kind y hym]at z;cases z
  ·rw[c2]at e3;cases e3
   exact⟨c,u,v,c1,⟨o,Y8 ho (.inr (yl y hym c c1)),hd⟩,hvc,ru⟩
 have hq:=q _ LA CA
 have hul:us.length=ps.length:=by rw[<-r.length];exact(F _).len _ _ _ _ hq
 have hbd:BindsTo s1 fd ⟨us,[]⟩ (ps.zip us):=by
  have:=hb s1 us I1.kIn (by rw[append_nil];exact hul)
  rw[append_nil]at this;exact this
 refine wpAny_call (codeAny_mono ((F _).run X.A X.stack s1 _ ⟨us,[]⟩ us vs _ E0 hr e0 hbd r hq) λrr s' hR=> ?_)
 cases rr with
 |error e=>exact False.elim hR
 |ok fl'=>
  cases fl' with
  |next=>exact False.elim hR
  |brk=>exact False.elim hR
  |cont=>exact False.elim hR
  |ret u=>
   obtain⟨v,H',os,bare,un,hok',rv,hQ⟩:=hR
   obtain⟨hh,g',d',t',os'⟩:=s'
   obtain rfl:os'=s1.os:=os
   have cst:c'∉frs X.stack:=λz=>by have:=I1.stkFree c' z;rw[hc]at this;cases this
   have hc2:hh.get? c'=some oc:=un.keep c' oc hoc Q8 cst (by simp)
   have hcn:H' c'=none:=un.free c' oc hoc Q8 (by simp)
   have hfn':H' f=none:=un.free f _ hfo (BK Q8) (by simp)
   have up:∀ {b:Addr} {o:HO},H' b=some o->upd H' c' (CodeO qual c') b=some o:=λ{b o} e=>by rw[B8 (C6 e hcn)];exact e
   refine⟨v,upd H' c' (CodeO qual c'), ?_,rv,hQ hfn' hcn⟩
   refine I1.step (g':=g') (d':=d') (t':=t') (h':=hh) (ch:=[]) (λ_ z=>nomatch z) (λb o hL hbf _ e n=>un.keep b o e (n2 n) (λz=>(cZ (I1.stkSub b z)).elim hL hbf) (by simp)) (λb o _ _ _ e n=>un.any e (n2 n) (by simp))
    (λb o _ e n=> ?_) (λb o _ e=>un.there b o e (by simp)) (λb xs e=>up (un.tups b xs (d2 e fun φ z=>nomatch z))) (λb o u e=>up (un.frzs b o u (d2 e fun φ z=>nomatch z))) (λb qs e=> ?_) (λm hm=> ?_) (λb w e=> ?_) bare
   ·have ne:b≠c':=λz=>by rw[z,hc]at n;cases n
    rw[B8 ne];exact un.free b o e (n2 n) (by simp)
   ·obtain⟨more,e1⟩:=un.tbls b qs (d2 e fun φ z=>nomatch z)
    exact⟨more,up e1⟩
   ·obtain⟨o',es',ep',ho',r'⟩:=hm
    obtain⟨sl,hL⟩:=un.any ho' (n2 I1.free) (by simp)
    exact⟨_,es',ep',hL,r'⟩
   ·by_cases z:b=c'
    ·subst z;rw[upd_same]at e;cases e
     exact CodeO.ok hc2 hdc hvc
    ·rw[B8 z]at e
     exact(hok' b w e).stay (λ_ _ _ q=>q) (λd q=>up q) λd xs q=>up q
end
def GE(K:FZ)(base:Heap)(f:Addr):Prop:=kZ K (.ref f)=true\/PySem.W.FnAt f base
def aoZ(P:Program)(w:World)(K:FZ)(mg:Str->Option Value)(base:Heap)(A:Around)(CX:CXT)(E:XK)(tf:TE)(t:TA):TE:=fun σ H Q=>tf σ H λx H0=>∃(f:Addr) (fd:FuncData) (ps:List Str) (sp:Sp) (k:Nat),
 x=.ref f/\FnOk P w K mg base CX k f fd ps sp/\Room k A/\GE K base f/\Binds K fd ps []/\t σ H0 λvs H1=>sp vs H1 Q E
section
variable{X:Cx}{P:Program}{w:World}{K:FZ}{mg:Str->Option Value}{base:Heap}{A:Around}{CX:CXT}{E:XK}{x:Str}{p pos:Pos}{e:Expr}{es:List Expr}{tf:TE}{t:TA}
theorem IU(hf:PE X (.Name x p) tf)(hx:U5 CX X E)(ha:PA X (e::es) t)(hP:X.prog=P:=by rfl)(hw:X.w=w:=by rfl)(hK:X.K=K:=by rfl)(hmg:X.mg=mg:=by rfl)(hbs:X.base=base:=by rfl)(hA:X.A=A:=by rfl)
  (he:starEach (e::es) X.env=(false,eval e X.env)::starEach es X.env:=by rfl)(hpl:(backTo pos (starEach es X.env)).any (·.1)=false:=by rfl):
  PE X (.Call (.Name x p) (e::es) [] pos) (aoZ P w K mg base A CX E tf t):=by
 subst hP;subst hw;subst hK;subst hmg;subst hbs;subst hA
 intro pins s σ H Q I h
 refine wpAny_Call_Name_kw (thn (hf pins s σ H _ I h) λfv s0 ⟨y,H0,I0,r0,q0⟩=> ?_)
 obtain⟨f,fd,ps,sp,k,rfl,F,hr,hk,hb,q⟩:=q0
 cases r0
 rcases hk with hk|⟨oc,od,fd',sl,ho⟩
 ·refine callWith_K (h₀:=X.base) I0.ok.mod.kin hk (thn (ha pos pins s0 σ H0 _ I0 q) λus s1 ⟨vs,H1,I1,r,q1⟩=>⟨I1.kIn, ?_⟩) he hpl
  exact FJ (dvs:=[]) F hr hb .nil hx I1 r (by rw[append_nil];exact q1)
 ·refine PySem.W.callWith_F ⟨oc,od,fd',sl,I0.bk _ _ ho⟩ (thn (ha pos pins s0 σ H0 _ I0 q) λus s1 ⟨vs,H1,I1,r,q1⟩=>⟨⟨oc,od,fd',sl,I1.bk _ _ ho⟩, ?_⟩) he hpl
  exact FJ (dvs:=[]) F hr hb .nil hx I1 r (by rw[append_nil];exact q1)
end
theorem Fun.okC{P:Program}{w:World}{K:FZ}{mg:Str->Option Value}{base:Heap}{x qual:Str}{st:Stmt}{f:Addr}{fd:FuncData}{N ps:List Str}{k:Nat}{sp:Sp}(F:Fun K x qual st f fd)(S:FnScope N ps (B0 st))(len:∀vs H Q E,sp vs H Q E->vs.length=ps.length)
  (hbody:∀(cdv:Value) (A:Around) (outer:List Env) (s:Shared) (H:Hp) (vs:List V) (Q:VK) (E:XK),fd.code=cdv->Room k (A.deeper (envOfC qual (B0 st) s.heap.objs.size f cdv))->sp vs H Q E->
   ∃t,PSs (MP CX0 P w K mg base N qual (B0 st) f cdv A outer s H E).nox (D9 st) t/\t {nx:=λ_ H'=>Q .non H',rt:=Q} (start N vs) H):FnOk P w K mg base CX0 (k+1) f fd ps sp:=by
 obtain⟨oc,od,kV,doc,pm,an,cdv,ct,osl,rfl,lk,hcd⟩:=F.ex
 refine bfZ lk hcd S len λA outer s H vs Q E hr hsp=> ?_
 obtain⟨t,h,q⟩:=hbody cdv A outer s H vs Q E rfl hr hsp
 exact⟨t,h.nox,q⟩
structure OnlyT (tabs:List (Addr×Addr)) (H:Hp):Prop where
 only:∀b,H b=none\/(∃o xs,H b=some (.frz o (.lst xs)))\/H b=some (.tbl #[])
 tab:∀q∈tabs,H q.2=some (.tbl #[])
structure TabsB (tabs:List (Addr×Addr)) (mg:Str->Option Value) (base:Heap):Prop where
 code:∀q∈tabs,PySem.W.CodeHd base q.1 q.2
 blt:∀q∈tabs,base.BuiltinsAt mg q.2
theorem UQ{P:Program}{w:World}{K:FZ}{mg mb:Str->Option Value}{CX:CXT}{k:Nat}{fa a:Addr}{fd:FuncData}{x:Str}{sp:Sp}{s₁:Shared}{vs:List Value}{ns:List Int}{tabs:List (Addr×Addr)}
  (KX:K.In s₁.heap)(hns:s₁.heap.Ns mainGlobals mg)(hb:s₁.heap.Ns builtinsNs mb)(hbb:∀x:Str,x≠ "__name__"->mb x=bootBuiltins x)(hlim:s₁.heap.NoLimit)(hg:s₁.gens= #[])
  (hT:PySem.W.TabsAt tabs s₁.heap)(hK:PySem.W.noTabs K=true)(hbm:∃bm ob,mg "__builtins__"=some (.ref bm)/\bm≠builtinsNs/\s₁.heap.get? bm=some ob/\ob.cls=.type "module"/\ob.dict=some builtinsNs/\ob.data=.plain)
  (ha:s₁.heap.get? a=some {cls:=.type "list",data:=.seq vs.toArray})(hi:IntsAre vs ns)(hl:ns.length<=sizeLine)(hr:Room k callerA)
  (F:∀base:Heap,K.In base->base.Ns mainGlobals mg->TabsB tabs mg base->FnOk P w K mg base CX k fa fd [x] sp)(hbind:∀(s:Shared) (u:Value),BindsTo s fd ⟨[u],[]⟩ [(x,u)])
  (hsp:∀H:Hp,OnlyT tabs H->SqL K H a (ns.map V.int)->sp [.ref a] H (λv _=>v=.bl true) λ_ _ _=>False)
  (hCX:∀H e s',CX [] H s₁ (λ_ _ _=>False) e s'->False):
  codeAny (model P w) callerA (.call (.ref fa) ⟨[.ref a],[]⟩) (λr s'=>r=.ok (.ret (.bool true))/\OldK s₁.heap s'.heap/\s'.os=s₁.os/\AllBare s'.gens) s₁:=by
 have rv:=ID hi
 have lenV:=hi.length
 have core:∀H:Hp,OnlyT tabs H->SqL K H a (ns.map V.int)->HOk P w H s₁.heap->(∀b,H b≠none->b=a\/b∈tabs.map (·.2))->(H a≠none->K.lookup a=none)->
   codeAny (model P w) callerA (.call (.ref fa) ⟨[.ref a],[]⟩) (λr s'=>r=.ok (.ret (.bool true))/\OldK s₁.heap s'.heap/\s'.os=s₁.os/\AllBare s'.gens) s₁:=by
  intro H hO hS hok hA hKa
  have base_of:∀ {b:Addr} {o:Obj},s₁.heap.get? b=some o->H b=none->(HL s₁.heap H).get? b=some o:=λe n=>YG e n
  have isT:∀ {b:Addr},H b≠none->s₁.heap.get? b=some {cls:=.type "list",data:=.seq vs.toArray}\/s₁.heap.get? b=some (PySem.W.tabObj #[]):=λ{b} h=>by
   rcases hA b h with e|e
   ·rw[e];exact .inl ha
   ·obtain⟨q,hq,rfl⟩:=mem_map.mp e
    exact .inr (hT q hq).2
  have noA:∀ {b:Addr} {o:Obj},s₁.heap.get? b=some o->o≠ {cls:=.type "list",data:=.seq vs.toArray}->o≠PySem.W.tabObj #[]->H b=none:=λ{b o} e n1 n2=>by
   cases q:H b with
   |none=>rfl
   |some u=>
    rcases isT (b:=b) (by rw[q];simp)with z|z<;>rw[e]at z
    ·exact absurd (Option.some.inj z) n1
    ·exact absurd (Option.some.inj z) n2
  have nsK:∀ {b:Addr} {m:Str->Option Value},s₁.heap.Ns b m->(HL s₁.heap H).Ns b m:=λ{b m} ⟨o,es,ep,e,d,r⟩=>⟨o,es,ep,base_of e (noA e (λz=>by rw[z]at d;cases d) λz=>by rw[z]at d;cases d),d,r⟩
  have hKb:K.In (HL s₁.heap H):=λb o e=>base_of (KX b o e) (by
   cases q:H b with
   |none=>rfl
   |some u=>
    rcases hA b (by rw[q];simp)with z|z
    ·subst z
     rw[hKa (by rw[q];simp)]at e;cases e
    ·obtain⟨t,ht,rfl⟩:=mem_map.mp z
     have h2:=all_eq_true.mp hK _ (PySem.W.mem_of_lookupK e)
     have h3:=KX _ _ e
     rw[(hT t ht).2]at h3
     cases h3
     exact absurd (show false=true from h2) nZ)
  have hM:Mod K mg (HL s₁.heap H):=⟨hKb,nsK hns,⟨mb,nsK hb,hbb⟩,let⟨mc,h1,h2⟩:=hlim;⟨mc,nsK h1,h2⟩⟩
  have hTB:TabsB tabs mg (HL s₁.heap H):=by
   refine⟨λq hq=> ?_,λq hq=> ?_⟩
   ·obtain⟨o,vs',file,tf,flags,tg,inF,text,tt,e,c1,c2,r⟩:=(hT q hq).1
    exact⟨o,vs',file,tf,flags,tg,inF,text,tt,base_of e (noA e (λz=>by rw[z]at c1;injection c1 with q;exact absurd q (by decide)) λz=>by rw[z]at c1;cases c1),c1,c2,r⟩
   ·obtain⟨bm,ob,b1,b2,b3,b4,b5,b6⟩:=hbm
    refine⟨bm,ob,b1,b2,λz=> ?_,λz=> ?_,base_of b3 (noA b3 (λz=>by rw[z]at b4;injection b4 with q;exact absurd q (by decide)) λz=>by rw[z]at b4;cases b4),b4,b5,b6⟩
    ·obtain⟨o,es,ep,e,hd,_⟩:=hns
     rw[z,e]at b3;cases b3;rw[hd]at b6;cases b6
    ·rw[z,(hT q hq).2]at b3;cases b3;cases b4
  have e0:Env0 P w K mg (HL s₁.heap H) callerA [] s₁ H:=⟨rfl,hM,λb o e=>aJZ e,le_of_eq (UN _ _),trivial,λb hb=>absurd (show b∈([]:List Addr)from hb) (by simp),hok,.of_eq hg⟩
  refine codeAny_mono ((F _ hKb (nsK hns) hTB).run callerA [] s₁ H ⟨[.ref a],[]⟩ [.ref a] [.ref a] _ _ hr e0 (hbind s₁ (.ref a)) (.cons rfl .nil) (hsp H hO hS)) λr s' h=> ?_
  cases r with
  |error e=>exact(hCX H e s' h).elim
  |ok fl=>
   cases fl with
   |next=>exact False.elim h
   |brk=>exact False.elim h
   |cont=>exact False.elim h
   |ret u=>
    obtain⟨v,H',os,bare,un,hok',r',q⟩:=h
    have q':v=.bl true:=q
    subst q'
    obtain rfl:u=Value.bool true:=r'
    have nofr:∀b:Addr,b∉frs ([]:List Env):=λb z=>absurd (show b∈([]:List Addr)from z) (by simp)
    refine⟨rfl,⟨λb o e=> ?_,λb o e=>un.there b o e (by simp)⟩,os,bare⟩
    cases q:H b with
    |none=>exact .inl (un.keep b o e q (nofr b) (by simp))
    |some u=>
     rcases hO.only b with z|⟨ob,xs,z⟩|z
     ·rw[q]at z;cases z
     ·have z2:=un.frzs b ob _ z
      obtain⟨e1,_⟩:=hok b _ z
      obtain⟨e2,_⟩:=hok' b _ z2
      rw[e]at e1;cases e1
      exact .inl e2
     ·obtain⟨more,z2⟩:=un.tbls b #[] z
      have e2:s'.heap.get? b=some {cls:=.none,data:=.fields (#[]++more)}:=hok' b _ z2
      have e1:s₁.heap.get? b=some {cls:=.none,data:=.fields #[]}:=hok b _ z
      rw[e]at e1;cases e1
      rcases hA b (by rw[q];simp)with y|y
      ·rw[y,ha]at e;cases e
      ·obtain⟨t,ht,rfl⟩:=mem_map.mp y
       obtain⟨o,vs',file,tf,flags,tg,inF,text,tt,e',c1,c2,c3,r⟩:=(hT t ht).1
       exact .inr (.inl ⟨⟨t.1,o,vs',e',c1,c2,c3⟩,rfl, #[],more,rfl,e2⟩)
 have tne:∀q∈tabs,q.2≠a:=λq hq z=>by have:=(hT q hq).2;rw[z,ha]at this;cases this
 have mk:∀H0:Hp,(∀b,H0 b≠none->b=a)->(∀b,H0 b=none\/∃o xs,H0 b=some (.frz o (.lst xs)))->SqL K H0 a (ns.map V.int)->HOk P w H0 s₁.heap->(H0 a≠none->K.lookup a=none)->
   codeAny (model P w) callerA (.call (.ref fa) ⟨[.ref a],[]⟩) (λr s'=>r=.ok (.ret (.bool true))/\OldK s₁.heap s'.heap/\s'.os=s₁.os/\AllBare s'.gens) s₁:=by
  intro H0 h1 h2 h3 h4 h5
  generalize hH:(λb=>if b∈tabs.map (·.2)then some (HO.tbl #[])else H0 b:Hp)=H
  have inT:∀ {b},b∈tabs.map (·.2)->H b=some (.tbl #[]):=λ{b} h=>by rw[<-hH];exact if_pos h
  have outT:∀ {b},b∉tabs.map (·.2)->H b=H0 b:=λ{b} h=>by rw[<-hH];exact if_neg h
  have nT:a∉tabs.map (·.2):=λz=>by obtain⟨q,hq,e⟩:=mem_map.mp z;exact tne q hq e
  have up:∀ {b o},H0 b=some o->H b=some o:=λ{b o} e=>by
   have:b=a:=h1 b (by rw[e];simp)
   rw[outT (by rw[this];exact nT)];exact e
  refine core H ⟨λb=> ?_,λq hq=>inT (List.mem_map_of_mem hq)⟩ ?_ (λb u e=> ?_) (λb hb=> ?_) (λh=>h5 (by rw[outT nT]at h;exact h))
  ·by_cases hb:b∈tabs.map (·.2)
   ·exact .inr (.inr (inT hb))
   ·rw[outT hb];exact(h2 b).elim .inl λh=> .inr (.inl h)
  ·rcases h3 with h|h
   ·rcases h with h|⟨o,h⟩
    ·exact .inl (.inl (up h))
    ·exact .inl (.inr ⟨o,up h⟩)
   ·exact .inr h
  ·by_cases hb:b∈tabs.map (·.2)
   ·rw[inT hb]at e;cases e
    obtain⟨q,hq,rfl⟩:=mem_map.mp hb
    exact(hT q hq).2
   ·rw[outT hb]at e
    exact(h4 b u e).stay (λ_ _ _ q=>q) (λ_ q=>up q) λ_ _ q=>up q
  ·by_cases hb':b∈tabs.map (·.2)
   ·exact .inr hb'
   ·rw[outT hb']at hb;exact .inl (h1 b hb)
 cases hk:K.lookup a with
 |some o=>
  have e:=KX a o hk
  rw[ha]at e
  cases e
  exact mk (λ_=>none) (λb z=>absurd rfl z) (λ_=> .inl rfl) (.inr ⟨_,vs.toArray,_,hk,rfl,rfl,rfl,by rw[size_toArray,lenV];exact hl,by simpa using rv⟩) (λb u z=>by have z':(none:Option HO)=some u:=z;cases z') λz=>absurd rfl z
 |none=>
  refine mk (λb=>if b=a then some (.frz {cls:=.type "list",data:=.seq vs.toArray} (.lst (ns.map V.int)))else none) (λb z=> ?_) (λb=> ?_) (.inl (.inr ⟨{cls:=.type "list",data:=.seq vs.toArray},if_pos rfl⟩)) (λb u z=> ?_) λ_=>hk
  ·by_cases hb:b=a
   ·exact hb
   ·exact absurd (if_neg hb) z
  ·by_cases hb:b=a
   ·exact .inr ⟨_,_,if_pos hb⟩
   ·exact .inl (if_neg hb)
  ·by_cases hb:b=a
   ·have z':=(if_pos hb).symm.trans z
    cases z'
    subst hb
    exact⟨ha,by rw[length_map];exact hl,vs,_,rv,ha⟩
   ·have z':=(if_neg hb).symm.trans z
    cases z'
theorem walk_ofKT{l:PySem.W.OpenLaw}{n k:Nat}{q:Program}{loose:List Str}{XP:(Str->Option Value)->Heap->Prop}{YP:World->Heap->Prop}{d:DefRec}{K:Params->FZ}{CX:CXT}{sp:FZ->Sp}{x:Str}{tabs:List (Addr×Addr)}
  (hn:l.most=some n)(hn2:n<=sizeLine)(hdf:d.params.defaults=[])(hr:Room k callerA)
  (hY:∀(w:World) (h:Heap),YP w h->(K w.params).In h)
  (hT:∀(w:World) (lo:List Str) (mean:ExcName->Option Value) (mg mb:Str->Option Value) (h:Heap),Top q lo mean mg mb h->(K w.params).In h->PySem.W.TabsAt tabs h)(hK:∀w:World,PySem.W.noTabs (K w.params)=true)
  (F:∀(w:World) (mg:Str->Option Value) (fa:Addr) (h:Heap),(K w.params).In h->h.Ns mainGlobals mg->mg d.name=some (.ref fa)->
   ∃fd:FuncData,(∀(s:Shared) (u:Value),BindsTo s fd ⟨[u],[]⟩ [(x,u)])/\
    ∀base:Heap,(K w.params).In base->base.Ns mainGlobals mg->TabsB tabs mg base->FnOk l.prog w (K w.params) mg base CX k fa fd [x] (sp (K w.params)))
  (hsp:∀(K:FZ) (H:Hp) (a:Addr) (ns:List Int),ns.length<=n->OnlyT tabs H->SqL K H a (ns.map V.int)->sp K [.ref a] H (λv _=>v=.bl true) λ_ _ _=>False)
  (hCX:∀(H:Hp) (s:Shared) (e:Value) (s':Shared),CX [] H s (λ_ _ _=>False) e s'->False):
  PySem.W.WalkO q loose XP YP l.row.toRowW d [] (λf vs=>PySem.call f vs):=by
 refine Att.attach_call hn hdf λw s₀ s₁ mg mb fa o pm cd doc a vs ns G Y ho hd hcd hmg hobj hints hlen hg=> ?_
 have KX:=hY w _ Y
 obtain⟨fd,hb,hF⟩:=F w mg fa _ KX G.T.g hmg
 exact UQ KX G.T.g G.T.b G.T.builtins G.T.nolimit hg (hT w _ _ mg mb _ G.T KX) (hK w) G.T.bmain hobj hints (le_trans hlen hn2) hr hF hb (λH hO hS=>hsp (K w.params) H a ns hlen hO hS) λH e s'=>hCX H s₁ e s'
section
variable{κ:Type}[DecidableEq κ]
noncomputable def N8(kvs:List (κ×V))(k:κ):Option V:=(kvs.find? λkv=>decide (kv.1=k)).map (·.2)
def U8(kvs:List (κ×V))(k:κ)(v:V):List (κ×V):=
 if(kvs.any λkv=>decide (kv.1=k))=true then kvs.map (λkv=>if kv.1=k then(kv.1,v)else kv)else kvs++ [(k,v)]
theorem L8{p:κ×V}{r:List (κ×V)}{k:κ}(e:p.1=k):N8 (p::r) k=some p.2:=by simp[N8,find?_cons,e]
theorem M1{p:κ×V}{r:List (κ×V)}{k:κ}(e:¬p.1=k):N8 (p::r) k=N8 r k:=by simp[N8,find?_cons,e]
theorem T6(k:κ):∀kvs:List (κ×V),(kvs.any λkv=>decide (kv.1=k))=(N8 kvs k).isSome
 | []=>rfl
 |p::r=>by
  rw[any_cons]
  by_cases e:p.1=k
  ·simp only[L8 e,decide_eq_true e,Bool.true_or,Option.isSome_some]
  ·rw[M1 e,decide_eq_false e,Bool.false_or];exact T6 k r
theorem MO(k j:κ)(y:V):∀kvs:List (κ×V),N8 (kvs.map λkv=>if kv.1=k then(kv.1,y)else kv) j=(N8 kvs j).map λx=>if j=k then y else x
 | []=>rfl
 |p::r=>by
  have ih:=MO k j y r
  rw[map_cons]
  by_cases h:p.1=k
  ·rw[if_pos h]
   by_cases e:p.1=j
   ·rw[L8 (p:=(p.1,y)) e,L8 e,map_some,if_pos (e.symm.trans h)]
   ·rw[M1 (p:=(p.1,y)) e,M1 e,ih]
  ·rw[if_neg h]
   by_cases e:p.1=j
   ·rw[L8 (p:=p) e,L8 e,map_some,if_neg (λz=>h (e.trans z))]
   ·rw[M1 (p:=p) e,M1 e,ih]
theorem HX(k j:κ)(y:V):∀kvs:List (κ×V),N8 kvs k=none->N8 (kvs++ [(k,y)]) j=if j=k then some y else N8 kvs j
 | [],_=>by
  by_cases e:k=j
  ·rw[if_pos e.symm];exact L8 (p:=(k,y)) e
  ·rw[if_neg (λz=>e z.symm)];exact M1 (p:=(k,y)) e
 |p::r,hn=>by
  rw[List.cons_append]
  have hk:¬p.1=k:=λz=>by rw[L8 z]at hn;cases hn
  rw[M1 hk]at hn
  have ih:=HX k j y r hn
  by_cases e:p.1=j
  ·rw[L8 e,L8 e,if_neg (λz=>hk (e.trans z))]
  ·rw[M1 e,M1 e,ih]
theorem VY(kvs:List (κ×V))(k j:κ)(y:V):N8 (U8 kvs k y) j=if j=k then some y else N8 kvs j:=by
 unfold U8
 by_cases a:(kvs.any λkv=>decide (kv.1=k))=true
 ·rw[if_pos a,MO]
  rw[T6]at a
  by_cases e:j=k
  ·obtain⟨x,hx⟩:=Option.isSome_iff_exists.mp a
   rw[if_pos e,e,hx,map_some,if_pos rfl]
  ·rw[if_neg e]
   cases N8 kvs j with
   |none=>rfl
   |some x=>rw[map_some,if_neg e]
 ·rw[if_neg a]
  refine HX k j y kvs ?_
  rw[T6]at a
  cases q:N8 kvs k with
  |none=>rfl
  |some x=>rw[q]at a;exact(a rfl).elim
theorem X6(kvs:List (κ×V))(k:κ)(v:V):(U8 kvs k v).length<=kvs.length+1:=by
 unfold U8
 split
 ·rw[length_map];omega
 ·rw[length_append,length_cons,length_nil];omega
theorem FX{kvs:List (κ×V)}{k:κ}(v:V)(h:N8 kvs k=none):U8 kvs k v=kvs++ [(k,v)]:=by
 unfold U8
 rw[T6,h]
 exact if_neg (by decide)
theorem RelO.isSome_eq{o:Option V}{u:Option Value}(r:RelO o u):o.isSome=u.isSome:=by
 cases o with
 |none=>cases u with
  |none=>rfl
  |some _=>exact(show False from r).elim
 |some _=>cases u with
  |none=>exact(show False from r).elim
  |some _=>rfl
theorem KV.val{kvs:List (κ×V)}{vs:List (κ×Value)}(r:KV kvs vs)(k:κ):RelO (N8 kvs k) (valueAt vs k):=by
 unfold KV at r
 induction r with
 |nil=>exact True.intro
 | @cons p q ps qs h t ih=>
  obtain⟨h1,h2⟩:=h
  by_cases e:p.1=k
  ·have e':q.1=k:=h1.symm.trans e
   have b:valueAt (q::qs) k=some q.2:=by simp[valueAt,find?_cons,e']
   rw[L8 e,b];exact h2
  ·have e':¬q.1=k:=λz=>e (h1.trans z)
   have b:valueAt (q::qs) k=valueAt qs k:=by simp[valueAt,find?_cons,e']
   rw[M1 e,b];exact ih
theorem KV.any{kvs:List (κ×V)}{vs:List (κ×Value)}(r:KV kvs vs)(k:κ):(kvs.any λkv=>decide (kv.1=k))=vs.any λkv=>decide (kv.1=k):=by
 unfold KV at r
 induction r with
 |nil=>rfl
 |cons h t ih=>rw[any_cons,any_cons,ih,h.1]
theorem KV.repl{kvs:List (κ×V)}{vs:List (κ×Value)}(r:KV kvs vs)(k:κ){y:V}{u:Value}(ry:RelV y u):
  KV (kvs.map λkv=>if kv.1=k then(kv.1,y)else kv) (vs.map λkv=>if kv.1=k then(kv.1,u)else kv):=by
 unfold KV at r⊢
 induction r with
 |nil=>exact .nil
 | @cons p q ps qs h t ih=>
  rw[map_cons,map_cons]
  refine .cons ?_ ih
  obtain⟨h1,h2⟩:=h
  by_cases e:p.1=k
  ·rw[if_pos e,if_pos (h1.symm.trans e)];exact⟨h1,ry⟩
  ·rw[if_neg e,if_neg (λz=>e (h1.trans z))];exact⟨h1,h2⟩
theorem KV.put{kvs:List (κ×V)}{vs:List (κ×Value)}(r:KV kvs vs)(k:κ){y:V}{u:Value}(ry:RelV y u):KV (U8 kvs k y) (stored vs k u):=by
 unfold U8 stored
 rw[r.any k]
 by_cases e:(vs.any λkv=>decide (kv.1=k))=true
 ·rw[if_pos e,if_pos e];exact r.repl k ry
 ·rw[if_neg e,if_neg e];exact Paired.snoc r ⟨rfl,ry⟩
theorem KV.keys{kvs:List (κ×V)}{vs:List (κ×Value)}(r:KV kvs vs):kvs.map (·.1)=vs.map (·.1):=by
 unfold KV at r
 induction r with
 |nil=>rfl
 |cons h t ih=>rw[map_cons,map_cons,ih,h.1]
theorem KV.length{kvs:List (κ×V)}{vs:List (κ×Value)}(r:KV kvs vs):kvs.length=vs.length:=Paired.length r
end
theorem IM{P:Program}{w:World}{k:Key}{u:Value}(r:RelV (kV k) u):(J7 P w).is k u=true:=by
 cases k with
 |inl i=>obtain⟨t,e⟩:=(show∃t,u=Value.int i t from r);subst e;exact NA P w i t
 |inr x=>obtain⟨t,e⟩:=(show∃t,u=Value.str x t from r);subst e;exact ME P w x t
theorem HW{P:Program}{w:World}:∀ {ks:List Key} {us:List Value},Vals (ks.map kV) us->ItemsAre (J7 P w) ks us
 | [],_,r=>by rw[map_nil]at r;cases r;exact .nil
 |k::ks,_,r=>by
  rw[map_cons]at r
  cases r with
  |cons h t=>exact .cons (IM h) (HW t)
abbrev KT(H:Hp):List (List Key×V)->List (List Key×Addr×Value)->Prop:=Paired λp q=>p.1=q.1/\H q.2.1=some (.tup (p.1.map kV))/\RelV p.2 q.2.2
theorem KT.val{H:Hp}{kvs:List (List Key×V)}{xs:List (List Key×Addr×Value)}(r:KT H kvs xs)(k:List Key):RelO (N8 kvs k) ((atKey xs k).map (·.2)):=by
 induction r with
 |nil=>exact True.intro
 | @cons p q ps qs h t ih=>
  obtain⟨h1,_,h2⟩:=h
  by_cases e:p.1=k
  ·have e':q.1=k:=h1.symm.trans e
   have b:atKey (q::qs) k=some q.2:=by simp[atKey,find?_cons,e']
   rw[L8 e,b];exact h2
  ·have e':¬q.1=k:=λz=>e (h1.trans z)
   have b:atKey (q::qs) k=atKey qs k:=by simp[atKey,find?_cons,e']
   rw[M1 e,b];exact ih
theorem KT.repl{H:Hp}{kvs:List (List Key×V)}{xs:List (List Key×Addr×Value)}(r:KT H kvs xs)(k:List Key){y:V}{u:Value}(ry:RelV y u):
  KT H (kvs.map λkv=>if kv.1=k then(kv.1,y)else kv) (xs.map (putAt k u)):=by
 induction r with
 |nil=>exact .nil
 | @cons p q ps qs h t ih=>
  rw[map_cons,map_cons]
  refine .cons ?_ ih
  obtain⟨h1,h2,h3⟩:=h
  unfold putAt
  by_cases e:p.1=k
  ·rw[if_pos e,if_pos (h1.symm.trans e)];exact⟨h1,h2,ry⟩
  ·rw[if_neg e,if_neg (λz=>e (h1.trans z))];exact⟨h1,h2,h3⟩
theorem KT.put{H:Hp}{kvs:List (List Key×V)}{xs:List (List Key×Addr×Value)}(r:KT H kvs xs)(k:List Key){b:Addr}{y:V}{u:Value}(hb:H b=some (.tup (k.map kV)))(ry:RelV y u):
  KT H (U8 kvs k y) (storedH xs k b u):=by
 have e:(kvs.any λkv=>decide (kv.1=k))=(atKey xs k).isSome:=by
  rw[T6,(r.val k).isSome_eq,Option.isSome_map]
 unfold U8 storedH
 rw[e]
 by_cases q:(atKey xs k).isSome=true
 ·rw[if_pos q,if_pos q];exact r.repl k ry
 ·rw[if_neg q,if_neg q];exact Paired.snoc r ⟨rfl,hb,ry⟩
theorem KT.keeps{H H':Hp}{kvs:List (List Key×V)}{xs:List (List Key×Addr×Value)}(r:KT H kvs xs)(ht:∀b ys,H b=some (.tup ys)->H' b=some (.tup ys)):KT H' kvs xs:=
 Paired.mapP r λ_ _ z=>⟨z.1,ht _ _ z.2.1,z.2.2⟩
section
variable{P:Program}{w:World}{H:Hp}{h:Heap}{a:Addr}
theorem bhZ{u:HO}(ok:HOk P w H h)(e:Rd H a u):ObjOk P w H h a u:=e.ok ok
theorem IN{kvs:List (Key×V)}(ok:HOk P w H h)(e:Rd H a (.dK kvs)):kvs.length<=sizeLine/\(a==sysModules)=false/\∃vs,KV kvs vs/\h.DictOf (J7 P w) a vs:=
 show ObjOk P w H h a (.dK kvs)from bhZ ok e
theorem baZ{kvs:List (Key×V)}(ok:HOk P w H h)(e:H a=some (.dK kvs)):kvs.length<=sizeLine/\(a==sysModules)=false/\∃vs,KV kvs vs/\h.DictOf (J7 P w) a vs:=IN ok (.inl e)
theorem HD{ks:List Key}(ok:HOk P w H h)(e:H a=some (.tup (ks.map kV))):(tupleKind (J7 P w)).is h ks a:=by
 obtain⟨_,its,r,o,h1,h2,n,h3⟩:=(show ObjOk P w H h a (.tup (ks.map kV))from ok a _ e)
 exact⟨o,its.toArray,n,h1,h2,h3,by simpa using HW r⟩
theorem NC{kvs:List (List Key×V)}(ok:HOk P w H h)(e:Rd H a (.dT kvs)):kvs.length<=sizeLine/\(a==sysModules)=false/\
  ∃xs,KT H kvs xs/\h.DictOfH (tupleKind (J7 P w)) a xs:=by
 obtain⟨z,y,xs,r,o,es,ep,h1,h2,h3,h4,h5⟩:=(show ObjOk P w H h a (.dT kvs)from bhZ ok e)
 refine⟨z,y,xs,r,o,es,ep,h1,h2,h3,h4,λx hx=> ?_,h5⟩
 have all:∀ {l:List (List Key×V)} {m:List (List Key×Addr×Value)},KT H l m->∀x∈m,(tupleKind (J7 P w)).is h x.1 x.2.1:=by
  intro l m q
  induction q with
  |nil=>intro x hx;exact nomatch hx
  | @cons p q ps qs hq t ih=>
   intro x hx
   rcases cZ hx with e|hx
   ·subst e
    exact HD ok (by rw[<-hq.1];exact hq.2.1)
   ·exact ih x hx
 exact all r x hx
theorem c2Z{kvs:List (List Key×V)}(ok:HOk P w H h)(e:H a=some (.dT kvs)):kvs.length<=sizeLine/\(a==sysModules)=false/\
  ∃xs,KT H kvs xs/\h.DictOfH (tupleKind (J7 P w)) a xs:=NC ok (.inl e)
end
def DGet(H:Hp)(a:Addr)(y:V)(r:Option V):Prop:=
 (∃kvs k,Rd H a (.dK kvs)/\y=kV k/\r=N8 kvs k)\/∃kvs k b,Rd H a (.dT kvs)/\y=.ref b/\H b=some (.tup (k.map kV))/\r=N8 kvs k
def DPut(H:Hp)(a:Addr)(y v:V)(H':Hp):Prop:=
 (∃kvs k,H a=some (.dK kvs)/\y=kV k/\kvs.length<sizeLine/\H'=upd H a (.dK (U8 kvs k v)))\/
 ∃kvs k b,H a=some (.dT kvs)/\y=.ref b/\H b=some (.tup (k.map kV))/\kvs.length<sizeLine/\H'=upd H a (.dT (U8 kvs k v))
theorem DGet.k{H:Hp}{a:Addr}{kvs:List (Key×V)}{k:Key}(e:H a=some (.dK kvs)):DGet H a (kV k) (N8 kvs k):=.inl ⟨kvs,k,.inl e,rfl,rfl⟩
theorem DPut.k{H:Hp}{a:Addr}{kvs:List (Key×V)}{k:Key}{v:V}(e:H a=some (.dK kvs))(hl:kvs.length<sizeLine):DPut H a (kV k) v (upd H a (.dK (U8 kvs k v))):=.inl ⟨kvs,k,e,rfl,hl,rfl⟩
section
variable{X:Cx}{pins:List (Addr×Obj)}{σ:St}{H:Hp}{s:Shared}{a:Addr}{y v:V}{u r:Value}{o:Option V}{A:Around}{E:Value->Shared->Prop}
theorem Inv.big(I:Inv X pins σ H s):sysModules<s.heap.objs.size:=by
 have h:mainGlobals<s.heap.objs.size:=(I.mod.glob.keeps I.bk).lt
 exact lt_trans (by decide) h
theorem SY{Q:Value->Shared->Prop}(hu:A.units+1<cLine)(I:Inv X pins σ H s)(g:DGet H a y (some v))(ry:RelV y u)(h:∀w' s',Inv X pins σ H s'->RelV v w'->Q w' s'):
  wpAny (model X.prog X.w) A (getItem (.ref a) u) Q E s:=by
 rcases g with⟨kvs,k,e,ey,l⟩|⟨kvs,k,b,e,ey,eb,l⟩
 ·subst ey
  obtain⟨z,hd,vs,rel,dd⟩:=IN I.hok e
  obtain⟨w',hw,rw'⟩:=RelO.some_of (v:=v) (o:=valueAt vs k) (by rw[l];exact rel.val k)
  exact wpAny_getItem_of (IM ry) dd.mapOf hw (h w' _ (I.tok _) rw')
 ·subst ey
  cases(show u=Value.ref b from ry)
  obtain⟨z,hd,xs,rel,dd⟩:=NC I.hok e
  obtain⟨w',hw,rw'⟩:=RelO.some_of (v:=v) (o:=(atKey xs k).map (·.2)) (by rw[l];exact rel.val k)
  obtain⟨p,hp,hp2⟩:=map_eq_some_iff.mp hw
  refine wpAny_getItem_heap (tupleKind_room_in1 hu) (HD I.hok eb) dd hp ?_
  rw[hp2]
  exact h w' _ (I.tok _) rw'
theorem dQZ{Q:Value->Shared->Prop}(hu:A.units+1<cLine)(I:Inv X pins σ H s)(g:DGet H a y o)(ry:RelV y u)(h:∀s',Inv X pins σ H s'->Q (.bool o.isSome) s'):
  wpAny (model X.prog X.w) A (compareOp .In u (.ref a)) Q E s:=by
 rcases g with⟨kvs,k,e,ey,l⟩|⟨kvs,k,b,e,ey,eb,l⟩
 ·subst ey
  obtain⟨z,hd,vs,rel,dd⟩:=IN I.hok e
  refine wpAny_in_of (IM ry) hd dd.mapOf ?_
  rw[<-(rel.val k).isSome_eq,<-l]
  exact h _ (I.tok _)
 ·subst ey
  cases(show u=Value.ref b from ry)
  obtain⟨z,hd,xs,rel,dd⟩:=NC I.hok e
  refine wpAny_in_heap (tupleKind_room_in1 hu) (HD I.hok eb) hd dd ?_
  have q:=(rel.val k).isSome_eq
  rw[Option.isSome_map]at q
  rw[<-q,<-l]
  exact h _ (I.tok _)
theorem awZ{Q:Value->Shared->Prop}(hu:A.units+1<cLine)(I:Inv X pins σ H s)(g:DGet H a y o)(ry:RelV y u)(h:∀s',Inv X pins σ H s'->Q (.bool (!o.isSome)) s'):
  wpAny (model X.prog X.w) A (compareOp .NotIn u (.ref a)) Q E s:=by
 rcases g with⟨kvs,k,e,ey,l⟩|⟨kvs,k,b,e,ey,eb,l⟩
 ·subst ey
  obtain⟨z,hd,vs,rel,dd⟩:=IN I.hok e
  refine wpAny_notIn_of (IM ry) hd dd.mapOf ?_
  rw[<-(rel.val k).isSome_eq,<-l]
  exact h _ (I.tok _)
 ·subst ey
  cases(show u=Value.ref b from ry)
  obtain⟨z,hd,xs,rel,dd⟩:=NC I.hok e
  refine wpAny_notIn_heap (tupleKind_room_in1 hu) (HD I.hok eb) hd dd ?_
  have q:=(rel.val k).isSome_eq
  rw[Option.isSome_map]at q
  rw[<-q,<-l]
  exact h _ (I.tok _)
theorem SA{h':Heap}{t':Nat}{ob:HO}(I:Inv X pins σ H s)(mu:Mut (H a))(hs:Heap.SameBut a s.heap h')(he:∃q,h'.get? a=some q)(new:ObjOk X.prog X.w (upd H a ob) h' a ob):
  Inv X pins σ (upd H a ob) {s with heap:=h',toks:=t'}:=
 I.write (x:=a) (e:=a) mu (.inl rfl) (λb q hb z=>(hs.2 b hb).trans z) he new
theorem YN{P:Program}{w:World}{H':Hp}{h':Heap}{kvs:List (Key×V)}{vs:List (Key×Value)}(z:kvs.length<=sizeLine)(hd:(a==sysModules)=false)(rel:KV kvs vs)(dd:h'.DictOf (J7 P w) a vs):
  ObjOk P w H' h' a (.dK kvs):=⟨z,hd,vs,rel,dd⟩
theorem UK{H':Hp}{Q:Unit->Shared->Prop}(hu:A.units+1<cLine)(I:Inv X pins σ H s)(g:DPut H a y v H')(ry:RelV y u)(rv:RelV v r)(h:∀s',Inv X pins σ H' s'->Q () s'):
  wpAny (model X.prog X.w) A (setItem (.ref a) u r) Q E s:=by
 rcases g with⟨kvs,k,e,ey,l,eH⟩|⟨kvs,k,b,e,ey,eb,l,eH⟩
 ·subst ey eH
  obtain⟨z,hd,vs,rel,dd⟩:=baZ I.hok e
  have hz:vs.length<=sizeLine:=by rw[<-rel.length];exact z
  have hl:(U8 kvs k v).length<=sizeLine:=by have:=X6 kvs k v;omega
  refine wpAny_setItem_pairs (hsz:=hz) (IM ry) dd λh' dd' hs=>h _ ?_
  have he:∃q,h'.get? a=some q:=let⟨q,_,_,hq,_⟩:=dd';⟨q,hq⟩
  exact SA I (by rw[e];exact True.intro) hs he (YN hl hd (rel.put k rv) dd')
 ·subst ey eH
  cases(show u=Value.ref b from ry)
  obtain⟨z,hd,xs,rel,dd⟩:=c2Z I.hok e
  have hz:xs.length<=sizeLine:=by rw[<-Paired.length rel];exact z
  have hl:(U8 kvs k v).length<=sizeLine:=by have:=X6 kvs k v;omega
  refine wpAny_setItem_heap (hsz:=hz) (tupleKind_room_in1 hu) (HD I.hok eb) dd λh' dd' hs=>h _ ?_
  obtain⟨q,es,ep,hq,h2,h3,h4,_,h5⟩:=dd'
  refine SA I (by rw[e];exact True.intro) hs ⟨q,hq⟩ ⟨hl,hd,_,(rel.put k eb rv).keeps λc ys ec=> ?_,q,es,ep,hq,h2,h3,h4,h5⟩
  rw[B8 (IH ec e (λz=>nomatch z))]
  exact ec
variable{kvs:List (Key×V)}{k:Key}
theorem cTZ{Q:Value->Shared->Prop}(I:Inv X pins σ H s)(e:Rd H a (.dK kvs))(h:∀t s',Inv X pins σ H s'->Q (.int kvs.length t) s'):wpAny (model X.prog X.w) A (call (.builtin "len") [.ref a]) Q E s:=by
 obtain⟨z,hd,vs,rel,dd⟩:=IN I.hok e
 refine call_len_dict hd dd (by rw[<-rel.length];rw[sizeLine_eq]at z;omega) ?_
 rw[<-rel.length]
 exact h _ _ (I.tok _)
end
def cWZ(i:Expr):Prop:=∀ov iv,subscripted i false ov iv=operate [ov,iv] (getItem ov iv)
theorem aNZ{prog:Program}{w:World}{A:Around}{E:Value->Shared->Prop}{s:Shared}{env:Env}{value slice:Expr}{pos:Pos}{T id:String}{Q:Value->Shared->Prop}
  (hl:typeLookup (.type T) "__getitem__"=pure (some (.builtin id)))(hs:cWZ slice)
  (h:wpAny (model prog w) A (eval value env) (λo s₁=>wpAny (model prog w) A (eval slice env) (λi s₂=>s₂.TypeIs o T/\wpAny (model prog w) A (getItem o i) Q E s₂) E s₁) E s):
  wpAny (model prog w) A (eval (.Subscript value slice pos) env) Q E s:=by
 refine Subscript_ (wpAny_mono h (λo s₁ h₁=>wpAny_mono h₁ (λi s₂ h₂=> ?_) λ_ _ x=>x) λ_ _ x=>x)
 obtain⟨hT,h₂⟩:=h₂
 unfold subscriptTail
 refine bZ ?_
 rw[getitemInPython_of_ne hT.not_modules]
 refine bZ (wpAny_specialOf hT hl ?_)
 have fin:wpAny (model prog w) A (subscripted slice false o i) (λr s₃=>wpAny (model prog w) A (letTemporaryGo value o r>>=λ_=>pure r) Q E s₃) E s₂:=by
  rw[hs o i]
  exact wpAny_operating (wpAny_mono h₂ (λr s₃ h₃=>bZ (wpAny_letTemporaryGo (pZ h₃))) λ_ _ x=>x)
 first
  |exact pZ (bZ fin)
  |exact bZ (pZ (bZ fin))
  |exact bZ fin
theorem MU{X:Cx}{pins:List (Addr×Obj)}{σ:St}{H:Hp}{s:Shared}{a:Addr}{y:V}{o:Option V}(I:Inv X pins σ H s)(g:DGet H a y o):s.TypeIs (.ref a) "dict":=by
 rcases g with⟨kvs,k,e,_,_⟩|⟨kvs,k,b,e,_,_,_⟩
 ·obtain⟨_,_,vs,_,dd⟩:=IN I.hok e
  exact dd.typeIs
 ·obtain⟨_,_,xs,_,dd⟩:=NC I.hok e
  exact dd.typeIs
def c0Z(td ty:TE):TE:=fun σ H Q=>td σ H λx H1=>ty σ H1 λy H2=>∃a v,x=.ref a/\DGet H2 a y (some v)/\Q v H2
section
variable{X:Cx}{o i e value:Expr}{pos pos' tpos:Pos}{td ty tv:TE}
theorem atZ(hu:X.A.units+1<cLine)(ho:PE X o td)(hi:PE X i ty)(hs:cWZ i):PE X (.Subscript o i pos) (c0Z td ty):=by
 intro pins s σ H Q I h
 refine aNZ PySem.F.slot_dict_getitem.lookup hs (thn (ho pins s σ H _ I h) λu s1 ⟨x,H1,I1,rx,q1⟩=>thn (hi pins s1 σ H1 _ I1 q1) λiv s2 ⟨y,H2,I2,ry,a,v,ex,g,q2⟩=> ?_)
 subst ex
 obtain rfl:u=Value.ref a:=rx
 exact⟨MU I2 g,SY hu I2 g ry λw' s3 I3 rw'=>⟨v,H2,I3,rw',q2⟩⟩
end
theorem WR{P:Program}{w:World}{H:Hp}(h:Heap)(hb:sysModules<h.objs.size):ObjOk P w H (h.push {cls:=.type "dict",data:=.dict #[]}) h.objs.size (.dK []):=
 ⟨zero_le _,beq_eq_false_iff_ne.mpr (Ne.symm (ne_of_lt hb)),[],.nil,Heap.DictOf.new h⟩
def chZ:TE:=λ_ H Q=>∀p,H p=none->Q (.ref p) (upd H p (.dK []))
section
variable{X:Cx}{pos:Pos}
theorem LS:PE X (.Dict [] [] pos) chZ:=λpins s σ H Q I h=>
 wpAny_Dict_empty ⟨.ref s.heap.objs.size,_,I.laid (a:=s.heap.objs.size) (o:=.dK []) (t':=s.toks) (λ_ _ q=>gZ _ q) (Nat.le_refl _) (WR s.heap I.big),rfl,h _ (I.hok.fresh (Nat.le_refl _))⟩
end
def DI(kvs more:List (Key×V)):List (Key×V):=more.foldl (λacc kv=>U8 acc kv.1 kv.2) kvs
theorem KV.merge:∀ {more:List (Key×V)} {rs:List (Key×Value)} {kvs:List (Key×V)} {vs:List (Key×Value)},KV more rs->KV kvs vs->KV (DI kvs more) (merged vs rs):=by
 intro more rs kvs vs r
 unfold KV at r
 induction r generalizing kvs vs with
 |nil=>intro q;exact q
 | @cons p q ps qs h t ih=>
  intro r0
  have e:KV (U8 kvs p.1 p.2) (stored vs q.1 q.2):=by
   have:=r0.put p.1 h.2
   rw[<-h.1];exact this
  exact ih e
theorem Z6:∀(more kvs:List (Key×V)),(DI kvs more).length<=kvs.length+more.length
 | [],kvs=>by show kvs.length<=kvs.length+0;omega
 |p::r,kvs=>by
  have h1:=Z6 r (U8 kvs p.1 p.2)
  have h2:=X6 kvs p.1 p.2
  show(DI (U8 kvs p.1 p.2) r).length<=_
  rw[length_cons];omega
section
variable{X:Cx}{pins:List (Addr×Obj)}{σ:St}{H:Hp}{s:Shared}{a:Addr}{y d:V}{u r:Value}{o:Option V}{A:Around}{E:Value->Shared->Prop}
end
section
variable{X:Cx}{o e f:Expr}{apos cpos:Pos}{td ty tx:TE}
variable{pins:List (Addr×Obj)}{σ:St}{H:Hp}{s:Shared}{a:Addr}{kvs:List (Key×V)}{A:Around}{E:Value->Shared->Prop}
variable{y:V}{u:Value}
def dNZ:R2:=λx y H Q=>∃a o,y=.ref a/\DGet H a x o/\Q (.bl o.isSome) H
def aDZ:R2:=λx y H Q=>∃a o,y=.ref a/\DGet H a x o/\Q (.bl (!o.isSome)) H
theorem dzZ(hu:X.A.units+64<cLine):OpR X (compareOp .In) dNZ:=by
 intro pins s σ H x y v u Q I rx ry h
 obtain⟨a,o,rfl,g,q⟩:=h
 cases ry
 exact dQZ (by omega) I g rx λs' I'=>⟨.bl o.isSome,H,I',rfl,q⟩
theorem apZ(hu:X.A.units+64<cLine):OpR X (compareOp .NotIn) aDZ:=by
 intro pins s σ H x y v u Q I rx ry h
 obtain⟨a,o,rfl,g,q⟩:=h
 cases ry
 exact awZ (by omega) I g rx λs' I'=>⟨.bl (!o.isSome),H,I',rfl,q⟩
def dnZ:V->V->V->Hp->(Hp->Prop)->Prop:=λo i v H Q=>∃a H',o=.ref a/\DPut H a i v H'/\Q H'
theorem NF(hu:X.A.units+64<cLine):bsZ X dnZ:=by
 intro pins s σ H o i v ov iv u Q I ro ri rv h
 obtain⟨a,H',rfl,g,q⟩:=h
 cases ro
 exact UK (by omega) I g ri rv λs' I'=>⟨H',I',q⟩
end
end L2
namespace PySem
namespace ZT
section
variable{prog:Program}{w:World}{A:Around}{E:Value->Shared->Prop}{s:Shared}
end
end ZT
end PySem
namespace L2
open PySem PySem.Spec PyProof.Rows
section
variable{X:Cx}{pins:List (Addr×Obj)}{σ:St}{H:Hp}{s:Shared}{a:Addr}{xs ys:List V}{t:Bool}
variable{K:FZ}{elts:List Expr}{kt:Nat}{pt:Pos}
variable{tg:Expr}
end
end L2
namespace PySem
open PyProof.Rows L2
namespace F
end F
section
variable{prog:Program}{w:World}{A:Around}{E:Value->Shared->Prop}{s:Shared}
end
end PySem
namespace L2
open PySem PySem.Spec PyProof.Rows
section
variable{X:Cx}{tg:Expr}
end
end L2
namespace PySem
open PyProof.Rows
namespace F
theorem list_no_keys:typeLookup (.type "list") (Str.ofString "keys")=pure none:=by rw[typeLookup_type,builtinLookup_eq_fast];kernel_rfl
theorem list_no_getattr:typeLookup (.type "list") (Str.ofString "__getattr__")=pure none:=by rw[typeLookup_type,builtinLookup_eq_fast];kernel_rfl
theorem sub_attrErr:isSubtype (.type "AttributeError") (.type "AttributeError")=pure true:=by rw[isSubtype_type];kernel_rfl
end F
section
variable{prog:Program}{w:World}{A:Around}{E:Value->Shared->Prop}{s:Shared}
theorem SV{l:Addr}{xs:Array Value}{k:Nat}{sl:Array (Option Value)}{Q:Option Value->Shared->Prop}(hh:A.handled=none)(hl:s.heap.get? l=some {cls:=.type "list",data:=.seq xs k,slots:=sl})
  (q:∀h' tk,(∀b o,s.heap.get? b=some o->h'.get? b=some o)->Q none {s with heap:=h',toks:=tk}):
  wpAny (model prog w) A (getAttr? (.ref l) (Str.ofString "keys")) Q E s:=by
 have ty:s.TypeIs (.ref l) "list":=⟨_,hl,rfl⟩
 have hlk:=list_getattribute
 have hbd:=F.slot_list_getattribute.bind (.ref l)
 unfold getAttr?
 refine bZ (m:=mkText (Str.ofString "keys")) ?_
 unfold mkText
 repeat (any_goals (first|assumption|wp_step))
 refine codeAny_mono (codeAny_call_builtin (R:=wants (λ_ _=>False) (λe s'=>∃h' tk a,s.heap.NewAttrErr h' a (.ref l) (Str.ofString "keys")/\e=.ref a/\s'={s with heap:=h',toks:=tk})) F.slot_list_getattribute.plain am_entry_list_getattribute (F.slot_list_getattribute.check _ _ _ _ _ _ _ _ (show Shared.TypeIs {s with toks:=s.toks+1} (.ref l) "list"from⟨_,hl,rfl⟩) (F.args_list_getattribute_2 _ _)
  (meets_getattribute_miss_list l xs k sl (Str.ofString "keys") s.toks F.list_no_keys (by decide +kernel) (by decide +kernel) prog w A _ {s with toks:=s.toks+1} ⟨hl,hh,λh' tk e hn=>⟨h',tk,e,hn,rfl,rfl⟩⟩))) λr s' hr=> ?_
 rcases r with e|fl
 ·obtain⟨h',tk,a,hn,rfl,rfl⟩:=hr
  obtain⟨t,u,ha⟩:=hn.there
  have hT:Shared.TypeIs {s with heap:=h',toks:=tk} (.ref a) "AttributeError":=⟨_,ha,rfl⟩
  have hsub:=F.sub_attrErr
  have hng:=F.list_no_getattr
  have fin:=q h' tk hn.keeps
  dsimp only
  repeat (any_goals (first|assumption|wp_step))
 cases fl<;>exact hr.elim
theorem PY{p:Addr}{key v:Value}{Q:List Value->Shared->Prop}(hp:s.heap.IsTuple p #[key,v])
  (q:Q [key,v] s):wpAny (model prog w) A (Builtin.Dict.pairItems (.ref p)) Q E s:=by
 obtain⟨o,ho,hc,n,hd⟩:=id hp
 have ty:s.TypeIs (.ref p) "tuple":=⟨_,ho,hc⟩
 unfold Builtin.Dict.pairItems
 refine bZ (wpAny_typeOf ty ?_)
 rw[if_pos (by decide)]
 refine bZ (wpAny_seqItems ho hd (pZ q))
end
end PySem
namespace PySem
open PyProof.Rows
namespace F
theorem entry_dict_update_loop:entryFor table "dict.update.loop"=some Builtin.«dict.update.loop»:=by kernel_rfl
theorem plain_dict_update_loop:plainId "dict.update.loop"=true:=by decide +kernel
end F
section
variable{prog:Program}{w:World}{A:Around}{E:Value->Shared->Prop}{s:Shared}
def PairsAt{K:Type}[DecidableEq K](knd:KeyKind prog w K)(h:Heap):List Value->List (K×Value)->Prop
 | [],ps=>ps=[]
 |x::xs,ps=>∃p k key v r,x=.ref p/\h.IsTuple p #[key,v]/\knd.is k key=true/\ps=(k,v)::r/\PairsAt knd h xs r
theorem PairsAt.at{K:Type}[DecidableEq K]{knd:KeyKind prog w K}{h h':Heap}(e:∀p o,h.get? p=some o->o.cls=.type "tuple"->h'.get? p=some o):∀ {xs:List Value} {ps:List (K×Value)},PairsAt knd h xs ps->PairsAt knd h' xs ps
 | [],_,q=>q
 |x::xs,_,⟨p,k,key,v,r,h1,⟨o,ho,hc,h2⟩,h3,h4,h5⟩=>⟨p,k,key,v,r,h1,⟨o,e p o ho hc,hc,h2⟩,h3,h4,PairsAt.at e h5⟩
theorem LX{K:Type}[DecidableEq K]{knd:KeyKind prog w K}{R:Result->Shared->Prop}(hh:A.handled=none){d it l:Addr}{its:Array Value}(n1:d≠it)(n2:d≠l)(n3:it≠l):
  ∀(xs:List Value) (ps:List (K×Value)) (i:Nat) (s:Shared) (kvs:List (K×Value)),its.toList.drop i=xs->s.heap.IsListIter it l i->s.heap.IsList l its->s.heap.DictOf knd d kvs->PairsAt knd s.heap xs ps->kvs.length+xs.length<=sizeLine->
   (∀h' tk,h'.DictOf knd d (merged kvs ps)->(∀b o,b≠d->b≠it->s.heap.get? b=some o->h'.get? b=some o)->R (.ok (.ret .none)) {s with heap:=h',toks:=tk})->
   codeAny (model prog w) A (.builtin "dict.update.loop" ⟨[.ref d,.ref it,rawInt i,.none],[]⟩) R s
 | [],ps,i,s,kvs,hx,hI,hL,hD,hP,hz,q=>by
  have hP':ps=[]:=hP
  subst hP'
  have hn:its[i]? =none:=by
   rw[Array.getElem?_eq_none_iff]
   have:=congrArg List.length hx
   rw[length_drop,length_nil]at this
   simpa using Nat.le_of_sub_eq_zero this
  refine codeAny_builtin F.entry_dict_update_loop ?_
  rw[Around.under_plainId F.plain_dict_update_loop]
  unfold Builtin.«dict.update.loop»
  refine bZ (wpAny_pyNext_list_end (A:=A.in1) hh hI hL hn λh' he=> ?_)
  have fin:=q h' s.toks (by
   obtain⟨o,es,ep,ho,r⟩:=hD
   exact⟨o,es,ep,he d o n1 ho,r⟩) (λb o hb hb2 e=>he b o hb2 e)
  repeat (any_goals (first|assumption|wp_step))
 |x::xs,ps,i,s,kvs,hx,hI,hL,hD,hP,hz,q=>by
  obtain⟨p,k,key,v,r,rfl,hp,hk,rfl,hr⟩:=hP
  have hi:its[i]? =some (.ref p):=by
   have:(its.toList.drop i)[0]? =some (.ref p):=by rw[hx];rfl
   rw[List.getElem?_drop]at this
   simpa using this
  have hx2:its.toList.drop (i+1)=xs:=by
   rw[<-List.drop_drop,hx];rfl
  refine codeAny_builtin F.entry_dict_update_loop ?_
  rw[Around.under_plainId F.plain_dict_update_loop]
  unfold Builtin.«dict.update.loop»
  refine bZ (wpAny_pyNext_list_item (A:=A.in1) hI hL hi λh1 hI1 hs1=> ?_)
  have hD1:h1.DictOf knd d kvs:=by
   obtain⟨o,es,ep,ho,r⟩:=hD
   exact⟨o,es,ep,(hs1.2 d n1).trans ho,r⟩
  have pit:∀p o,s.heap.get? p=some o->o.cls=.type "tuple"->p≠it:=λp o ho hc e=>by
   subst e
   obtain⟨o2,e2,c2,_⟩:=hI
   rw[ho]at e2;cases e2;rw[hc]at c2;exact absurd c2 (by decide)
  have hp1:h1.IsTuple p #[key,v]:=by
   obtain⟨o,ho,hc,r⟩:=hp
   exact⟨o,(hs1.2 p (pit p o ho hc)).trans ho,hc,r⟩
  refine bZ (wpAny_holding (bZ (wpAny_tryCatch (PY (s:={s with heap:=h1}) hp1 ?_))))
  refine wpAny_holding (wpAny_dictSet_pairs hk hD1 (λh2 hD2 hs2=> ?_) (by omega))
  refine pZ ⟨plainId_quiet F.plain_dict_update_loop _, ?_⟩
  have pd:∀p o,h1.get? p=some o->o.cls=.type "tuple"->p≠d:=λp o ho hc e=>by
   subst e
   obtain⟨o2,es,ep,e2,c2,_⟩:=hD1
   rw[ho]at e2;cases e2;have c3:=c2.1;rw[hc]at c3;exact absurd c3 (by decide)
  have hlen:(stored kvs k v).length<=kvs.length+1:=by
   unfold stored
   split
   ·rw[length_map];omega
   ·rw[length_append];exact Nat.le_refl _
  refine LX hh n1 n2 n3 xs r (i+1) _ (stored kvs k v) hx2 ?_ ?_ hD2 ?_ ?_ λh' tk hd' hk'=> ?_
  ·exact hI1.extBut hs2.extBut (Ne.symm n1)
  ·obtain⟨o,ho,r⟩:=hL
   exact⟨o,(hs2.2 l (Ne.symm n2)).trans ((hs1.2 l (Ne.symm n3)).trans ho),r⟩
  ·exact hr.at λp o ho hc=>by
    have h1':=(hs1.2 p (pit p o ho hc)).trans ho
    exact(hs2.2 p (pd p o h1' hc)).trans h1'
  ·rw[length_cons]at hz;omega
  ·exact q h' tk hd' λb o hb hb2 e=>hk' b o hb hb2 ((hs2.2 b hb).trans ((hs1.2 b hb2).trans e))
end
end PySem
namespace PySem
section
variable{prog:Program}{w:World}{A:Around}{E:Value->Shared->Prop}{s:Shared}
theorem EQ{K:Type}[DecidableEq K]{knd:KeyKind prog w K}{Q:Value->Shared->Prop}(hh:A.handled=none){l:Addr}{its:Array Value}{n:Nat}{sl:Array (Option Value)}{ps:List (K×Value)}
  (hl:s.heap.get? l=some {cls:=.type "list",data:=.seq its n,slots:=sl})(hP:PairsAt knd s.heap its.toList ps)(hz:its.size<=sizeLine)
  (hQ:∀h' tk,h'.DictOf knd s.heap.objs.size (merged [] ps)->(∀b o,s.heap.get? b=some o->h'.get? b=some o)->Q (.ref s.heap.objs.size) {s with heap:=h',toks:=tk}):
  wpAny (model prog w) A (call (.type "dict") [.ref l]) Q E s:=by
 have ltl:l<s.heap.objs.size:=lt_size hl
 refine callType_codes (Q₁:=λobj s₁=>obj=.ref s.heap.objs.size/\s₁={s with heap:=s.heap.push {cls:=.type "dict",data:=.dict #[]}}) F.kt_called_dict (F.kt_typeCall_dict_1 _) F.entry_dict_init
  (kt_code_dict_new _ ⟨rfl,rfl⟩) λobj s₁ h₁=> ?_
 obtain⟨rfl,rfl⟩:=h₁
 have hS:(s.heap.push {cls:=.type "dict",data:=.dict #[]}).get? s.heap.objs.size=some {cls:=.type "dict",data:=.dict #[]}:=get?_push_size _ rfl
 have tyd:Shared.TypeIs {s with heap:=s.heap.push {cls:=.type "dict",data:=.dict #[]}} (.ref s.heap.objs.size) "dict":=⟨_,hS,rfl⟩
 have hl1:(s.heap.push {cls:=.type "dict",data:=.dict #[]}).get? l=some {cls:=.type "list",data:=.seq its n,slots:=sl}:=gZ _ hl
 have tyl:Shared.TypeIs {s with heap:=s.heap.push {cls:=.type "dict",data:=.dict #[]}} (.ref l) "list":=⟨_,hl1,rfl⟩
 refine⟨tyd,F.args_dict_init_2 _ _, ?_⟩
 unfold Builtin.«dict.__init__»
 unfold Builtin.Dict.selfAndRest Builtin.Dict.notOrdered
 refine bZ (bZ ?_)
 rw[if_pos (by decide)]
 refine bZ (wpAny_typeOf tyd ?_)
 rw[if_neg (by decide)]
 refine pZ (bZ (pZ (pZ ?_)))
 show wpAny _ _ (Builtin.Dict.updateFrom "dict.__init__" s.heap.objs.size (.ref l) [] .none) _ _ _
 unfold Builtin.Dict.updateFrom
 refine bZ (wpAny_typeOf tyl ?_)
 rw[if_pos (by decide)]
 refine bZ (SV (A:=A.in1.in1) hh hl1 λh2 tk hk2=> ?_)
 rw[if_pos (show(none:Option Value).isNone=true from rfl)]
 refine bZ (wpAny_rule ?_)
 have hL2:h2.IsList l its:=⟨_,hk2 _ _ hl1,rfl,n,rfl⟩
 refine bZ (wpAny_pyIter_list (s:={s with heap:=h2,toks:=tk}) hL2 ?_)
 refine pZ ⟨plainId_quiet F.plain_dict_update_loop _, ?_⟩
 have hd2:=hk2 _ _ hS
 have ltd:s.heap.objs.size<h2.objs.size:=lt_size hd2
 have ltl2:l<h2.objs.size:=lt_size (hk2 _ _ hl1)
 have kp:∀b o,h2.get? b=some o->(h2.push {cls:=.type "list_iterator",data:=.fields #[.ref l,.int 0 0]}).get? b=some o:=λb o e=>gZ _ e
 refine LX (knd:=knd) (its:=its) (A:=A.in1) hh (ne_of_lt ltd) (Nat.ne_of_gt ltl) (Nat.ne_of_gt ltl2) its.toList ps 0 _ [] rfl ⟨_,get?_push_size _ rfl,rfl,rfl⟩ (hL2.at λo e=>kp _ _ e) ?_ ?_ (by simpa using hz) λh' tk' hd' hk'=>⟨rfl,hQ h' tk' hd' λb o e=>hk' b o (ne_of_lt (lt_size e)) (ne_of_lt (lt_trans (lt_size e) ltd)) (kp _ _ (hk2 _ _ (gZ _ e)))⟩
 ·obtain⟨o,es,ep,ho,r⟩:=Heap.DictOf.new (knd:=knd) s.heap
  exact⟨o,es,ep,kp _ _ (hk2 _ _ ho),r⟩
 ·exact hP.at λp o ho _=>kp _ _ (hk2 _ _ (gZ _ ho))
end
end PySem
namespace L2
open PySem PySem.Spec PyProof.Rows
def PrV(H:Hp):List V->List (Key×V)->Prop
 | [],ps=>ps=[]
 |x::xs,ps=>∃p k v r,x=.ref p/\H p=some (.tup [kV k,v])/\ps=(k,v)::r/\PrV H xs r
theorem PrV.len{H:Hp}:∀ {xs:List V} {ps:List (Key×V)},PrV H xs ps->ps.length=xs.length
 | [],ps,h=>by rw[show ps=[]from h];rfl
 |x::xs,ps,⟨p,k,v,r,_,_,e,h⟩=>by rw[e,length_cons,length_cons,PrV.len h]
section
variable{X:Cx}{K:FZ}{pins:List (Addr×Obj)}{σ:St}{H:Hp}{s:Shared}
theorem PrV.real(I:Inv X pins σ H s):∀ {xs:List V} {us:List Value} {ps:List (Key×V)},Vals xs us->PrV H xs ps->∃rs:List (Key×Value),PairsAt (J7 X.prog X.w) s.heap us rs/\KV ps rs
 | [],_,ps,.nil,h=>by rw[show ps=[]from h];exact⟨[],rfl,.nil⟩
 |x::xs,_,ps,.cons rx rr,⟨p,k,v,r,e,hp,e2,h⟩=>by
  subst e;subst e2
  cases rx
  obtain⟨rs,h1,h2⟩:=PrV.real I rr h
  obtain⟨its,rv,pl,hz⟩:=I.tuple (SqT.of hp)
  cases rv with
  |cons r1 rv=>
   cases rv with
   |cons r2 rv=>
    cases rv
    exact⟨(k,_)::rs,⟨p,k,_,_,rs,rfl,pl,IM r1,rfl,h1⟩,.cons ⟨rfl,r2⟩ h2⟩
theorem afZ(hc:X.calm=true)(hK:X.K=K:=by rfl):CallR X (.type "dict") (λxs H Q=>∃l ys ps,xs=[.ref l]/\SqL K H l ys/\PrV H ys ps/\∀d,H d=none->Q (.ref d) (upd H d (.dK (DI [] ps)))):=by
 subst hK
 intro pins s σ H xs us Q I r h
 obtain⟨l,ys,ps,rfl,hS,hP,q⟩:=h
 obtain⟨u,rfl,ru⟩:=R7 r
 cases ru
 obtain⟨its,rv,⟨⟨c,dc,dt,sl⟩,n,hl,c1,c2,c3⟩,hz⟩:=I.list hS
 replace c1:c=.type "list":=c1
 replace c2:dc=none:=c2
 replace c3:dt=.seq its.toArray n:=c3
 subst c1 c2 c3
 obtain⟨rs,hA,hkv⟩:=hP.real I rv
 have hlen:=rv.length
 refine EQ (knd:=J7 X.prog X.w) (I.ok.hd hc) hl (by simpa using hA) (by rw[size_toArray,<-hlen];exact hz) λh' tk hd' kp=> ?_
 have hzz:(DI [] ps).length<=sizeLine:=by
  have h1:=Z6 ps []
  have h2:=hP.len
  rw[length_nil]at h1
  omega
 have hb:(s.heap.objs.size==sysModules)=false:=beq_eq_false_iff_ne.mpr (Ne.symm (ne_of_lt I.big))
 exact⟨.ref s.heap.objs.size,_,I.laid (t':=tk) kp (Nat.le_refl _) (YN hzz hb (hkv.merge .nil) hd'),rfl,q _ (I.hok.fresh (Nat.le_refl _))⟩
end
end L2
namespace PySem
open PyProof.Rows
section
variable{prog:Program}{w:World}{A:Around}{E:Value->Shared->Prop}{s:Shared}
theorem RU:∀(vs:List Value) (ns:List Int),vs.length=ns.length->(∀(j:Nat) (v:Value),vs[j]? =some v->∃t,v=.int (ns.getD j 0) t)->IntsAre vs ns
 | [],[],_,_=> .nil
 | [],_::_,h,_=>by cases h
 |_::_,[],h,_=>by cases h
 |v::vs,n::ns,h,q=>by
  obtain⟨t,e⟩:=q 0 v rfl
  have e':v=.int n t:=e
  subst e'
  exact .cons n t (RU vs ns (by simpa using h) λj u hu=>q (j+1) u hu)
theorem EM{h:Heap}{a b:Addr}{o:Obj}{vs:List Value}{out:Array Value}(e:h.get? b=some o)(n:b≠a):(sortedHeap h a vs out).get? b=some o:=by
 unfold sortedHeap
 have h1:(h.update a (Obj.mapSeq λ_=> #[])).get? b=some o:=(get?_update_other _ _ (Ne.symm n)).trans e
 exact(get?_update_other _ _ (Ne.symm n)).trans (gZ _ (gZ _ h1))
theorem EL{h:Heap}{a:Addr}{vs:List Value}{out:Array Value}{n:Nat}(e:h.get? a=some {cls:=.type "list",data:=.seq vs.toArray n}):∃n',(sortedHeap h a vs out).get? a=some {cls:=.type "list",data:=.seq out n'}:=by
 unfold sortedHeap
 have h1:=get?_update_self (Obj.mapSeq (λ_=>(#[]:Array Value))) e rfl
 have h2:=gZ (seqObj "list" #[] 0) (gZ (seqObj "tuple" vs.toArray 0) h1)
 exact⟨_,get?_update_self (Obj.mapSeq (λ_=>out)) h2 rfl⟩
theorem CQ{K:Type}[DecidableEq K]{knd:KeyKind prog w K}{Q:Value->Shared->Prop}(hh:A.handled=none){d:Addr}{kvs:List (K×Value)}{ep:Nat}{ns:List Int}(hd:(d==sysModules)=false)(hD:s.heap.DictAt knd d kvs ep)(hl:kvs.length=ns.length)
  (hI:∀(j:Nat) (k:K) (x v:Value),kvs[j]? =some (k,x)->knd.is k v=true->∃t,v=.int (ns.getD j 0) t)(h64:ns.length<64)
  (hQ:∀(h1 h':Heap) (tk:Nat) (out:Array Value) (ns':List Int) (n:Nat),(∀b o,s.heap.get? b=some o->h1.get? b=some o)->(∀b o,h1.get? b=some o->h'.get? b=some o)->h'.get? h1.objs.size=some {cls:=.type "list",data:=.seq out n}->IntsAre out.toList ns'->ns'.Perm ns->List.Pairwise (·<=·) ns'->Q (.ref h1.objs.size) {s with heap:=h',toks:=tk}):
  wpAny (model prog w) A (call (.builtin "sorted") [.ref d]) Q E s:=by
 have hcn:checkBuiltinCall "sorted" ⟨[.ref d],[]⟩=pure ():=by kernel_rfl
 have zl:(64:Nat)<=sizeLine:=by decide
 refine wpAny_call (codeAny_call_builtin plain_sorted entry_sorted (wpAny_of_eq hcn ?_))
 unfold Builtin.sorted
 refine bZ (m:=checkCount "sorted" 1 1 1) (wpAny_of_eq (show checkCount "sorted" 1 1 1=pure () by first|rfl|kernel_rfl) ?_)
 refine bZ (m:=collect (.ref d)) (W.kdu_collect (A:=A.in1) (W.kdl_dict (knd:=knd) (kvs:=kvs) (ep:=ep) hd) hh hD (by omega) λh1 tk acc hk1 hacc=> ?_)
 obtain⟨a1,a2⟩:=hacc
 have hlen:acc.toList.length=ns.length:=by rw[Array.length_toList,a1,hl]
 have hints:IntsAre acc.toList ns:=RU acc.toList ns hlen λj v hv=>by
  obtain⟨k,x,e1,e2⟩:=a2 j v (by simpa using hv)
  exact hI j k x v e1 e2
 refine bZ (wpAny_newList ?_ (by omega))
 have hS:(h1.push {cls:=.type "list",data:=.seq acc.toList.toArray}).get? h1.objs.size=some {cls:=.type "list",data:=.seq acc.toList.toArray}:=get?_push_size _ rfl
 have ty:Shared.TypeIs {s with heap:=h1.push {cls:=.type "list",data:=.seq acc.toList.toArray},toks:=tk} (.ref h1.objs.size) "list":=⟨_,hS,rfl⟩
 refine bZ (wpAny_holding (wpAny_call_entry slot_list_sort ty entry_list_sort (list_sort_tree (n:=0) hS hints (by omega) λout ns' i1 i2 i3=>⟨.none,rfl, ?_⟩) (args_list_sort _)))
 obtain⟨n',hn'⟩:=EL (out:=out) hS
 exact pZ (hQ h1 _ _ _ ns' n' hk1 (λb o e1=>EM (gZ _ e1) (ne_of_lt (lt_size e1))) hn' i1 i2 i3)
end
end PySem
namespace L2
open PySem PySem.Spec PyProof.Rows
theorem BC:∀ {us:List Value} {ns:List Int},IntsAre us ns->Vals (ns.map V.int) us
 |_,_,.nil=> .nil
 |_,_,.cons n t h=> .cons ⟨t,rfl⟩ (BC h)
section
variable{X:Cx}
theorem TQ(hc:X.calm=true):CallR X (.builtin "sorted") (λxs H Q=>∃(a:Addr) (kvs:List (Key×V)) (ns:List Int),xs=[.ref a]/\H a=some (.dK kvs)/\kvs.map (·.1)=ns.map Sum.inl/\ns.length<64/\∀l ns',H l=none->ns'.Perm ns->List.Pairwise (·<=·) ns'->Q (.ref l) (upd H l (.lst (ns'.map V.int)))):=by
 intro pins s σ H xs us Q I r h
 obtain⟨a,kvs,ns,rfl,ha,hk,hn,q⟩:=h
 obtain⟨u,rfl,ru⟩:=R7 r
 cases ru
 obtain⟨z,hd,vs,rel,dd⟩:=baZ I.hok ha
 have hkeys:=rel.keys
 have hlen:=rel.length
 have hkl:kvs.length=ns.length:=by
  have:=congrArg List.length hk
  simpa using this
 have zl:(64:Nat)<=sizeLine:=by decide
 obtain⟨o,es,ep,ho,hx,hdt,hko,hp,hnd⟩:=dd
 refine CQ (knd:=J7 X.prog X.w) (kvs:=vs) (ep:=ep) (ns:=ns) (I.ok.hd hc) hd ⟨o,es,ho,hx,hdt,hko,hp,hnd⟩ (by omega) ?_ hn ?_
 ·intro j k x v e1 e2
  have hj:j<ns.length:=by
   have:=(List.getElem?_eq_some_iff.mp e1).1
   omega
  have e3:(vs.map (·.1))[j]? =some k:=by rw[getElem?_map,e1];rfl
  rw[<-hkeys,hk,getElem?_map,List.getElem?_eq_getElem hj]at e3
  have e4:(Sum.inl ns[j]:Key)=k:=Option.some.inj e3
  subst e4
  have e5:Value.isInt ns[j] v=true:=e2
  obtain⟨t,e6⟩:=Value.isInt_shape e5
  exact⟨t,by rw[e6];simp[getD_eq_getElem?_getD,List.getElem?_eq_getElem hj]⟩
 ·intro h1 h' tk out ns' n k1 k2 hl i1 i2 i3
  have I1:Inv X pins σ H {s with heap:=h1}:=I.kept (t':=s.toks) k1
  have hz:(ns'.map V.int).length<=sizeLine:=by rw[length_map,i2.length_eq];omega
  exact⟨.ref h1.objs.size,_,I1.laid (t':=tk) k2 (Nat.le_refl _) (show ObjOk X.prog X.w _ h' _ (.lst _)from⟨hz,out.toList,n,BC i1,by simpa using hl⟩),rfl,q _ ns' (I1.hok.fresh (Nat.le_refl _)) i2 i3⟩
end
end L2
namespace PySem
open AutoSeq1 (wpAny_loadPart')
theorem HF(l b:Addr)(items items2:Array Value)(n n2:Nat)(dd2:Option Addr)(sl2:Array (Option Value))(hlong:¬(!items.isEmpty&&Builtin.List.listTooLong (items.size+items2.size))=true):
  Meets (Builtin.«list.extend» ⟨[.ref l,.ref b],[]⟩) (λ_ R s=>s.heap.get? l=some {cls:=.type "list",data:=.seq items n}/\s.heap.get? b=some {cls:=.type "tuple",dict:=dd2,data:=.seq items2 n2,slots:=sl2}/\items.size+items2.size<=sizeLine/\
   R (.ok (.ret .none)) {s with heap:=s.heap.update l (Obj.mapSeq λx=>x++items2)}):=by
 refine .of_wp λprog w A R s h=> ?_
 obtain⟨hp,g,d,tk,os⟩:=s
 obtain⟨hl,hb,hz,h⟩:=h
 have e0:(!items.isEmpty&&Builtin.List.listTooLong (items.size+items2.size))=false:=by simpa using hlong
 have hpl:(Obj.mapSeq (λx=>x++items2) {cls:=.type "list",data:=.seq items n}).data.pastItsLine=none:=by
  show(if(items++items2).size>sizeLine+1 then some "sequence:memory"else none)=none
  have h0:¬(items++items2).size>sizeLine+1:=by rw[Array.size_append];omega
  rw[if_neg h0]
 wp_walk using wpAny_loadPart' hl,wpAny_loadPart' hb
 rw[hpl]
 exact pZ (pZ ⟨_,rfl,h⟩)
end PySem
namespace L2
open PySem PySem.Spec PyProof.Rows
section
variable{X:Cx}{K:FZ}{tg:Expr}
def LQ(K:FZ):V->List V->Hp->VK->Prop:=λx vs H Q=>∃l b xs zs,x=.ref l/\vs=[.ref b]/\H l=some (.lst xs)/\SqT K H b zs/\xs.length+zs.length<=sizeLine/\Q .non (upd H l (.lst (xs++zs)))
theorem PZ:MtM X "list.extend" (LQ X.K):=by
 intro pins s σ H x vs v us Q I rx rv h
 obtain⟨l,b,xs,zs,rfl,rfl,hH,hB,hz,q⟩:=h
 cases rx
 obtain⟨u,rfl,ru⟩:=rv.one
 cases ru
 obtain⟨z,its,n,r,hl,e⟩:=I.lstM hH
 obtain⟨its2,r2,⟨⟨c2,d2,dt2,sl2⟩,e2,hc2,n2,hd2⟩,hl2⟩:=I.tuple hB
 replace hc2:c2=.type "tuple":=hc2
 replace hd2:dt2=.seq its2.toArray n2:=hd2
 subst hc2 hd2
 have l1:=r.length
 have l2:=r2.length
 have hsz:its.toArray.size+its2.toArray.size<=sizeLine:=by rw[size_toArray,size_toArray];omega
 have hlong:¬(!its.toArray.isEmpty&&Builtin.List.listTooLong (its.toArray.size+its2.toArray.size))=true:=by
  rw[FE hsz,Bool.and_false]
  exact nZ
 refine call_meets F.slot_list_extend ⟨_,e,rfl⟩ F.entry_list_extend (F.args_list_extend_2 _ _)
  (HF l b its.toArray its2.toArray n n2 d2 sl2 hlong) ⟨e,e2,hsz, ?_⟩
 refine⟨.non,_,I.lset (its':=its++its2) hH e (by simp) (r.append r2) ?_,rfl,q⟩
 rw[length_append]
 omega
theorem IP(hK:X.K=K:=by rfl):MtM X "list.extend" (LQ K):=by subst hK;exact PZ
def cSZ(K:FZ)(tl:TE):TI:=fun σ H R=>tl σ H λx H1=>(∃a,x=.ref a/\(∃xs,SqL K H1 a xs)/\R (Itl K a) H1)\/∃a,x=.ref a/\(∃xs,SqT K H1 a xs)/\R (Itt K a) H1
theorem btZ{l:Expr}{tl:TE}(hl:PE X l tl):PI X tg l (cSZ X.K tl):=by
 intro pins s σ H R I h
 refine thn (hl pins s σ H _ I h) λv s1 ⟨x,H1,I1,r1,q1⟩=> ?_
 rcases q1 with⟨a,e,⟨xs,hq⟩,q⟩|⟨a,e,⟨xs,hq⟩,q⟩
 ·subst e
  cases r1
  obtain⟨its,rv,p,hz⟩:=I1.list hq
  refine wpAny_pyIter_list p.isList ?_
  refine⟨s1.heap.objs.size,[s1.heap.objs.size],_,_,H1,rfl,I1.kept (t':=s1.toks) λb o e=>gZ _ e,IK a _,⟨_,get?_push_size _ rfl,rfl,rfl⟩,λb hb=> ?_,q⟩
  have e:b=s1.heap.objs.size:=by simpa using hb
  subst e
  exact I1.fpOk (Nat.le_refl _) (I1.hok.fresh (Nat.le_refl _))
 ·subst e
  cases r1
  obtain⟨its,rv,p,hz⟩:=I1.tuple hq
  refine wpAny_pyIter_tuple (show s1.heap.IsTuple a its.toArray from p) ?_
  refine⟨s1.heap.objs.size,[s1.heap.objs.size],_,_,H1,rfl,I1.kept (t':=s1.toks) λb o e=>gZ _ e,PN a _,⟨_,get?_push_size _ rfl,rfl,rfl⟩,λb hb=> ?_,q⟩
  have e:b=s1.heap.objs.size:=by simpa using hb
  subst e
  exact I1.fpOk (Nat.le_refl _) (I1.hok.fresh (Nat.le_refl _))
theorem ciZ{l:Expr}{tl:TE}(hl:PE X l tl)(hK:X.K=K:=by rfl):PI X tg l (cSZ K tl):=by subst hK;exact btZ hl
end
theorem ctZ{X:Cx}:CallR X (.builtin "len") (λxs H Q=>∃d kvs,xs=[V.ref d]/\Rd H d (.dK kvs)/\Q (.int (kvs.length:Nat)) H):=λpins s σ H xs us Q I r h=>by
 obtain⟨d,kvs,rfl,hd,q⟩:=h
 obtain⟨u,rfl,ru⟩:=R7 r
 cases ru
 exact cTZ I hd λt s' I2=>⟨.int (kvs.length:Nat),H,I2,⟨t,rfl⟩,q⟩
section
variable{X:Cx}{K:FZ}{pins:List (Addr×Obj)}{σ:St}{H:Hp}{s:Shared}
end
end L2
namespace PySem
open PyProof.Rows
section
variable{prog:Program}{w:World}
noncomputable def dd{K:Type}[DecidableEq K](D:List K)(x:K):List K:=if x∈D then D else D++ [x]
variable{A:Around}{E:Value->Shared->Prop}{s:Shared}
end
end PySem
namespace L2
open PySem PySem.Spec PyProof.Rows
section
variable{X:Cx}{K:FZ}
end
end L2
namespace PySem
open PyProof.Rows
section
variable{prog:Program}{w:World}{K:Type}[DecidableEq K]{knd:KeyKind prog w K}{A:Around}{E:Value->Shared->Prop}{s:Shared}
end
section
variable{prog:Program}{w:World}{A:Around}{E:Value->Shared->Prop}{s:Shared}
end
end PySem
namespace L2
open PySem PySem.Spec PyProof.Rows
section
variable{X:Cx}{K:FZ}
end
end L2
namespace PySem
open PyProof.Rows
section
variable{prog:Program}{w:World}{A:Around}{E:Value->Shared->Prop}{s:Shared}
end
end PySem
namespace L2
open PySem PySem.Spec PyProof.Rows
section
variable{X:Cx}{K:FZ}
end
end L2
namespace PySem
open Sem(wp)
open PyProof.Rows
namespace ZT
section
variable{prog:Program}{w:World}{A:Around}{E:Value->Shared->Prop}{s:Shared}
end
end ZT
end PySem
namespace L2
open PySem PySem.Spec PyProof.Rows
section
variable{X:Cx}{K:FZ}{elts:List Expr}{kt:Nat}{pt:Pos}
end
end L2
namespace PySem
open Sem(wp)
end PySem
namespace L2
open PySem PySem.Spec PyProof.Rows
section
variable{M:Model}{A:Around}{E:Value->Shared->Prop}{s:Shared}{base:Heap}{env:Env}{outer l:List Env}{L a:Addr}{C fl:Value}{g:Heap}{H:Hp}{Q:Unit->Shared->Prop}
end
section
variable{P:Program}{w:World}{K:FZ}{mg:Str->Option Value}{base:Heap}{N:List Str}{qual:Str}{scope:Scope}{f:Addr}{cd:Value}{A:Around}{outer:List Env}{s:Shared}{H:Hp}{E:XK}
variable{X:Cx}
variable{k:Nat}{g:Addr}{fd:FuncData}{ps:List Str}{sp:Heap->Sp}{x:Str}{p pos:Pos}{e:Expr}{es:List Expr}{t:TA}{name:Str}{params:Arguments}{body:Expr}{clos:List (Str×Addr)}{pm:Value}{fs:List Str}{js:List Nat}
variable{cl:List (Str×Addr)}
variable{pins:List (Addr×Obj)}{σ:St}
end
theorem ixT{K:FZ}{w:World}{H:Hp}{Q:VK}{a:Addr}{xs:List V}{i:Int}{v:V}(h:H a=some (.tup xs))(e:atI xs i=some v)(q:Q v H):UP K (.ref a) (.int i) H Q\/VA K (.ref a) (.int i) H Q\/SR (.ref a) (.int i) H Q\/DJ w K (.ref a) (.int i) H Q:=.inr (.inl ⟨a,xs,i,v,rfl,rfl,SqT.of h,e,q⟩)
theorem ixL{K:FZ}{w:World}{H:Hp}{Q:VK}{a:Addr}{xs:List V}{i:Int}{v:V}(h:H a=some (.lst xs))(e:atI xs i=some v)(q:Q v H):UP K (.ref a) (.int i) H Q\/VA K (.ref a) (.int i) H Q\/SR (.ref a) (.int i) H Q\/DJ w K (.ref a) (.int i) H Q:=.inl ⟨a,xs,i,v,rfl,rfl,SqL.of h,e,q⟩
theorem fS{N P:List Str}{sc:Scope}(a:sc.kind=.function:=by rfl)(b:sc.isCoroutine=false:=by rfl)(c:sc.isGenerator=false:=by rfl)(d:N.Nodup:=by decide +kernel)(e:N.take P.length=P:=by rfl)(f:∀x∈P,sc.names.lookup x=some .local\/sc.names.lookup x=some .cell:=by decide +kernel)(g:∀y∈sc.names,y.2≠ .free:=by decide +kernel):FnScope N P sc:=⟨a,b,c,d,e,f,g⟩
theorem cS{N:List Str}{sc scope:Scope}{x:Str}{caps:List Nat}{ns:List Str}(a:∀y∈scope.names,y.2≠ .cell:=by decide +kernel)(b:scope.kind=.function:=by rfl)(c:∀y∈scope.names,y.2=.local->scope.names.lookup y.1=some .local:=by decide +kernel)(d:scope.names.lookup x=some .local:=by rfl)(e:∀y∈scope.names,y.2=.free->sc.names.lookup y.1=some .cell\/sc.names.lookup y.1=some .free:=by decide +kernel)(f:caps.map (λj=>N[j]?)=ns.map some:=by rfl)(g:∀y∈ns,scope.names.lookup y=some .free:=by decide +kernel)(h:(x::ns).Nodup:=by decide +kernel):CompScope N sc scope x caps ns:=⟨a,b,c,d,e,f,g,h⟩
section
variable{X:Cx}{a b:Expr}{ta tb:TE}{pos:Pos}
theorem ixE(K:FZ)(w:World)(ha:PE X a ta)(hb:PE X b tb)(hs:RI b:=by exact λ_ _=>rfl)(hK:X.K=K:=by rfl)(hw:X.w=w:=by rfl):PE X (.Subscript a b pos) (tOp (λx y H Q=>UP K x y H Q\/VA K x y H Q\/SR x y H Q\/DJ w K x y H Q) ta tb):=cZZ (kIx hK hw) ha hb hs
end
def Cn(P:Program)(w:World)(K:FZ)(mg:Str->Option Value)(base:Heap)(CX:CXT)(n:Nat)(x:Str)(ps:List Str)(sp:Sp):Prop:=∃f d,FnOk P w K mg base CX n f d ps sp/\Binds K d ps []/\kZ K (.ref f)=true/\mg x=some (.ref f)
end L2
noncomputable abbrev q1L:List PySem.Str:=["_law_blocks_here","_law_main","_law_count","_law_most","_law_due_here","_law_cells"]
noncomputable abbrev q2L:List PySem.Str:=["_law_by_fn","_law_number_here"]
noncomputable abbrev q5L:List PySem.Str:=["_law_count","_law_way","_law_number_here","_law_kind","_law_most","_law_often"]
noncomputable abbrev q7L:List PySem.Str:=["_law_count","_law_way","_law_number_here","_law_kind","_law_most","_law_wide"]
noncomputable abbrev q9L:List PySem.Str:=["_law_found","_law_due_here"]
abbrev cwZ:List PySem.Str:=["_law_script","_law_k"]
abbrev cAZ:List PySem.Str:=["_law_way","_law_number_here","_law_kind","_law_often"]
abbrev aBZ:List PySem.Str:=["_law_way","_law_number_here"]
abbrev coZ:List PySem.Str:=["blocks","cells","frame","row"]
abbrev SX:List PySem.Str:=["blocks","main","numbers","most","rounds"]
abbrev ZX:List PySem.Str:=["blocks","number","values"]
abbrev clZ:List PySem.Str:=["cell","new_numbers"]
abbrev UW:List PySem.Str:=["cells","frame","row"]
abbrev bQZ:List PySem.Str:=["cells","frame","word"]
abbrev MJ:List PySem.Str:=["cells","value"]
abbrev TL:List PySem.Str:=["cells","values"]
abbrev cfZ:List PySem.Str:=["frame","many_rows"]
abbrev MW:List PySem.Str:=["frame","many_taken","values"]
abbrev VB:List PySem.Str:=["frame","row"]
abbrev b7Z:List PySem.Str:=["frame","slot","value"]
abbrev anZ:List PySem.Str:=["root","parts_in","made"]
noncomputable abbrev SZ:List PySem.Str:=["self","blocks","main","numbers","most"]
abbrev XO:List PySem.Str:=["self","cell"]
abbrev aQZ:List PySem.Str:=["self","frame","row"]
abbrev UY:List PySem.Str:=["self","outcome"]
abbrev aCZ:List PySem.Str:=["self","told"]
abbrev EN:List PySem.Str:=["self","value"]
abbrev aRZ:List PySem.Str:=["self","values"]
noncomputable abbrev G4:List PySem.Str:=["self"]
abbrev UE:List PySem.Str:=["sign","a","b"]
abbrev aVZ:List PySem.Str:=["stack","many"]
abbrev VM:List PySem.Str:=["value","heads"]
noncomputable abbrev HN:List PySem.Str:=["value"]
abbrev ahZ:List PySem.Str:=["values","new_numbers"]
namespace TM
open PySem PyProof.Rows
section
variable{prog:Program}{w:World}{A:Around}{E:Value->Shared->Prop}{s:Shared}
theorem flat_len{α:Type}(xs:List α):∀k:Nat,(List.replicate k xs).flatten.length=k*xs.length
 |0=>by simp
 |k+1=>by rw[replicate_succ,flatten_cons,length_append,flat_len xs k,Nat.succ_mul,Nat.add_comm]
theorem tuple_mulN{l:Addr}{xs:List Value}{k:Int}{t:Tok}{Q:Value->Shared->Prop}(ht:IsTup s.heap l xs.toArray)(hx:xs≠ [])(hl:xs.length<=100)(h0:1<=k)(h1:k<=1000)(hs:k=1->Q (.ref l) s)
  (hn:k≠1->Q (.ref s.heap.objs.size) {s with heap:=s.heap.push {cls:=.type "tuple",data:=.seq (List.replicate k.toNat xs).flatten.toArray}}):wpAny (model prog w) A (call (.builtin "tuple.__mul__") [.ref l,.int k t]) Q E s:=by
 refine wpAny_call_entry F.slot_tuple_mul ht.typeIs F.entry_tuple_mul ?_ (F.args_tuple_mul_2 _ _)
 show wpAny _ _ (asIndex (.int k t)>>=_) _ _ s
 refine bZ (m:=asIndex _) (pZ (a:=k) ?_)
 have e1:¬((decide (k< -2^63)||decide (k≥2^63))=true):=by simp;omega
 rw[if_neg e1]
 refine bZ (tupleItemsOf_ ht ?_)
 by_cases e:k=1
 ·subst e
  rw[if_pos (by simp)]
  unfold Builtin.Tuple.tupleIsExact
  refine bZ (bZ (wpAny_typeOf ht.typeIs ?_))
  repeat (first|refine pZ ?_|refine bZ ?_|refine wpAny_rule ?_|rw[if_pos (by decide)])
  exact⟨_,rfl,hs rfl⟩
 ·have hne:xs.toArray.isEmpty=false:=by cases xs with|nil=>exact absurd rfl hx|cons a b=>rfl
  have e2:¬((xs.toArray.isEmpty||k==1)=true):=by rw[hne];simp[e]
  rw[if_neg e2]
  have zz:(2^20:Nat)<=sizeLine:=by decide
  obtain⟨n,hn'⟩:∃n:Nat,k=(n:Int):=⟨k.toNat,by omega⟩
  subst hn'
  have hml:n*xs.length<=1000*100:=mul_le_mul (by omega) hl
  have hz:sizeOk (.seq (List.replicate ((n:Int).toNat) xs).flatten.toArray):=by
   show(List.replicate ((n:Int).toNat) xs).flatten.toArray.size<=sizeLine
   rw[size_toArray,flat_len,Int.toNat_natCast]
   omega
  rw[if_neg (by simp[hx];omega)]
  have ez:(xs.toArray.size:Int)*(n:Int)=((n*xs.length:Nat):Int):=by rw[size_toArray,Int.natCast_mul,Int.mul_comm]
  have e5:¬((xs.toArray.size:Int)*(n:Int)>(2^63 - 1)/8):=by rw[ez];omega
  show wpAny _ _ (if(xs.toArray.size:Int)*(n:Int)>(2^63 - 1)/8 then _ else _) _ _ s
  rw[if_neg e5]
  have e6:¬(Builtin.Tuple.tupleTooMany ((xs.toArray.size:Int)*(n:Int))=true):=by
   unfold Builtin.Tuple.tupleTooMany
   rw[ez]
   simp
   omega
  show wpAny _ _ (if Builtin.Tuple.tupleTooMany ((xs.toArray.size:Int)*(n:Int))=true then _ else _) _ _ s
  have ef:=L2.foldl_rep xs ((n:Int).toNat) []
  rw[nil_append]at ef
  rw[if_neg e6]
  refine bZ (m:=Builtin.Tuple.tupleExact _) ?_
  rw[show List.foldl (λx1 x2=>x1++x2) #[] (List.replicate ((n:Int).toNat) xs.toArray)=(List.replicate ((n:Int).toNat) xs).flatten.toArray from ef]
  exact wpAny_newObj_type (pZ ⟨_,rfl,hn e⟩) hz
end
end TM
namespace L2
open PySem PySem.Spec PyProof.Rows
section
variable{X:Cx}{K:FZ}
def WY(K:FZ):R2:=λx y H Q=>∃l k zs,x=.ref l/\y=.int k/\SqT K H l zs/\zs≠ []/\zs.length<=100/\1<=k/\k<=1000/\(k=1->Q (.ref l) H)/\(k≠1->∀p,H p=none->Q (.ref p) (upd H p (.tup (List.replicate k.toNat zs).flatten)))
theorem HZ{zs:List V}{us:List Value}(r:Vals zs us):∀k:Nat,Vals (List.replicate k zs).flatten (List.replicate k us).flatten
 |0=> .nil
 |k+1=>by
  rw[replicate_succ,flatten_cons,replicate_succ,flatten_cons]
  exact r.append (HZ r k)
theorem acZ:OpR X (binaryOp .Mult) (WY X.K):=by
 intro pins s σ H x y v u Q I rx ry h
 obtain⟨l,k,zs,rfl,rfl,hl,hz,hzl,h0,h1,q1,q2⟩:=h
 cases rx
 obtain⟨t,rfl⟩:=ry
 obtain⟨its,r,pl,_⟩:=I.tuple hl
 obtain⟨⟨cls,dd,data,sl⟩,ho,hc,n,hd⟩:=id pl
 simp only at hc hd
 subst hc hd
 have hi:its≠ []:=λe=>by
  subst e
  cases r
  exact hz rfl
 refine wpAny_binaryOp_repeat_ref (T:="tuple") (U:="int") (by decide) ⟨_,ho,rfl⟩ (λs'=>typeIs_int s' k t) TM.noFill_tuple_mul F.fills_int_mul F.slot_int_rmul TM.repeat_tuple F.slot_int_index.lookup
  (call_meets F.slot_int_rmul (typeIs_int s k t) F.entry_int_rmul (F.args_int_rmul_2 _ _) (TM.int___rmul___int_tuple k t l dd _ n sl)
   ⟨ho,rfl,⟨_,ho,rfl⟩,TM.tuple_mulN pl hi (by rw[<-r.length];exact hzl) h0 h1 (λe=>⟨.ref l,H,I,rfl,q1 e⟩) λe=> ?_⟩)
 refine⟨.ref s.heap.objs.size,_,I.laid (t':=s.toks) (o:=.tup (List.replicate k.toNat zs).flatten) (λb ob q=>gZ _ q) (Nat.le_refl _) ?_,rfl,q2 e _ (I.hok.fresh (Nat.le_refl _))⟩
 refine⟨?_,_,HZ r k.toNat,IsTup.new _ _⟩
 rw[TM.flat_len]
 have zz:(2^20:Nat)<=sizeLine:=by decide
 have:k.toNat*zs.length<=1000*100:=mul_le_mul (by omega) hzl
 omega
theorem a9Z(hK:X.K=K:=by rfl):OpR X (binaryOp .Mult) (λx y H Q=>rI CMul (λi j=> .int (i*j)) x y H Q\/WY K x y H Q):=by subst hK;exact op_mul.or acZ
end
end L2
namespace L2
open PySem PyProof.Rows
section
variable{X:Cx}
theorem buZ{x y z:V}{us:List Value}(r:Vals [x,y,z] us):∃u v w',us=[u,v,w']/\RelV x u/\RelV y v/\RelV z w':=by
 cases r with
 |cons r1 r2=>
  cases r2 with
  |cons r3 r4=>
   cases r4 with
   |cons r5 r6=>cases r6;exact⟨_,_,_,rfl,r1,r3,r5⟩
theorem UL(hc:X.calm=true):CallR X (.builtin "min") (λxs H Q=>∃i j k,xs=[.int i,.int j,.int k]/\Q (.int (if j<i then(if k<j then k else j)else(if k<i then k else i))) H):=by
 intro pins s σ H xs us Q I r h
 obtain⟨i,j,k,rfl,q⟩:=h
 obtain⟨u,v,w',rfl,⟨t,rfl⟩,⟨t',rfl⟩,⟨t'',rfl⟩⟩:=buZ r
 refine min_three_ints (I.ok.hd hc) λh' tk kk=>⟨_,H,I.kept kk, ?_,q⟩
 by_cases hj:j<i
 ·rw[if_pos hj,if_pos hj]
  by_cases hk:k<j
  ·rw[if_pos hk,if_pos hk];exact⟨_,rfl⟩
  ·rw[if_neg hk,if_neg hk];exact⟨_,rfl⟩
 ·rw[if_neg hj,if_neg hj]
  by_cases hk:k<i
  ·rw[if_pos hk,if_pos hk];exact⟨_,rfl⟩
  ·rw[if_neg hk,if_neg hk];exact⟨_,rfl⟩
theorem RW:OpR X (compareOp .IsNot) (λx y H Q=>∃i j,x=.bl i/\y=.bl j/\Q (.bl (!(i==j))) H):=by
 intro pins s σ H x y v u Q I rx ry h
 obtain⟨i,j,rfl,rfl,q⟩:=h
 cases rx
 cases ry
 refine wpAny_isNot_plain (by cases i<;>cases j<;>rfl) (E8 I q ?_)
 cases i<;>cases j<;>rfl
end
end L2
namespace BV
open PySem L2
abbrev AS:=Addr->Prop
def Kp(S:AS)(H H':Hp):Prop:=(∀b xs,H b=some (.tup xs)->H' b=some (.tup xs))/\∀b o,H b=some o->¬S b->H' b=some o
theorem Kp.trans{S:AS}{H H1 H2:Hp}(a:Kp S H H1)(b:Kp S H1 H2):Kp S H H2:=⟨λc xs h=>b.1 c xs (a.1 c xs h),λc xs h n=>b.2 c xs (a.2 c xs h n) n⟩
theorem Kp.of{S:AS}{H H':Hp}(h:Same H H'):Kp S H H':=⟨λb o q=>h b _ q,λb o q _=>h b o q⟩
theorem Kp.upd{S:AS}{H:Hp}{p:Addr}{xs:List V}(h:S p)(hp:H p=some (.lst xs))(o:HO):Kp S H (upd H p o):=⟨λb u q=>by
 rw[B8 (IH q hp (by intro z;cases z))];exact q,λb u q n=>by
 have e:b≠p:=λe=>n (by rw[e];exact h)
 rw[B8 e];exact q⟩
theorem Kp.tups{S:AS}{H H':Hp}(h:Kp S H H'){b:Addr}{xs:List V}(q:H b=some (.tup xs)):H' b=some (.tup xs):=h.1 b xs q
def Wd(H:Hp)(S S':AS):Prop:=∀a,S' a->S a\/H a=none
theorem A5{H:Hp}{p:Addr}(h:H p=none)(o:HO):Same H (upd H p o):=λb u q=>by rw[B8 (C6 q h)];exact q
structure Tr where
 T:Type
 kids:T->List T
 size:T->Nat
 val:AS->Hp->T->V->Prop
 res:AS->Hp->T->V->Prop
 hsz:∀t,size t=1+((kids t).map size).sum
 vm:∀ {S H H' t v},Kp S H H'->val S H t v->val S H' t v
 rm:∀ {S H H' t v},Kp S H H'->res S H t v->res S H' t v
 vw:∀ {S S' H t v},Wd H S S'->val S H t v->val S' H t v
 rw':∀ {S S' H t v},Wd H S S'->res S H t v->res S' H t v
inductive All2 {α β:Type} (R:α->β->Prop):List α->List β->Prop where
 |nil:All2 R [] []
 |cons {a b as bs}:R a b->All2 R as bs->All2 R (a::as) (b::bs)
namespace All2
variable{α β:Type}{R S:α->β->Prop}
theorem imp{as:List α}{bs:List β}(h:All2 R as bs)(f:∀a b,R a b->S a b):All2 S as bs:=by
 induction h with
 |nil=>exact .nil
 |cons r _ ih=>exact .cons (f _ _ r) ih
theorem app{as as':List α}{bs bs':List β}(h:All2 R as bs)(h':All2 R as' bs'):All2 R (as++as') (bs++bs'):=by
 induction h with
 |nil=>exact h'
 |cons r _ ih=>exact .cons r ih
theorem rev{as:List α}{bs:List β}(h:All2 R as bs):All2 R as.reverse bs.reverse:=by
 induction h with
 |nil=>exact .nil
 |cons r _ ih=>rw[reverse_cons,reverse_cons];exact ih.app (.cons r .nil)
theorem len{as:List α}{bs:List β}(h:All2 R as bs):as.length=bs.length:=by
 induction h with
 |nil=>rfl
 |cons _ _ ih=>simp only[length_cons,ih]
theorem get{as:List α}{bs:List β}(h:All2 R as bs):∀ {i:Nat} {b:β},bs[i]? =some b->∃a,as[i]? =some a/\R a b:=by
 induction h with
 |nil=>intro i b e;simp at e
 | @cons a b as bs r _ ih=>
  intro i c e
  cases i with
  |zero=>simp at e;subst e;exact⟨a,rfl,r⟩
  |succ i=>exact ih (by simpa using e)
theorem get'{as:List α}{bs:List β}(h:All2 R as bs):∀ {i:Nat} {a:α},as[i]? =some a->∃b,bs[i]? =some b/\R a b:=by
 induction h with
 |nil=>intro i b e;simp at e
 | @cons a b as bs r _ ih=>
  intro i c e
  cases i with
  |zero=>simp at e;subst e;exact⟨b,rfl,r⟩
  |succ i=>exact ih (by simpa using e)
theorem split{as as':List α}:∀ {bs:List β},All2 R (as++as') bs->∃b1 b2,bs=b1++b2/\All2 R as b1/\All2 R as' b2:=by
 induction as with
 |nil=>intro bs h;exact⟨[],bs,rfl,.nil,h⟩
 |cons a as ih=>
  intro bs h
  cases h with
  |cons r h=>
   obtain⟨b1,b2,rfl,h1,h2⟩:=ih h
   exact⟨_::b1,b2,rfl,.cons r h1,h2⟩
end All2
inductive Reach (D:Tr) (t0:D.T):List D.T->List D.T->Prop where
 |start:Reach D t0 [] [t0]
 |step {A:List D.T} {t:D.T} {r:List D.T}:Reach D t0 A (t::r)->Reach D t0 (A++ [t]) (D.kids t++r)
theorem Reach.back{D:Tr}{t0 t:D.T}{A W:List D.T}(h:Reach D t0 (A++ [t]) W):∃r,W=D.kids t++r/\Reach D t0 A (t::r):=by
 generalize e:A++ [t]=B at h
 cases h with
 |start=>simp at e
 |step h=>
  have:=List.append_inj' e rfl
  obtain⟨rfl,e2⟩:=this
  cases e2
  exact⟨_,rfl,h⟩
theorem Reach.first{D:Tr}{t0:D.T}{W:List D.T}(h:Reach D t0 [] W):W=[t0]:=by
 generalize e:([]:List D.T)=B at h
 cases h with
 |start=>rfl
 |step h=>simp at e
theorem Reach.size{D:Tr}{t0:D.T}{A W:List D.T}(h:Reach D t0 A W):A.length+(W.map D.size).sum=D.size t0:=by
 induction h with
 |start=>simp
 | @step A t r _ ih=>
  simp only[length_append,length_cons,length_nil,map_append,sum_append,map_cons,sum_cons]at ih⊢
  have:=D.hsz t
  omega
theorem Tr.pos(D:Tr)(t:D.T):1<=D.size t:=by have:=D.hsz t;omega
theorem Tr.len_le(D:Tr):∀W:List D.T,W.length<=(W.map D.size).sum
 | []=>Nat.le_refl _
 |t::r=>by have:=D.pos t;have:=D.len_le r;simp only[length_cons,map_cons,sum_cons];omega
theorem Tr.kids_le(D:Tr)(t:D.T):(D.kids t).length<=D.size t:=by have:=D.len_le (D.kids t);have:=D.hsz t;omega
def MetAt(D:Tr)(S:AS)(H:Hp)(t:D.T)(x:V):Prop:=∃p v,x=.ref p/\H p=some (.tup [v,.int ((D.kids t).length:Nat)])/\D.val S H t v
theorem MetAt.mono{D:Tr}{S:AS}{H H':Hp}(m:Kp S H H'){t:D.T}{x:V}(h:MetAt D S H t x):MetAt D S H' t x:=by
 obtain⟨p,v,e,hp,hv⟩:=h
 exact⟨p,v,e,m.tups hp,D.vm m hv⟩
theorem MetAt.wide{D:Tr}{S S':AS}{H:Hp}(m:Wd H S S'){t:D.T}{x:V}(h:MetAt D S H t x):MetAt D S' H t x:=by
 obtain⟨p,v,e,hp,hv⟩:=h
 exact⟨p,v,e,hp,D.vw m hv⟩
def spP(D:Tr):Sp:=λvs H Q _=>∃S t v,vs=[v]/\D.val S H t v/\D.size t<=400000/\∀r H' ps,Same H H'->H r=none->H' r=some (.lst ps)->All2 (D.val S H') (D.kids t) ps->Q (.ref r) H'
end BV
namespace BV
open PySem L2
theorem cxZ{H:Hp}{a:Addr}{o:HO}(h:H a=some o):upd H a o=H:=by
 funext b
 unfold upd
 split
 ·rename_i e;rw[e,h]
 ·rfl
end BV
namespace CL
open PySem L2 BV
def HI:V->Bool
 | .int _| .bl _| .str _| .non=>true
 |_=>false
theorem sc_plain{x:V}(h:HI x=true):KN x=true:=by cases x<;>first|rfl|(cases h;done)
theorem alZ{x:V}(h:HI x=true):bFZ x x=true:=by cases x<;>first|rfl|(cases h;done)
def Mo(H H':Hp):Prop:=∀b xs,H b=some (.tup xs)->H' b=some (.tup xs)
def Bt(a:Addr)(H H':Hp):Prop:=∀b o,H b=some o->b≠a->H' b=some o
theorem Bt.of{a:Addr}{H H':Hp}(h:Same H H'):Bt a H H':=λb o q _=>h b o q
theorem Bt.trans{a:Addr}{H H1 H2:Hp}(h:Bt a H H1)(h':Bt a H1 H2):Bt a H H2:=λb o q n=>h' b o (h b o q n) n
theorem Bt.upd{a:Addr}{H:Hp}(o:HO):Bt a H (upd H a o):=λb u q n=>by rw[B8 n];exact q
theorem Bt.tups{a:Addr}{H H':Hp}{us:List V}(h:Bt a H H')(ha:H a=some (.lst us)):Mo H H':=λb xs q=>h b _ q λe=>by subst e;rw[ha]at q;cases q
theorem B5{H H':Hp}(s:Same H H'):Mo H H':=λb xs e=>s _ _ e
theorem BH:1<=sizeLine:=by decide
theorem M8:2<=sizeLine:=by decide
theorem PK:3<=sizeLine:=by decide
theorem PF{K:FZ}:kitOne K (.type "tuple") (.type "tuple")=some true:=rfl
theorem bTZ{K:FZ}:kitOne K (.type "tuple") (.type "list")=some false:=by rfl
theorem XZ{K:FZ}:kitOne K (.type "list") (.type "list")=some true:=by rfl
theorem bWZ{K:FZ}:kitOne K (.type "list") (.type "tuple")=some false:=by rfl
theorem drZ{K:FZ}:kitAny K (.type "tuple") [.type "list",.type "tuple"]=some true:=by rfl
theorem ddZ{K:FZ}:kitAny K (.type "list") [.type "list",.type "tuple"]=some true:=by rfl
structure ScT (K:FZ) (t:Value):Prop where
 li:kitOne K t (.type "list")=some false
 tu:kitOne K t (.type "tuple")=some false
 bo:kitAny K t [.type "list",.type "tuple"]=some false
 bl:∃b,kitOne K t (.type "bool")=some b
 st:∃b,kitOne K t (.type "str")=some b
 nt:∃b,kitOne K t (.type "int")=some b
theorem VN{K:FZ}{H:Hp}{x:V}(h:HI x=true):∃t,TyOf K H x t/\ScT K t:=by
 cases x with
 |int i=>exact⟨_,.int i,by rfl,by rfl,by rfl,⟨_,by rfl⟩,⟨_,by rfl⟩,⟨_,by rfl⟩⟩
 |bl i=>exact⟨_,.bl i,by rfl,by rfl,by rfl,⟨_,by rfl⟩,⟨_,by rfl⟩,⟨_,by rfl⟩⟩
 |str i=>exact⟨_,.str i,by rfl,by rfl,by rfl,⟨_,by rfl⟩,⟨_,by rfl⟩,⟨_,by rfl⟩⟩
 |non=>exact⟨_,.non,by rfl,by rfl,by rfl,⟨_,by rfl⟩,⟨_,by rfl⟩,⟨_,by rfl⟩⟩
 |_=>cases h
end CL
namespace NM
open PySem L2
seal PE PT PW PA PS PSs PTs PI PG PGs PO
noncomputable def top(i:Nat):Stmt:=PySem.Challenge.pw_speakmill_k67_ends.main.body.getD i (.Pass ⟨0,0,0,0⟩)
noncomputable abbrev s_two_told:Stmt:=top 17
noncomputable abbrev s_quotient_told:Stmt:=top 18
noncomputable abbrev s_outcome:Stmt:=top 19
noncomputable abbrev s_bounded:Stmt:=top 20
abbrev PV:List Str:=["sign","a","b"]
theorem sc_two_told:FnScope PV UE (B0 s_two_told):=fS
abbrev ES:List Str:=["a","b"]
theorem sc_quotient_told:FnScope ES ["a","b"] (B0 s_quotient_told):=fS
abbrev UD:List Str:=["sign","a","b"]
theorem sc_outcome:FnScope UD UE (B0 s_outcome):=fS
noncomputable abbrev TH:List Str:=["number"]
theorem sc_bounded:FnScope TH ["number"] (B0 s_bounded):=fS
structure NoG (mg:Str->Option Value):Prop where
 len_:mg "len"=none
 min_:mg "min"=none
 abs_:mg "abs"=none
 isinstance_:mg "isinstance"=none
 tuple_:mg "tuple"=none
 int_:mg "int"=none
 bool_:mg "bool"=none
theorem A5{H:Hp}{p:Addr}(h:H p=none)(o:HO):Same H (upd H p o):=λb u q=>by rw[B8 (C6 q h)];exact q
theorem ifT{c A B:Prop}[Decidable c](h:c)(a:A):if c then A else B:=by rw[if_pos h];exact a
theorem ifF{c A B:Prop}[Decidable c](h:¬c)(b:B):if c then A else B:=by rw[if_neg h];exact b
noncomputable abbrev GR:Int:=10000000000000000000000000000000000000000
noncomputable def bnd(n:Int):List V:=if n>GR\/n< -GR then [.str "refused",.str "great"]else [.str "value",.int n]
noncomputable def quo(a b:Int):List V:=if b=0 then [.str "refused",.str "nought"]else [.str "value",.int (a.fdiv b)]
theorem M8:(2:Nat)<=sizeLine:=by decide
section
variable{P:Program}{w:World}{K:FZ}{mg:Str->Option Value}{base:Heap}{f:Addr}{fd:FuncData}{EI SL SQ:Addr}{EA SG SJ:FuncData}{tG:Tok}
def a0Z:Sp:=λvs H Q _=>∃a b:Int,vs=[.int a,.int b]/\b.natAbs.log2<9000/\∀r H',Same H H'->H' r=some (.tup (quo a b))->Q (.ref r) H'
theorem ok_quotient_told(F:Fun K "quotient_told" "quotient_told" s_quotient_told f fd):FnOk P w K mg base CX0 1 f fd ["a","b"] a0Z:=by
 refine F.ok sc_quotient_told (λvs H Q E h=> ?_) (λcdv A outer s H vs Q E hr h=> ?_)
 ·obtain⟨a,b,rfl,_⟩:=h
  rfl
 obtain⟨a,b,rfl,hb,q⟩:=h
 have nd:=sc_quotient_told.nd
 have hu:=hr.units0
 refine⟨_,(A8 (D8 (C7 (kEq (K:=K) hu) (pv 1) A7 rfl) (A9 (C0 (B4 (A0 B6 (A0 B6 A6))))) C9)
   (A9 (C0 (B4 (A0 B6 (A0 (C3 K8 (pv 0) (pv 1)) A6)))))), ?_⟩
 refine⟨_,rfl,.inl ⟨rfl,_,rfl,HB (λe=> ?_) (λe=> ?_)⟩⟩
 ·have e':b=0:=by have:=of_decide_eq_true e;injection this
  refine⟨M8,λp hp=>q p _ (A5 hp _) ?_⟩
  rw[upd_same,quo,if_pos e']
 ·have e':b≠0:=λz=>e (by rw[z];rfl)
  refine⟨_,rfl,_,rfl,_,_,rfl,rfl,⟨e',hb⟩,M8,λp hp=>q p _ (A5 hp _) ?_⟩
  rw[upd_same,quo,if_neg e']
def bbZ:Sp:=λvs H Q _=>∃(s:Str) (a b:Int),vs=[.str s,.int a,.int b]/\(s="+"/\Q (.int (a+b)) H\/s="-"/\Q (.int (a - b)) H\/s="*"/\IntMulOk a b/\Q (.int (a*b)) H)
theorem ok_outcome(F:Fun K "outcome" "outcome" s_outcome f fd):FnOk P w K mg base CX0 1 f fd UE bbZ:=by
 refine F.ok sc_outcome (λvs H Q E h=> ?_) (λcdv A outer s H vs Q E hr h=> ?_)
 ·obtain⟨s,a,b,rfl,_⟩:=h
  rfl
 obtain⟨s,a,b,rfl,q⟩:=h
 have nd:=sc_outcome.nd
 have hu:=hr.units0
 refine⟨_,(A8 (D8 (C7 (kEq (K:=K) hu) (pv 0) B6 rfl) (A9 (C0 (C3 S6 (pv 1) (pv 2)))) C9)
   (A8 (D8 (C7 (kEq (K:=K) hu) (pv 0) B6 rfl) (A9 (C0 (C3 N6 (pv 1) (pv 2)))) C9)
   (A9 (C0 (C3 EU (pv 1) (pv 2)))))), ?_⟩
 rcases q with⟨rfl,q⟩|⟨rfl,q⟩|⟨rfl,hm,q⟩
 ·exact⟨_,rfl,.inl ⟨rfl,_,rfl,ifT (by decide) ⟨_,rfl,_,rfl,.inl ⟨_,_,rfl,rfl,q⟩⟩⟩⟩
 ·exact⟨_,rfl,.inl ⟨rfl,_,rfl,ifF (by decide) ⟨_,rfl,.inl ⟨rfl,_,rfl,ifT (by decide) ⟨_,rfl,_,rfl,_,_,rfl,rfl,q⟩⟩⟩⟩⟩
 ·exact⟨_,rfl,.inl ⟨rfl,_,rfl,ifF (by decide) ⟨_,rfl,.inl ⟨rfl,_,rfl,ifF (by decide) ⟨_,rfl,_,rfl,_,_,rfl,rfl,hm,q⟩⟩⟩⟩⟩
def a8Z:Sp:=λvs H Q _=>∃n:Int,vs=[.int n]/\∀r H',Same H H'->H' r=some (.tup (bnd n))->Q (.ref r) H'
theorem ok_bounded(F:Fun K "bounded" "bounded" s_bounded f fd)(B:NoG mg)(m_GREATEST:mg "GREATEST"=some (.int GR tG)):FnOk P w K mg base CX0 1 f fd ["number"] a8Z:=by
 refine F.ok sc_bounded (λvs H Q E h=> ?_) (λcdv A outer s H vs Q E hr h=> ?_)
 ·obtain⟨n,rfl,_⟩:=h
  rfl
 obtain⟨n,rfl,q⟩:=h
 have nd:=sc_bounded.nd
 have hu:=hr.units0
 refine⟨_,(A8 (D8 (C7 cLZ (C8 VU rfl B.abs_ brZ (A0 (pv 0) A6)) (BI (v:=.int 10000000000000000000000000000000000000000) rfl m_GREATEST ⟨_,rfl⟩) rfl) (A9 (C0 (B4 (A0 B6 (A0 B6 A6))))) C9)
   (A9 (C0 (B4 (A0 B6 (A0 (pv 0) A6)))))), ?_⟩
 refine⟨_,rfl,_,rfl,_,_,rfl,rfl,_,rfl,HB (λe=> ?_) (λe=> ?_)⟩
 ·have e1:GR<(if n<0 then -n else n):=of_decide_eq_true e
  have e':n>GR\/n< -GR:=by
   split at e1
   ·exact .inr (by omega)
   ·exact .inl (by omega)
  refine⟨M8,λp hp=>q p _ (A5 hp _) ?_⟩
  rw[upd_same,bnd,if_pos e']
 ·have e1:¬GR<(if n<0 then -n else n):=λz=>e (decide_eq_true z)
  have e':¬(n>GR\/n< -GR):=by
   split at e1<;>omega
  refine⟨_,rfl,M8,λp hp=>q p _ (A5 hp _) ?_⟩
  rw[upd_same,bnd,if_neg e']
noncomputable def sg:Nat->Str
 |0=> "+"|1=> "-"|2=> "*"|3=> "<"|4=> "="|_=> "/"
noncomputable def tw:Nat->Int->Int->List V
 |0,a,b=>bnd (a+b)|1,a,b=>bnd (a - b)|2,a,b=>bnd (a*b)|3,a,b=> [.str "value",.bl (decide (a<b))]|4,a,b=> [.str "value",.bl (decide (V.int a=V.int b))]|_,a,b=>quo a b
def spTwo:Sp:=λvs H Q _=>∃(k:Nat) (a b:Int),vs=[.str (sg k),.int a,.int b]/\k<6/\IntMulOk a b/\b.natAbs.log2<9000/\∀r H',Same H H'->H' r=some (.tup (tw k a b))->Q (.ref r) H'
theorem ok_two_told(F:Fun K "two_told" "two_told" s_two_told f fd)
  (P1:Cn P w K mg base CX0 1 "quotient_told" ["a","b"] a0Z)
  (CD:Cn P w K mg base CX0 1 "outcome" UE bbZ)
  (CG:Cn P w K mg base CX0 1 "bounded" ["number"] a8Z):
  FnOk P w K mg base CX0 2 f fd UE spTwo:=by
 obtain⟨EI,EA,P1,EJ,DZ,EC⟩:=P1
 obtain⟨SL,SG,CD,SN,SM,SO⟩:=CD
 obtain⟨SQ,SJ,CG,SK,SD,SH⟩:=CG
 refine F.ok sc_two_told (λvs H Q E h=> ?_) (λcdv A outer s H vs Q E hr h=> ?_)
 ·obtain⟨k,a,b,rfl,_⟩:=h
  rfl
 obtain⟨k,a,b,rfl,hk,hm,hb,q⟩:=h
 have nd:=sc_two_told.nd
 have hu:=hr.units0
 refine⟨_,(A8 (D8 (C7 (kEq (K:=K) hu) (pv 0) B6 rfl) (A9 (C0 (B4 (A0 B6 (A0 (L0 YF (pv 1) (pv 2) rfl) A6))))) C9)
   (A8 (D8 (C7 (kEq (K:=K) hu) (pv 0) B6 rfl) (A9 (C0 (B4 (A0 B6 (A0 (L0 (kEq (K:=K) hu) (pv 1) (pv 2) rfl) A6))))) C9)
   (A8 (D8 (C7 (kEq (K:=K) hu) (pv 0) B6 rfl) (A9 (C0 (B9 P1 (hr.mono (by omega)) rfl EC DZ EJ .nil C2 (A0 (pv 1) (A0 (pv 2) A6))))) C9)
   (A9 (C0 (B9 CG (hr.mono (by omega)) rfl SH SD SK .nil C2 (A0 (B9 CD (hr.mono (by omega)) rfl SO SM SN .nil C2 (A0 (pv 0) (A0 (pv 1) (A0 (pv 2) A6)))) A6))))))), ?_⟩
 have hk':k=0\/k=1\/k=2\/k=3\/k=4\/k=5:=by omega
 rcases hk' with rfl|rfl|rfl|rfl|rfl|rfl
 ·exact⟨_,rfl,.inl ⟨rfl,_,rfl,ifF (by decide) ⟨_,rfl,.inl ⟨rfl,_,rfl,ifF (by decide) ⟨_,rfl,.inl ⟨rfl,_,rfl,ifF (by decide)
   ⟨_,rfl,_,rfl,_,rfl,_,_,_,rfl,.inl ⟨rfl,_,rfl,q⟩⟩⟩⟩⟩⟩⟩⟩
 ·exact⟨_,rfl,.inl ⟨rfl,_,rfl,ifF (by decide) ⟨_,rfl,.inl ⟨rfl,_,rfl,ifF (by decide) ⟨_,rfl,.inl ⟨rfl,_,rfl,ifF (by decide)
   ⟨_,rfl,_,rfl,_,rfl,_,_,_,rfl,.inr (.inl ⟨rfl,_,rfl,q⟩)⟩⟩⟩⟩⟩⟩⟩
 ·exact⟨_,rfl,.inl ⟨rfl,_,rfl,ifF (by decide) ⟨_,rfl,.inl ⟨rfl,_,rfl,ifF (by decide) ⟨_,rfl,.inl ⟨rfl,_,rfl,ifF (by decide)
   ⟨_,rfl,_,rfl,_,rfl,_,_,_,rfl,.inr (.inr ⟨rfl,hm,_,rfl,q⟩)⟩⟩⟩⟩⟩⟩⟩
 ·exact⟨_,rfl,.inl ⟨rfl,_,rfl,ifT (by decide) ⟨_,rfl,_,rfl,_,_,rfl,rfl,M8,λp hp=>q p _ (A5 hp _) upd_same⟩⟩⟩
 ·exact⟨_,rfl,.inl ⟨rfl,_,rfl,ifF (by decide) ⟨_,rfl,.inl ⟨rfl,_,rfl,ifT (by decide) ⟨_,rfl,_,rfl,.inl ⟨rfl,M8,λp hp=>q p _ (A5 hp _) upd_same⟩⟩⟩⟩⟩⟩
 ·exact⟨_,rfl,.inl ⟨rfl,_,rfl,ifF (by decide) ⟨_,rfl,.inl ⟨rfl,_,rfl,ifF (by decide) ⟨_,rfl,.inl ⟨rfl,_,rfl,ifT (by decide)
   ⟨_,rfl,_,rfl,_,_,rfl,hb,q⟩⟩⟩⟩⟩⟩⟩
end
end NM
namespace CL
open PySem L2 BV
theorem GRe:NM.GR=10000000000000000000000000000000000000000:=rfl
def Bd(n:Int):Prop:= -NM.GR<=n/\n<=NM.GR
theorem QV{n:Int}(h:n.natAbs<2^300):Builtin.Int.intBits n<=2^20:=le_trans (intBits_le_iff.mpr h) (by decide)
theorem Bd.abs{n:Int}(h:Bd n):n.natAbs<2^300:=by
 have e:(10000000000000000000000000000000000000000:Nat)<2^300:=by decide +kernel
 have hG:=GRe
 obtain⟨h1,h2⟩:=h
 generalize 2^300=k at e⊢
 omega
theorem Bd.mul{a b:Int}(h:Bd a)(h':Bd b):IntMulOk a b:=IntMulOk.of_bits (QV h.abs) (QV h'.abs)
theorem Bd.log{n:Int}(h:Bd n):n.natAbs.log2<9000:=by
 by_cases e:n.natAbs=0
 ·rw[e];decide +kernel
 ·have:=(Nat.log2_lt e).mpr h.abs
  omega
inductive Rk where
 |push (v:V)|non|load (j:Nat)|keep (j:Nat)|two (k:Nat)|cons|head|tail|empty|not|skip (n:Nat)|unless (n:Nat)|close (b n:Nat)
noncomputable def wd:Nat->Str
 |0=> "add"|1=> "sub"|2=> "mul"|3=> "less"|4=> "same"|_=> "div"
noncomputable def rkV:Rk->List V
 | .push v=> [.str "push",v]
 | .non=> [.str "none"]
 | .load j=> [.str "load",.int (j:Nat)]
 | .keep j=> [.str "keep",.int (j:Nat)]
 | .two k=> [.str (wd k)]
 | .cons=> [.str "cons"]
 | .head=> [.str "head"]
 | .tail=> [.str "tail"]
 | .empty=> [.str "empty"]
 | .not=> [.str "not"]
 | .skip n=> [.str "skip",.int (n:Nat)]
 | .unless n=> [.str "unless",.int (n:Nat)]
 | .close b n=> [.str "close",.int (b:Nat),.int (n:Nat)]
inductive Eo where
 |fr (d:Int) (sl st:List V)|rf (w:Str)|pair (st:List V) (x y:V)|fn (st:List V) (b:Nat) (xs:List V)
def NS(H:Hp)(v:V):Prop:=(∃i,v=.int i)\/(∃b,v=.bl b)\/v=.non\/∃p xs,v=.ref p/\H p=some (.tup xs)
inductive Ef (H:Hp) (us sl:List V):Rk->List V->Eo->Prop
 |push {v st}:HI v=true->Ef H us sl (.push v) st (.fr 1 sl (st++ [v]))
 |non {st}:Ef H us sl .non st (.fr 1 sl (st++ [.non]))
 |load {j v st}:sl[j]? =some v->Ef H us sl (.load j) st (.fr 1 sl (st++ [v]))
 |keep {j v st}:j<sl.length->Ef H us sl (.keep j) (st++ [v]) (.fr 1 (sl.take j++ [v]++sl.drop (j+1)) st)
 |twoV {k a b v st}:k<6->Bd a->Bd b->NM.tw k a b=[.str "value",v]->NS H v->Ef H us sl (.two k) (st++ [.int a,.int b]) (.fr 1 sl (st++ [v]))
 |twoR {k a b w st}:k<6->Bd a->Bd b->NM.tw k a b=[.str "refused",.str w]->Ef H us sl (.two k) (st++ [.int a,.int b]) (.rf w)
 |cons {x y st}:Ef H us sl .cons (st++ [x,y]) (.pair st x y)
 |headN {st}:Ef H us sl .head (st++ [.non]) (.rf "head")
 |tailN {st}:Ef H us sl .tail (st++ [.non]) (.rf "tail")
 |head {p c h t st} {j:Nat}:H p=some (.tup [.str "cell",.int (j:Nat)])->us[j]? =some (.ref c)->H c=some (.tup [.str "pair",h,t])->NS H h->Ef H us sl .head (st++ [.ref p]) (.fr 1 sl (st++ [h]))
 |tail {p c h t st} {j:Nat}:H p=some (.tup [.str "cell",.int (j:Nat)])->us[j]? =some (.ref c)->H c=some (.tup [.str "pair",h,t])->NS H t->Ef H us sl .tail (st++ [.ref p]) (.fr 1 sl (st++ [t]))
 |emptyN {st}:Ef H us sl .empty (st++ [.non]) (.fr 1 sl (st++ [.bl true]))
 |empty {p xs st}:H p=some (.tup xs)->Ef H us sl .empty (st++ [.ref p]) (.fr 1 sl (st++ [.bl false]))
 |not {b st}:Ef H us sl .not (st++ [.bl b]) (.fr 1 sl (st++ [.bl (!b)]))
 |skip {n st}:Ef H us sl (.skip n) st (.fr (1+(n:Nat)) sl st)
 |unless {n b st}:Ef H us sl (.unless n) (st++ [.bl b]) (.fr (1+if b=true then 0 else(n:Int)) sl st)
 |close {b n st xs}:xs.length=n->Ef H us sl (.close b n) (st++xs) (.fn st b xs)
theorem WS{k:Nat}(hk:k<6)(a b:Int):(∃v,((∃i,v=.int i)\/∃b,v=.bl b)/\NM.tw k a b=[.str "value",v])\/∃w,NM.tw k a b=[.str "refused",.str w]:=by
 have hb:∀n:Int,(∃v,((∃i,v=.int i)\/∃b,v=.bl b)/\NM.bnd n=[.str "value",v])\/∃w,NM.bnd n=[.str "refused",.str w]:=λn=>by
  unfold NM.bnd
  split
  ·exact .inr ⟨_,rfl⟩
  ·exact .inl ⟨_,.inl ⟨_,rfl⟩,rfl⟩
 have h:k=0\/k=1\/k=2\/k=3\/k=4\/k=5:=by omega
 rcases h with rfl|rfl|rfl|rfl|rfl|rfl
 ·exact hb _
 ·exact hb _
 ·exact hb _
 ·exact .inl ⟨_,.inr ⟨_,rfl⟩,rfl⟩
 ·exact .inl ⟨_,.inr ⟨_,rfl⟩,rfl⟩
 ·show(∃v,((∃i,v=.int i)\/∃b,v=.bl b)/\NM.quo a b=[.str "value",v])\/∃w,NM.quo a b=[.str "refused",.str w]
  unfold NM.quo
  split
  ·exact .inr ⟨_,rfl⟩
  ·exact .inl ⟨_,.inl ⟨_,rfl⟩,rfl⟩
end CL
namespace CL
open PySem L2 BV
seal PE PT PW PA PS PSs PTs PI PG PGs PO
noncomputable def top(i:Nat):Stmt:=PySem.Challenge.pw_speakmill_k67_ends.main.body.getD i (.Pass ⟨0,0,0,0⟩)
noncomputable abbrev s_init:Stmt:=G6 (top 3) 0
noncomputable abbrev s_put:Stmt:=G6 (top 3) 1
noncomputable abbrev s_at:Stmt:=G6 (top 3) 2
noncomputable abbrev s_many:Stmt:=G6 (top 3) 3
noncomputable abbrev s_told:Stmt:=G6 (top 3) 4
noncomputable abbrev s_law_same:Stmt:=top 41
abbrev bGZ:List Str:=["self"]
theorem sc_init:FnScope bGZ G4 (B0 s_init):=fS
abbrev dkZ:List Str:=["self","cell"]
theorem sc_put:FnScope dkZ XO (B0 s_put):=fS
abbrev dXZ:List Str:=["self","value"]
theorem sc_at:FnScope dXZ EN (B0 s_at):=fS
abbrev byZ:List Str:=["self"]
theorem sc_many:FnScope byZ G4 (B0 s_many):=fS
abbrev cdZ:List Str:=["self"]
theorem sc_told:FnScope cdZ G4 (B0 s_told):=fS
abbrev GV:List Str:=["_law_found","_law_due_here"]
theorem sc_law_same:FnScope GV q9L (B0 s_law_same):=fS
structure NoG (mg:Str->Option Value):Prop where
 len_:mg "len"=none
 list_:mg "list"=none
 range_:mg "range"=none
 isinstance_:mg "isinstance"=none
 str_:mg "str"=none
 tuple_:mg "tuple"=none
 int_:mg "int"=none
 bool_:mg "bool"=none
 all_:mg "all"=none
theorem ifT{c A B:Prop}[Decidable c](h:c)(a:A):if c then A else B:=by rw[if_pos h];exact a
theorem ifF{c A B:Prop}[Decidable c](h:¬c)(b:B):if c then A else B:=by rw[if_neg h];exact b
structure RCls (K:FZ) (C:Addr) (mf:Str->Addr) (md:Str->FuncData):Prop where
 cl:Cls K C
 ni:NoAttr K C "in_order"
 m_put:Meth K C "put" (mf "put")
 m_at:Meth K C "at" (mf "at")
 m_many:Meth K C "many" (mf "many")
 m_told:Meth K C "told" (mf "told")
 b_put:Binds K (md "put") XO []
 b_at:Binds K (md "at") EN []
 b_many:Binds K (md "many") G4 []
 b_told:Binds K (md "told") G4 []
def CAt(C:Addr)(H:Hp)(o L:Addr)(us:List V):Prop:=∃dx,H o=some (.ins C dx [("in_order",.ref L)])/\H L=some (.lst us)
theorem CAt.same{C:Addr}{H H':Hp}{o L:Addr}{us:List V}(h:CAt C H o L us)(s:Same H H'):CAt C H' o L us:=let⟨dx,h1,h2⟩:=h;⟨dx,s _ _ h1,s _ _ h2⟩
theorem aAZ{K:FZ}{H H':Hp}{x:V}{t:Value}(s:Same H H')(h:TyOf K H x t):TyOf K H' x t:=by
 cases h with
 |non=>exact .non
 |bl y=>exact .bl y
 |int y=>exact .int y
 |str y=>exact .str y
 |flt y=>exact .flt y
 |lst e=>exact .lst (s _ _ e)
 |frz e=>exact .frz (s _ _ e)
 |tup e=>exact .tup (s _ _ e)
 |dK e=>exact .dK (s _ _ e)
 |dT e=>exact .dT (s _ _ e)
 |ins e c a b d m=>exact .ins (s _ _ e) c a b d m
theorem lk(u:V):([("in_order",u)]:List (Str×V)).lookup ("in_order":Str)=some u:=by rfl
section
variable{P:Program}{w:World}{K:FZ}{mg:Str->Option Value}{base:Heap}{C fi f:Addr}{di fd:FuncData}{mf:Str->Addr}{md:Str->FuncData}
def OO(C:Addr):Sp:=λvs H Q _=>∃x dx,vs=[.ref x]/\H x=some (.ins C dx [])/\∀L,H L=none->Q .non (upd (upd H L (.lst [])) x (.ins C dx [("in_order",.ref L)]))
theorem ok_init(F:Fun K "__init__" "Cells.__init__" s_init fi di)(RC:RCls K C mf md):FnOk P w K mg base CX0 1 fi di G4 (OO C):=by
 refine F.ok sc_init (λvs H Q E h=> ?_) (λcdv A outer s H vs Q E hr h=> ?_)
 ·obtain⟨x,dx,rfl,_⟩:=h
  rfl
 obtain⟨x,dx,rfl,h1,q⟩:=h
 have nd:=sc_init.nd
 refine⟨_,(A9 (O6 (pv 0) (J8 A6) rfl)), ?_⟩
 refine⟨(by show 0<=sizeLine;decide),λL hL=>⟨_,rfl,x,C,dx,_,rfl,(A5 hL _) _ _ h1,RC.cl,RC.ni,(by decide), ?_⟩⟩
 exact q L hL
def XL(C:Addr):Sp:=λvs H Q _=>∃o L us c,vs=[.ref o,c]/\CAt C H o L us/\us.length<=1000/\∀p H',H p=none->Bt L H H'->CAt C H' o L (us++ [c])->H' p=some (.tup [.str "cell",.int (us.length:Nat)])->Q (.ref p) H'
theorem ok_put(F:Fun K "put" "Cells.put" s_put (mf "put") (md "put"))(B:NoG mg)(RC:RCls K C mf md):FnOk P w K mg base CX0 1 (mf "put") (md "put") XO (XL C):=by
 refine F.ok sc_put (λvs H Q E h=> ?_) (λcdv A outer s H vs Q E hr h=> ?_)
 ·obtain⟨o,L,us,c,rfl,_⟩:=h
  rfl
 obtain⟨o,L,us,c,rfl,⟨dx,h1,h2⟩,hz,q⟩:=h
 have nd:=sc_put.nd
 have zz:(2000:Nat)<=sizeLine:=by decide
 refine⟨_,(A8 (G2 (HP (K:=K) PySem.F.plainAttrs_list PySem.F.slot_list_append PySem.F.type_list_append O5 (E3 (pv 0) rfl) (A0 (pv 1) A6)))
   (A9 (C0 (B4 (A0 B6 (A0 (C3 N6 (C8 (P4 (K:=K)) rfl B.len_ L9 (A0 (E3 (pv 0) rfl) A6)) A7) A6)))))), ?_⟩
 refine⟨_,rfl,o,C,dx,_,_,rfl,h1,RC.cl,RC.ni,lk _,.inl ⟨rfl,_,SqL.of h2⟩,_,rfl,L,us,_,rfl,rfl,h2,by omega, ?_⟩
 have hoL:o≠L:=λe=>by subst e;rw[h2]at h1;cases h1
 have h1':upd H L (.lst (us++ [c])) o=some (.ins C dx [("in_order",.ref L)]):=by rw[B8 hoL];exact h1
 refine⟨_,rfl,o,C,dx,_,_,rfl,h1',RC.cl,RC.ni,lk _,_,_,rfl,.inl ⟨_,SqL.of upd_same,rfl⟩,_,_,rfl,rfl,M8,λp hp=> ?_⟩
 have hpL:p≠L:=λe=>by subst e;rw[upd_same]at hp;cases hp
 have hp0:H p=none:=by rw[<-hp,B8 hpL]
 have el:(((us++ [c]).length:Nat):Int) - 1=(us.length:Nat):=by rw[length_append];simp
 show Q (.ref p) (upd (upd H L (.lst (us++ [c]))) p (.tup [.str "cell",.int ((((us++ [c]).length:Nat):Int) - 1)]))
 rw[el]
 have s2:=A5 hp (.tup [.str "cell",.int (us.length:Nat)])
 exact q p _ hp0 ((Bt.upd _).trans (.of s2)) ⟨dx,s2 _ _ h1',s2 _ _ upd_same⟩ upd_same
def ST(C:Addr):Sp:=λvs H Q _=>∃(o L:Addr) (us:List V) (v:Addr) (j:Nat) (c:V),vs=[.ref o,.ref v]/\CAt C H o L us/\H v=some (.tup [.str "cell",.int (j:Nat)])/\us[j]? =some c/\Q c H
theorem ok_at(F:Fun K "at" "Cells.at" s_at (mf "at") (md "at"))(RC:RCls K C mf md):FnOk P w K mg base CX0 1 (mf "at") (md "at") EN (ST C):=by
 refine F.ok sc_at (λvs H Q E h=> ?_) (λcdv A outer s H vs Q E hr h=> ?_)
 ·obtain⟨o,L,us,v,j,c,rfl,_⟩:=h
  rfl
 obtain⟨o,L,us,v,j,c,rfl,⟨dx,h1,h2⟩,hv,hj,q⟩:=h
 have nd:=sc_at.nd
 refine⟨_,(A9 (C0 (ixE K w (E3 (pv 0) rfl) (ixE K w (pv 1) A7)))), ?_⟩
 exact⟨_,rfl,o,C,dx,_,_,rfl,h1,RC.cl,RC.ni,lk _,_,rfl,(ixT hv rfl (ixL h2 (J2 hj) q))⟩
def XJ(C:Addr):Sp:=λvs H Q _=>∃o L us,vs=[.ref o]/\CAt C H o L us/\Q (.int (us.length:Nat)) H
theorem ok_many(F:Fun K "many" "Cells.many" s_many (mf "many") (md "many"))(B:NoG mg)(RC:RCls K C mf md):FnOk P w K mg base CX0 1 (mf "many") (md "many") G4 (XJ C):=by
 refine F.ok sc_many (λvs H Q E h=> ?_) (λcdv A outer s H vs Q E hr h=> ?_)
 ·obtain⟨o,L,us,rfl,_⟩:=h
  rfl
 obtain⟨o,L,us,rfl,⟨dx,h1,h2⟩,q⟩:=h
 have nd:=sc_many.nd
 refine⟨_,(A9 (C0 (C8 (P4 (K:=K)) rfl B.len_ L9 (A0 (E3 (pv 0) rfl) A6)))), ?_⟩
 exact⟨_,rfl,o,C,dx,_,_,rfl,h1,RC.cl,RC.ni,lk _,_,_,rfl,.inl ⟨_,SqL.of h2,rfl⟩,q⟩
def aKZ(C:Addr):Sp:=λvs H Q _=>∃o L us,vs=[.ref o]/\CAt C H o L us/\∀l,H l=none->Q (.ref l) (upd H l (.lst us))
theorem ok_told(F:Fun K "told" "Cells.told" s_told (mf "told") (md "told"))(B:NoG mg)(RC:RCls K C mf md):FnOk P w K mg base CX0 1 (mf "told") (md "told") G4 (aKZ C):=by
 refine F.ok sc_told (λvs H Q E h=> ?_) (λcdv A outer s H vs Q E hr h=> ?_)
 ·obtain⟨o,L,us,rfl,_⟩:=h
  rfl
 obtain⟨o,L,us,rfl,⟨dx,h1,h2⟩,q⟩:=h
 have nd:=sc_told.nd
 refine⟨_,(A9 (C0 (G3 (X3 (K:=K)) rfl B.list_ M2 (A0 (E3 (pv 0) rfl) A6)))), ?_⟩
 exact⟨_,rfl,o,C,dx,_,_,rfl,h1,RC.cl,RC.ni,lk _,L,us,rfl,.inl (SqL.of h2),q⟩
def XV:Sp:=λ_ _ _ _=>False
theorem ZY{CX:CXT}{k:Nat}{f:Addr}{fd:FuncData}{ps:List Str}:FnOk P w K mg base CX k f fd ps XV:=⟨λ_ _ _ _ h=>h.elim,λ_ _ _ _ _ _ _ _ _ _ _ _ _ h=>h.elim⟩
end
noncomputable abbrev s_entered:Stmt:=top 22
noncomputable abbrev s_called:Stmt:=top 24
noncomputable abbrev s_behind:Stmt:=top 25
noncomputable abbrev s_top_values:Stmt:=top 26
abbrev VC:List Str:=["blocks","number","values","begun"]
theorem sc_entered:FnScope VC ZX (B0 s_entered):=fS
abbrev VQ:List Str:=["blocks","cells","frame","row","stack","many","fn"]
theorem sc_called:FnScope VQ coZ (B0 s_called):=fS
abbrev WW:List Str:=["frame","many_taken","values","stack"]
theorem sc_behind:FnScope WW MW (B0 s_behind):=fS
abbrev KC:List Str:=["stack","many"]
theorem sc_top_values:FnScope KC aVZ (B0 s_top_values):=fS
theorem MH:4<=sizeLine:=by decide
theorem GX:0<=sizeLine:=by decide
theorem J5{K:FZ}{H:Hp}{a b:Addr}{xs ys:List V}{Q:VK}(ha:H a=some (.tup xs))(hb:H b=some (.tup ys))(hz:xs.length+ys.length<=2000)
  (go:∀r H',Same H H'->H' r=some (.tup (xs++ys))->Q (.ref r) H'):RG K (.ref a) (.ref b) H Q\/KA K (.ref a) (.ref b) H Q:=by
 have zz:(2000:Nat)<=sizeLine:=by decide
 cases xs with
 |nil=>exact .inr ⟨a,b,ys,rfl,rfl,SqT.of ha,SqT.of hb,go b H (Same.refl _) hb⟩
 |cons x xs=>
  refine .inl ⟨a,b,x::xs,ys,rfl,rfl,SqT.of ha,SqT.of hb,by simp,by omega,λe=> ?_,λe p hp=> ?_⟩
  ·subst e;exact go a H (Same.refl _) (by rw[append_nil];exact ha)
  ·exact go p _ (A5 hp _) upd_same
theorem R6{K:FZ}{H:Hp}{a:Addr}{xs:List V}{lo hi:Option Int}{Q:VK}(ha:H a=some (.tup xs))(go:∀r H',Same H H'->H' r=some (.tup (K9 xs lo hi))->Q (.ref r) H'):
  (ZP K (.ref a) lo hi H Q\/aLZ K (.ref a) lo hi H Q)\/bwZ K (.ref a) lo hi H Q:=by
 by_cases h:HT.sIx xs.length 0 lo=0/\HT.sIx xs.length xs.length hi=xs.length
 ·refine .inr ⟨a,xs,rfl,SqT.of ha,h,go a H (Same.refl _) ?_⟩
  have e:K9 xs lo hi=xs:=by unfold K9;rw[h.1,h.2];simp
  rw[e];exact ha
 ·exact .inl (.inr ⟨a,xs,rfl,SqT.of ha,h,λp hp=>go p _ (A5 hp _) upd_same⟩)
def FrAt(H:Hp)(p:Addr)(k at_:Int)(sl st:List V):Prop:=∃q e,H p=some (.tup [.int k,.int at_,.ref q,.ref e])/\H q=some (.tup sl)/\H e=some (.tup st)
theorem FrAt.mono{H H':Hp}(m:Mo H H'){p:Addr}{k at_:Int}{sl st:List V}(h:FrAt H p k at_ sl st):FrAt H' p k at_ sl st:=let⟨q,e,h1,h2,h3⟩:=h;⟨q,e,m _ _ h1,m _ _ h2,m _ _ h3⟩
def BkAt(H:Hp)(bs:List V)(k sz:Nat):Prop:=∃t c rows,bs[k]? =some (.ref t)/\H t=some (.tup [c,.int (sz:Nat),rows])
theorem BkAt.mono{H H':Hp}(m:Mo H H'){bs:List V}{k sz:Nat}(h:BkAt H bs k sz):BkAt H' bs k sz:=let⟨t,c,r,h1,h2⟩:=h;⟨t,c,r,h1,m _ _ h2⟩
section
variable{P:Program}{w:World}{K:FZ}{mg:Str->Option Value}{base:Heap}{C f:Addr}{fd:FuncData}{mf:Str->Addr}{md:Str->FuncData}{Y6 N4 P6:Addr}{Y4 N3 P7:FuncData}
def WO:Sp:=λvs H Q _=>∃(bl:Addr) (bs:List V) (k sz:Nat) (va:Addr) (xs:List V),vs=[.ref bl,.int (k:Nat),.ref va]/\H bl=some (.lst bs)/\BkAt H bs k sz/\(H va=some (.lst xs)\/H va=some (.tup xs))/\xs.length<=sz/\sz<=500/\
 ∀p H',Same H H'->FrAt H' p k 0 (xs++List.replicate (sz - xs.length) .non) []->Q (.ref p) H'
theorem ok_entered(F:Fun K "entered" "entered" s_entered f fd)(B:NoG mg):FnOk P w K mg base CX0 1 f fd ZX WO:=by
 refine F.ok sc_entered (λvs H Q E h=> ?_) (λcdv A outer s H vs Q E hr h=> ?_)
 ·obtain⟨bl,bs,k,sz,va,xs,rfl,_⟩:=h
  rfl
 obtain⟨bl,bs,k,sz,va,xs,rfl,hbl,⟨t,c,rows,hk,ht⟩,hva,hxs,hsz,q⟩:=h
 have nd:=sc_entered.nd
 refine⟨_,(A8 (G5 (C4 (i:=3) nd rfl (Or.inl rfl) (G3 (EW (K:=K)) rfl B.tuple_ N5 (A0 (pv 2) A6))))
   (A9 (C0 (B4 (A0 (pv 1) (A0 A7 (A0 (C3 (QP (K:=K)) (pv 3) (C3 (cXZ (K:=K)) (B4 (A0 S0 A6)) (C3 N6 (ixE K w (ixE K w (pv 0) (pv 1)) A7) (C8 (P4 (K:=K)) rfl B.len_ L9 (A0 (pv 3) A6))))) (A0 (B4 A6) A6)))))))), ?_⟩
 refine⟨fun σ H'=>∃b,σ=[some (.ref bl),some (.int (k:Nat)),some (.ref va),some (.ref b)]/\Same H H'/\H' b=some (.tup xs), ?_, ?_⟩
 ·rcases hva with hva|hva
  ·exact⟨_,rfl,va,xs,rfl,.inl ⟨SqL.of hva,λl hl=>⟨l,rfl,A5 hl _,upd_same⟩⟩⟩
  ·exact⟨_,rfl,va,xs,rfl,.inr ⟨SqT.of hva,va,rfl,Same.refl _,hva⟩⟩
 rintro σ H1 ⟨b,rfl,s1,hb⟩
 refine⟨_,rfl,_,rfl,BH,λt1 ht1=> ?_⟩
 have s2:=A5 ht1 (.tup [.non])
 have s12:=s1.trans s2
 refine⟨_,rfl,_,rfl,.inl ⟨bl,bs,_,_,rfl,rfl,SqL.of (s12 _ _ hbl),J2 hk,(ixT (s12 _ _ ht) rfl ⟨_,rfl,_,_,rfl,.inr ⟨_,SqT.of (s2 _ _ hb),rfl⟩,_,_,rfl,rfl,.inr ⟨t1,(sz:Int) - (xs.length:Nat),.non,rfl,rfl,SqT.of upd_same,by omega,by omega,λe=> ?_,λne p hp=> ?_⟩⟩)⟩⟩
 ·have e1:sz - xs.length=1:=by omega
  refine .inr (J5 (s2 _ _ hb) upd_same (by simp;omega) λr H3 s3 hr3=>⟨GX,λe he=>⟨MH,λp hp=> ?_⟩⟩)
  have s4:=A5 he (.tup [])
  have s5:=A5 hp (.tup [.int (k:Nat),.int 0,.ref r,.ref e])
  refine q p _ (s12.trans (s3.trans (s4.trans s5))) ⟨r,e,upd_same, ?_,s5 _ _ upd_same⟩
  rw[e1]
  exact s5 _ _ (s4 _ _ hr3)
 ·have s3:=A5 hp (.tup (List.replicate ((sz:Int) - (xs.length:Nat)).toNat .non))
  have e1:((sz:Int) - (xs.length:Nat)).toNat=sz - xs.length:=by omega
  refine .inr (J5 (s3 _ _ (s2 _ _ hb)) upd_same (by rw[length_replicate];omega) λr H3 s3' hr3=>⟨GX,λe he=>⟨MH,λp hp=> ?_⟩⟩)
  have s4:=A5 he (.tup [])
  have s5:=A5 hp (.tup [.int (k:Nat),.int 0,.ref r,.ref e])
  refine q p _ (s12.trans (s3.trans (s3'.trans (s4.trans s5)))) ⟨r,e,upd_same, ?_,s5 _ _ upd_same⟩
  rw[<-e1]
  exact s5 _ _ (s4 _ _ hr3)
def DP:Sp:=λvs H Q _=>∃(fr:Addr) (k at_:Int) (sl st:List V) (m:Nat) (va:Addr) (ws:List V),vs=[.ref fr,.int (m:Nat),.ref va]/\FrAt H fr k at_ sl st/\m<=st.length/\H va=some (.tup ws)/\st.length+ws.length<=1000/\
 ∀p H',Same H H'->FrAt H' p k (at_+1) sl (st.take (st.length - m)++ws)->Q (.ref p) H'
theorem ok_behind(F:Fun K "behind" "behind" s_behind f fd)(B:NoG mg):FnOk P w K mg base CX0 1 f fd MW DP:=by
 refine F.ok sc_behind (λvs H Q E h=> ?_) (λcdv A outer s H vs Q E hr h=> ?_)
 ·obtain⟨fr,k,at_,sl,st,m,va,ws,rfl,_⟩:=h
  rfl
 obtain⟨fr,k,at_,sl,st,m,va,ws,rfl,⟨q0,e0,h1,h2,h3⟩,hm,hva,hz,q⟩:=h
 have nd:=sc_behind.nd
 refine⟨_,(A8 (C4 (i:=3) nd rfl (Or.inl rfl) (ixE K w (pv 0) A7))
   (A9 (C0 (B4 (A0 (ixE K w (pv 0) A7) (A0 (C3 (QP (K:=K)) (ixE K w (pv 0) A7) A7) (A0 (ixE K w (pv 0) A7) (A0 (C3 (QP (K:=K)) (J1 (AM (K:=K)) (pv 3) N7 (J0 (C3 N6 (C8 (P4 (K:=K)) rfl B.len_ L9 (A0 (pv 3) A6)) (pv 1)))) (pv 2)) A6)))))))), ?_⟩
 refine⟨_,rfl,(ixT h1 rfl ?_)⟩
 refine⟨_,rfl,(ixT h1 rfl ⟨_,rfl,(ixT h1 rfl (.inl ⟨_,_,rfl,rfl,_,rfl,(ixT h1 rfl ?_)⟩))⟩)⟩
 refine⟨_,rfl,_,rfl,_,_,rfl,.inr ⟨_,SqT.of h3,rfl⟩,_,rfl,_,_,rfl,rfl,_,rfl,R6 h3 λr H1 s1 hr1=> ?_⟩
 have e1:K9 st none (some ((st.length:Int) - (m:Nat)))=st.take (st.length - m):=by
  have:(st.length:Int) - (m:Nat)=((st.length - m:Nat):Int):=by omega
  rw[this];exact PC _ _
 refine⟨_,rfl,.inr (J5 hr1 (s1 _ _ hva) (by have:=R8 st none (some ((st.length:Int) - (m:Nat)));omega) λr2 H2 s2 hr2=>⟨MH,λp hp=> ?_⟩)⟩
 have s3:=A5 hp (.tup [.int k,.int (at_+1),.ref q0,.ref r2])
 refine q p _ (s1.trans (s2.trans s3)) ⟨q0,r2,upd_same,s3 _ _ (s2 _ _ (s1 _ _ h2)), ?_⟩
 rw[<-e1]
 exact s3 _ _ hr2
def WT:Sp:=λvs H Q _=>∃(sa:Addr) (st:List V) (m:Nat),vs=[.ref sa,.int (m:Nat)]/\H sa=some (.tup st)/\m<=st.length/\∀r H',Same H H'->H' r=some (.tup (st.drop (st.length - m)))->Q (.ref r) H'
theorem ok_top_values(F:Fun K "top_values" "top_values" s_top_values f fd)(B:NoG mg):FnOk P w K mg base CX0 1 f fd aVZ WT:=by
 refine F.ok sc_top_values (λvs H Q E h=> ?_) (λcdv A outer s H vs Q E hr h=> ?_)
 ·obtain⟨sa,st,m,rfl,_⟩:=h
  rfl
 obtain⟨sa,st,m,rfl,hs,hm,q⟩:=h
 have nd:=sc_top_values.nd
 refine⟨_,(A9 (C0 (J1 (AM (K:=K)) (pv 0) (J0 (C3 N6 (C8 (P4 (K:=K)) rfl B.len_ L9 (A0 (pv 0) A6)) (pv 1))) N7))), ?_⟩
 refine⟨_,rfl,_,rfl,_,_,rfl,.inr ⟨_,SqT.of hs,rfl⟩,_,rfl,_,_,rfl,rfl,_,rfl,R6 hs λr H1 s1 hr1=>q r H1 s1 ?_⟩
 have e1:K9 st (some ((st.length:Int) - (m:Nat))) none=st.drop (st.length - m):=by
  have:(st.length:Int) - (m:Nat)=((st.length - m:Nat):Int):=by omega
  rw[this];exact FL _ _
 rw[<-e1]
 exact hr1
end
theorem beZ{α:Type}(xs:List α)(u v:α):atI (xs++ [u,v]) (-2)=some u:=by
 have h1:¬(0:Int)<= -2:=by decide
 have h2: -((xs++ [u,v]).length:Int)<= -2:=by simp;omega
 have h3:((-2:Int)+((xs++ [u,v]).length:Nat)).toNat=xs.length:=by simp;omega
 unfold atI ixN
 rw[if_neg h1,if_pos h2]
 show(xs++ [u,v])[((-2:Int)+((xs++ [u,v]).length:Nat)).toNat]? =some u
 rw[h3]
 simp
theorem b2Z(xs:List V)(v:V):K9 (xs++ [v]) (some (-1)) none=[v]:=by
 have h:HT.sIx (xs++ [v]).length 0 (some (-1))=xs.length:=by
  show(if(-1:Int)<0 then((-1:Int)+((xs++ [v]).length:Nat)).toNat else min (-1:Int).toNat (xs++ [v]).length)=xs.length
  rw[if_pos (by decide)]
  simp
  omega
 unfold K9
 rw[h,HT.sIx_none]
 simp
section
variable{P:Program}{w:World}{K:FZ}{mg:Str->Option Value}{base:Heap}{C f:Addr}{fd:FuncData}{mf:Str->Addr}{md:Str->FuncData}{Y6 N4 P6:Addr}{Y4 N3 P7:FuncData}
def Two(H:Hp)(Q:VK)(k at_:Int)(sl bel:List V)(wh:Nat)(ys:List V)(sz:Nat):Prop:=
 ∀p p1 p2 H',Same H H'->H' p=some (.tup [.ref p1,.ref p2])->FrAt H' p1 k (at_+1) sl bel->FrAt H' p2 wh 0 (ys++List.replicate (sz - ys.length) .non) []->Q (.ref p) H'
def bpZ(C:Addr):Sp:=λvs H Q _=>∃(bl:Addr) (bs:List V) (o L:Addr) (us:List V) (fr:Addr) (k at_:Int) (sl st:List V) (r:Addr),vs=[.ref bl,.ref o,.ref fr,.ref r]/\H bl=some (.lst bs)/\CAt C H o L us/\FrAt H fr k at_ sl st/\st.length<=500/\
 ((∃wh m sz:Nat,H r=some (.tup [.str "call",.int (wh:Nat),.int (m:Nat)])/\m<=st.length/\BkAt H bs wh sz/\m<=sz/\sz<=500/\Two H Q k at_ sl (st.take (st.length - m)) wh (st.drop (st.length - m)) sz)\/
  (∃(wh sz:Nat) (bel:List V) (cv:Addr) (x:V) (j:Nat) (fc vt:Addr) (xs:List V),H r=some (.tup [.str "apply"])/\st=bel++ [.ref cv,x]/\H cv=some (.tup [.str "cell",.int (j:Nat)])/\us[j]? =some (.ref fc)/\H fc=some (.tup [.str "fn",.int (wh:Nat),.ref vt])/\H vt=some (.tup xs)/\BkAt H bs wh sz/\xs.length+1<=sz/\sz<=500/\
   Two H Q k at_ sl bel wh (xs++ [x]) sz))
theorem ok_called(F:Fun K "called" "called" s_called f fd)(B:NoG mg)(RC:RCls K C mf md)(FB:FnOk P w K mg base CX0 1 (mf "at") (md "at") EN (ST C))
  (N0:Cn P w K mg base CX0 1 "entered" ZX WO)
  (D5:Cn P w K mg base CX0 1 "behind" MW DP)
  (K5:Cn P w K mg base CX0 1 "top_values" aVZ WT):
  FnOk P w K mg base CX0 2 f fd coZ (bpZ C):=by
 obtain⟨Y6,Y4,N0,Y0,Y3,Y5⟩:=N0
 obtain⟨N4,N3,D5,G7,G8,G9⟩:=D5
 obtain⟨P6,P7,K5,U3,U0,U1⟩:=K5
 refine F.ok sc_called (λvs H Q E h=> ?_) (λcdv A outer s H vs Q E hr h=> ?_)
 ·obtain⟨bl,bs,o,L,us,fr,k,at_,sl,st,r,rfl,_⟩:=h
  rfl
 obtain⟨bl,bs,o,L,us,fr,k,at_,sl,st,r,rfl,hbl,hC,hF,hz,hor⟩:=h
 have nd:=sc_called.nd
 have hu:=hr.units0
 obtain⟨q0,e0,h1,h2,h3⟩:=id hF
 refine⟨_,(A8 (C4 (i:=4) nd rfl (Or.inl rfl) (ixE K w (pv 2) A7))
   (A8 (D8 (C7 (kEq (K:=K) hu) (ixE K w (pv 3) A7) B6 rfl) (A8 (C4 (i:=5) nd rfl (Or.inl rfl) (ixE K w (pv 3) A7))
   (A9 (C0 (B4 (A0 (B9 D5 (hr.mono (by omega)) rfl G9 G8 G7 .nil C2 (A0 (pv 2) (A0 (pv 5) (A0 (B4 A6) A6)))) (A0 (B9 N0 (hr.mono (by omega)) rfl Y5 Y3 Y0 .nil C2 (A0 (pv 0) (A0 (ixE K w (pv 3) A7) (A0 (B9 K5 (hr.mono (by omega)) rfl U1 U0 U3 .nil C2 (A0 (pv 4) (A0 (pv 5) A6))) A6)))) A6)))))) C9)
   (A8 (C4 (i:=6) nd rfl (Or.inl rfl) (K1 (pv 1) RC.cl RC.m_at FB (hr.mono (by omega)) RC.b_at .nil C2 (A0 (ixE K w (pv 4) (P5 M3 A7)) A6)))
   (A9 (C0 (B4 (A0 (B9 D5 (hr.mono (by omega)) rfl G9 G8 G7 .nil C2 (A0 (pv 2) (A0 A7 (A0 (B4 A6) A6)))) (A0 (B9 N0 (hr.mono (by omega)) rfl Y5 Y3 Y0 .nil C2 (A0 (pv 0) (A0 (ixE K w (pv 6) A7) (A0 (C3 (QP (K:=K)) (ixE K w (pv 6) A7) (J1 (AM (K:=K)) (pv 4) (J0 (P5 M3 A7)) N7)) A6)))) A6)))))))), ?_⟩
 refine⟨_,rfl,(ixT h1 rfl ?_)⟩
 rcases hor with⟨wh,m,sz,hr1,hm,hB,hms,hsz,q⟩|⟨wh,sz,bel,cv,x,j,fc,vt,xs,hr1,rfl,hcv,hj,hfc,hvt,hB,hxs,hsz,q⟩
 ·refine⟨_,rfl,(ixT hr1 rfl (.inl ⟨rfl,_,rfl,ifT (by decide) ?_⟩))⟩
  refine⟨_,rfl,(ixT hr1 rfl ?_)⟩
  refine⟨_,rfl,_,rfl,GX,λe he=> ?_⟩
  have s1:=A5 he (.tup [])
  refine⟨fr,k,at_,sl,st,m,e,[],rfl,hF.mono (B5 s1),hm,upd_same,by simp;omega,λp1 H1 s2 hp1=> ?_⟩
  rw[append_nil]at hp1
  have s12:=s1.trans s2
  refine⟨_,rfl,_,rfl,(ixT (s12 _ _ hr1) rfl ⟨_,rfl,_,rfl,e0,st,m,rfl,s12 _ _ h3,hm,λt2 H2 s3 ht2=> ?_⟩)⟩
  refine⟨bl,bs,wh,sz,t2,_,rfl,s3 _ _ (s12 _ _ hbl),hB.mono (B5 (s12.trans s3)),.inr ht2,by rw[length_drop];omega,hsz,λp2 H3 s4 hp2=>⟨M8,λp hp=> ?_⟩⟩
  have s5:=A5 hp (.tup [.ref p1,.ref p2])
  exact q p p1 p2 _ (s12.trans (s3.trans (s4.trans s5))) upd_same (hp1.mono (B5 (s3.trans (s4.trans s5)))) (hp2.mono (B5 s5))
 ·refine⟨_,rfl,(ixT hr1 rfl (.inl ⟨rfl,_,rfl,ifF (by decide) ?_⟩))⟩
  obtain⟨dx,i1,i2⟩:=id hC
  refine⟨_,rfl,o,dx,_,rfl,i1,rfl,_,rfl,_,rfl,(ixT h3 (beZ _ _ _) ⟨o,L,us,cv,j,_,rfl,hC,hcv,hj, ?_⟩)⟩
  refine⟨_,rfl,GX,λe he=> ?_⟩
  have s1:=A5 he (.tup [])
  refine⟨fr,k,at_,sl,_,2,e,[],rfl,hF.mono (B5 s1),by simp,upd_same,by simp at hz⊢;omega,λp1 H1 s2 hp1=> ?_⟩
  have e1:(bel++ [.ref cv,x]).take ((bel++ [.ref cv,x]).length - 2)++ []=bel:=by simp
  rw[e1]at hp1
  have s12:=s1.trans s2
  refine⟨_,rfl,_,rfl,(ixT (s12 _ _ hfc) rfl ⟨_,rfl,(ixT (s12 _ _ hfc) rfl ⟨_,rfl,_,rfl,_,rfl,R6 (s12 _ _ h3) λt2 H2 s3 ht2=> ?_⟩)⟩)⟩
  have e2:K9 (bel++ [.ref cv,x]) (some (-1)) none=[x]:=by
   have:bel++ [.ref cv,x]=(bel++ [.ref cv])++ [x]:=by simp
   rw[this];exact b2Z _ _
  rw[e2]at ht2
  refine .inr (J5 (s3 _ _ (s12 _ _ hvt)) ht2 (by simp;omega) λt3 H3 s4 ht3=> ?_)
  have s34:=s12.trans (s3.trans s4)
  refine⟨bl,bs,wh,sz,t3,_,rfl,s34 _ _ hbl,hB.mono (B5 s34),.inr ht3,by simp;omega,hsz,λp2 H4 s5 hp2=>⟨M8,λp hp=> ?_⟩⟩
  have s6:=A5 hp (.tup [.ref p1,.ref p2])
  exact q p p1 p2 _ (s34.trans (s5.trans s6)) upd_same (hp1.mono (B5 (s3.trans (s4.trans (s5.trans s6))))) (hp2.mono (B5 s6))
end
noncomputable abbrev s_two_done:Stmt:=top 27
noncomputable abbrev s_part_done:Stmt:=top 28
noncomputable abbrev s_with_new_cell:Stmt:=top 29
noncomputable abbrev s_with_nothing_put:Stmt:=top 30
noncomputable abbrev s_with_slot:Stmt:=top 31
noncomputable abbrev s_further:Stmt:=top 32
noncomputable abbrev s_value_put:Stmt:=top 33
abbrev QD:List Str:=["frame","sign","stack","told"]
theorem sc_two_done:FnScope QD ["frame","sign"] (B0 s_two_done):=fS
abbrev NH:List Str:=["cells","frame","word","top","pair"]
theorem sc_part_done:FnScope NH bQZ (B0 s_part_done):=fS
abbrev ER:List Str:=["cells","frame","row","stack","many"]
theorem sc_with_new_cell:FnScope ER UW (B0 s_with_new_cell):=fS
abbrev AH:List Str:=["frame","row"]
theorem sc_with_nothing_put:FnScope AH VB (B0 s_with_nothing_put):=fS
abbrev MD:List Str:=["frame","slot","value","slots"]
theorem sc_with_slot:FnScope MD b7Z (B0 s_with_slot):=fS
abbrev SU:List Str:=["frame","many_rows"]
theorem sc_further:FnScope SU cfZ (B0 s_further):=fS
abbrev MB:List Str:=["frame","row"]
theorem sc_value_put:FnScope MB VB (B0 s_value_put):=fS
theorem dpZ{α:Type}(xs:List α)(u v:α):atI (xs++ [u,v]) (-1)=some v:=by
 have:xs++ [u,v]=(xs++ [u])++ [v]:=by simp
 rw[this];exact M4 _ _
theorem bRZ(xs:List V)(u v:V):K9 (xs++ [u,v]) (some (-2)) none=[u,v]:=by
 have h:HT.sIx (xs++ [u,v]).length 0 (some (-2))=xs.length:=by
  show(if(-2:Int)<0 then((-2:Int)+((xs++ [u,v]).length:Nat)).toNat else min (-2:Int).toNat (xs++ [u,v]).length)=xs.length
  rw[if_pos (by decide)]
  simp
  omega
 unfold K9
 rw[h,HT.sIx_none]
 simp
section
variable{P:Program}{w:World}{K:FZ}{mg:Str->Option Value}{base:Heap}{C f:Addr}{fd:FuncData}{mf:Str->Addr}{md:Str->FuncData}{ON N4 P6 LH SI:Addr}{OD N3 P7 KU SC:FuncData}
def c7Z:Sp:=λvs H Q _=>∃(fr:Addr) (k at_:Int) (sl st:List V) (g:Nat) (a b:Int),vs=[.ref fr,.str (NM.sg g)]/\FrAt H fr k at_ sl (st++ [.int a,.int b])/\st.length<=100/\g<6/\Bd a/\Bd b/\
 (∀v p q H',NM.tw g a b=[.str "value",v]->Same H H'->H' p=some (.tup [.str "frame",.ref q])->FrAt H' q k (at_+1) sl (st++ [v])->Q (.ref p) H')/\
 (∀w p H',NM.tw g a b=[.str "refused",.str w]->Same H H'->H' p=some (.tup [.str "refused",.str w])->Q (.ref p) H')
theorem ok_two_done(F:Fun K "two_done" "two_done" s_two_done f fd)
  (AA:Cn P w K mg base CX0 2 "two_told" UE NM.spTwo)
  (D5:Cn P w K mg base CX0 1 "behind" MW DP):
  FnOk P w K mg base CX0 3 f fd ["frame","sign"] c7Z:=by
 obtain⟨ON,OD,AA,NP,OC,OH⟩:=AA
 obtain⟨N4,N3,D5,G7,G8,G9⟩:=D5
 refine F.ok sc_two_done (λvs H Q E h=> ?_) (λcdv A outer s H vs Q E hr h=> ?_)
 ·obtain⟨fr,k,at_,sl,st,g,a,b,rfl,_⟩:=h
  rfl
 obtain⟨fr,k,at_,sl,st,g,a,b,rfl,hF,hz,hg,ha,hb,q1,q2⟩:=h
 have nd:=sc_two_done.nd
 have hu:=hr.units0
 obtain⟨q0,e0,h1,h2,h3⟩:=id hF
 refine⟨_,(A8 (C4 (i:=2) nd rfl (Or.inl rfl) (ixE K w (pv 0) A7))
   (A8 (C4 (i:=3) nd rfl (Or.inl rfl) (B9 AA (hr.mono (by omega)) rfl OH OC NP .nil C2 (A0 (pv 1) (A0 (ixE K w (pv 2) (P5 M3 A7)) (A0 (ixE K w (pv 2) (P5 M3 A7)) A6)))))
   (A8 (D8 (C7 (kEq (K:=K) hu) (ixE K w (pv 3) A7) B6 rfl) (A9 (C0 (pv 3))) C9)
   (A9 (C0 (B4 (A0 B6 (A0 (B9 D5 (hr.mono (by omega)) rfl G9 G8 G7 .nil C2 (A0 (pv 0) (A0 A7 (A0 (J1 (AM (K:=K)) (pv 3) (J0 A7) N7) A6)))) A6)))))))), ?_⟩
 refine⟨_,rfl,(ixT h1 rfl ?_)⟩
 refine⟨_,rfl,_,rfl,_,rfl,(ixT h3 (beZ _ _ _) ⟨_,rfl,_,rfl,(ixT h3 (dpZ _ _ _) ⟨g,a,b,rfl,hg,ha.mul hb,hb.log,λr H1 s1 hr1=> ?_⟩)⟩)⟩
 rcases WS hg a b with⟨v,hv,e⟩|⟨wd',e⟩
 ·rw[e]at hr1
  refine⟨_,rfl,(ixT hr1 rfl (.inl ⟨rfl,_,rfl,ifF (by decide) ?_⟩))⟩
  refine⟨_,rfl,_,rfl,1,rfl,R6 hr1 λt H2 s2 ht=> ?_⟩
  have e1:K9 [V.str "value",v] (some 1) none=[v]:=FL _ 1
  rw[e1]at ht
  refine⟨fr,k,at_,sl,_,2,t,[v],rfl,hF.mono (B5 (s1.trans s2)),by simp,ht,by simp;omega,λq H3 s3 hq=>⟨M8,λp hp=> ?_⟩⟩
  have e2:(st++ [V.int a,.int b]).take ((st++ [V.int a,.int b]).length - 2)=st:=by simp
  rw[e2]at hq
  have s4:=A5 hp (.tup [.str "frame",.ref q])
  exact q1 v p q _ e (s1.trans (s2.trans (s3.trans s4))) upd_same (hq.mono (B5 s4))
 ·rw[e]at hr1
  refine⟨_,rfl,(ixT hr1 rfl (.inl ⟨rfl,_,rfl,ifT (by decide) ?_⟩))⟩
  exact⟨_,rfl,q2 wd' r H1 e s1 hr1⟩
def dgZ(C:Addr):Sp:=λvs H Q _=>∃(o L:Addr) (us:List V) (fr:Addr) (k at_:Int) (sl st:List V) (x:V) (tl:Bool),vs=[.ref o,.ref fr,.str (if tl=true then "tail"else "head")]/\CAt C H o L us/\FrAt H fr k at_ sl (st++ [x])/\st.length<=100/\
 ((x=.non/\∀p H',Same H H'->H' p=some (.tup [.str "refused",.str (if tl=true then "tail"else "head")])->Q (.ref p) H')\/
  (∃(cv c:Addr) (j:Nat) (h t:V),x=.ref cv/\H cv=some (.tup [.str "cell",.int (j:Nat)])/\us[j]? =some (.ref c)/\H c=some (.tup [.str "pair",h,t])/\
   ∀p q H',Same H H'->H' p=some (.tup [.str "frame",.ref q])->FrAt H' q k (at_+1) sl (st++ [if tl=true then t else h])->Q (.ref p) H'))
theorem ok_part_done(F:Fun K "part_done" "part_done" s_part_done f fd)(RC:RCls K C mf md)(FB:FnOk P w K mg base CX0 1 (mf "at") (md "at") EN (ST C))
  (D5:Cn P w K mg base CX0 1 "behind" MW DP):
  FnOk P w K mg base CX0 2 f fd bQZ (dgZ C):=by
 obtain⟨N4,N3,D5,G7,G8,G9⟩:=D5
 refine F.ok sc_part_done (λvs H Q E h=> ?_) (λcdv A outer s H vs Q E hr h=> ?_)
 ·obtain⟨o,L,us,fr,k,at_,sl,st,x,tl,rfl,_⟩:=h
  rfl
 obtain⟨o,L,us,fr,k,at_,sl,st,x,tl,rfl,hC,hF,hz,hor⟩:=h
 have nd:=sc_part_done.nd
 have hu:=hr.units0
 obtain⟨q0,e0,h1,h2,h3⟩:=id hF
 obtain⟨dx,i1,i2⟩:=id hC
 refine⟨_,(A8 (C4 (i:=3) nd rfl (Or.inl rfl) (ixE K w (ixE K w (pv 1) A7) (P5 M3 A7)))
   (A8 (D8 (C7 KS (pv 3) S0 rfl) (A9 (C0 (B4 (A0 B6 (A0 (pv 2) A6))))) C9)
   (A8 (C4 (i:=4) nd rfl (Or.inl rfl) (K1 (pv 0) RC.cl RC.m_at FB (hr.mono (by omega)) RC.b_at .nil C2 (A0 (pv 3) A6)))
   (A9 (C0 (B4 (A0 B6 (A0 (B9 D5 (hr.mono (by omega)) rfl G9 G8 G7 .nil C2 (A0 (pv 1) (A0 A7 (A0 (B4 (A0 (Q4 (C7 (kEq (K:=K) hu) (pv 2) B6 rfl) (ixE K w (pv 4) A7) (ixE K w (pv 4) A7)) A6)) A6)))) A6)))))))), ?_⟩
 refine⟨_,rfl,(ixT h1 rfl ⟨_,rfl,(ixT h3 (M4 _ _) ?_)⟩)⟩
 rcases hor with⟨rfl,q⟩|⟨cv,c,j,hh,tt,rfl,hcv,hj,hc,q⟩
 ·exact⟨_,rfl,rfl,_,rfl,ifT (by decide) ⟨_,rfl,M8,λp hp=>q p _ (A5 hp _) upd_same⟩⟩
 ·refine⟨_,rfl,rfl,_,rfl,ifF (by simp) ?_⟩
  refine⟨_,rfl,o,dx,_,rfl,i1,rfl,_,rfl,o,L,us,cv,j,_,rfl,hC,hcv,hj, ?_⟩
  have e2:(st++ [V.ref cv]).take ((st++ [V.ref cv]).length - 1)=st:=by simp
  cases tl with
  |false=>
   refine⟨_,rfl,_,rfl,.inl ⟨rfl,_,rfl,ifT (by decide) ⟨_,rfl,(ixT hc rfl ⟨BH,λt1 ht1=> ?_⟩)⟩⟩⟩
   have s1:=A5 ht1 (.tup [hh])
   refine⟨fr,k,at_,sl,_,1,t1,[hh],rfl,hF.mono (B5 s1),by simp,upd_same,by simp;omega,λq1 H3 s3 hq=>⟨M8,λp hp=> ?_⟩⟩
   rw[e2]at hq
   have s4:=A5 hp (.tup [.str "frame",.ref q1])
   exact q p q1 _ (s1.trans (s3.trans s4)) upd_same (hq.mono (B5 s4))
  |true=>
   refine⟨_,rfl,_,rfl,.inl ⟨rfl,_,rfl,ifF (by decide) ⟨_,rfl,(ixT hc rfl ⟨BH,λt1 ht1=> ?_⟩)⟩⟩⟩
   have s1:=A5 ht1 (.tup [tt])
   refine⟨fr,k,at_,sl,_,1,t1,[tt],rfl,hF.mono (B5 s1),by simp,upd_same,by simp;omega,λq1 H3 s3 hq=>⟨M8,λp hp=> ?_⟩⟩
   rw[e2]at hq
   have s4:=A5 hp (.tup [.str "frame",.ref q1])
   exact q p q1 _ (s1.trans (s3.trans s4)) upd_same (hq.mono (B5 s4))
def dbZ(C:Addr):Sp:=λvs H Q _=>∃(o L:Addr) (us:List V) (fr:Addr) (k at_:Int) (sl st:List V) (r:Addr),vs=[.ref o,.ref fr,.ref r]/\CAt C H o L us/\us.length<=500/\st.length<=100/\
 ((∃x y,H r=some (.tup [.str "cons"])/\FrAt H fr k at_ sl (st++ [x,y])/\∀q c cv H',Bt L H H'->CAt C H' o L (us++ [.ref c])->H' c=some (.tup [.str "pair",x,y])->H' cv=some (.tup [.str "cell",.int (us.length:Nat)])->FrAt H' q k (at_+1) sl (st++ [.ref cv])->Q (.ref q) H')\/
  (∃(b n:Nat) (xs:List V),H r=some (.tup [.str "close",.int (b:Nat),.int (n:Nat)])/\FrAt H fr k at_ sl (st++xs)/\xs.length=n/\n<=100/\∀q c cv vt H',Bt L H H'->CAt C H' o L (us++ [.ref c])->H' c=some (.tup [.str "fn",.int (b:Nat),.ref vt])->H' vt=some (.tup xs)->H' cv=some (.tup [.str "cell",.int (us.length:Nat)])->FrAt H' q k (at_+1) sl (st++ [.ref cv])->Q (.ref q) H'))
theorem ok_with_new_cell(F:Fun K "with_new_cell" "with_new_cell" s_with_new_cell f fd)(RC:RCls K C mf md)(QF:FnOk P w K mg base CX0 1 (mf "put") (md "put") XO (XL C))
  (D5:Cn P w K mg base CX0 1 "behind" MW DP)
  (K5:Cn P w K mg base CX0 1 "top_values" aVZ WT):
  FnOk P w K mg base CX0 2 f fd UW (dbZ C):=by
 obtain⟨N4,N3,D5,G7,G8,G9⟩:=D5
 obtain⟨P6,P7,K5,U3,U0,U1⟩:=K5
 refine F.ok sc_with_new_cell (λvs H Q E h=> ?_) (λcdv A outer s H vs Q E hr h=> ?_)
 ·obtain⟨o,L,us,fr,k,at_,sl,st,r,rfl,_⟩:=h
  rfl
 obtain⟨o,L,us,fr,k,at_,sl,st,r,rfl,hC,hul,hz,hor⟩:=h
 have nd:=sc_with_new_cell.nd
 have hu:=hr.units0
 obtain⟨dx,i1,i2⟩:=id hC
 refine⟨_,(A8 (C4 (i:=3) nd rfl (Or.inl rfl) (ixE K w (pv 1) A7))
   (A8 (D8 (C7 (kEq (K:=K) hu) (ixE K w (pv 2) A7) B6 rfl) (A9 (C0 (B9 D5 (hr.mono (by omega)) rfl G9 G8 G7 .nil C2 (A0 (pv 1) (A0 A7 (A0 (B4 (A0 (K1 (pv 0) RC.cl RC.m_put QF (hr.mono (by omega)) RC.b_put .nil C2 (A0 (C3 (N2 (K:=K)) (B4 (A0 B6 A6)) (J1 (AM (K:=K)) (pv 3) (J0 (P5 M3 A7)) N7)) A6)) A6)) A6)))))) C9)
   (A8 (C4 (i:=4) nd rfl (Or.inl rfl) (ixE K w (pv 2) A7))
   (A9 (C0 (B9 D5 (hr.mono (by omega)) rfl G9 G8 G7 .nil C2 (A0 (pv 1) (A0 (pv 4) (A0 (B4 (A0 (K1 (pv 0) RC.cl RC.m_put QF (hr.mono (by omega)) RC.b_put .nil C2 (A0 (B4 (A0 B6 (A0 (ixE K w (pv 2) A7) (A0 (B9 K5 (hr.mono (by omega)) rfl U1 U0 U3 .nil C2 (A0 (pv 3) (A0 (pv 4) A6))) A6)))) A6)) A6)) A6))))))))), ?_⟩
 rcases hor with⟨x,y,hr1,hF,q⟩|⟨b,n,xs,hr1,hF,hn,hn1,q⟩
 ·obtain⟨q0,e0,h1,h2,h3⟩:=id hF
  refine⟨_,rfl,(ixT h1 rfl ?_)⟩
  refine⟨_,rfl,(ixT hr1 rfl (.inl ⟨rfl,_,rfl,ifT (by decide) ?_⟩))⟩
  refine⟨_,rfl,_,rfl,o,dx,_,rfl,i1,rfl,BH,λt1 ht1=> ?_⟩
  have s1:=A5 ht1 (.tup [.str "pair"])
  refine⟨_,rfl,_,rfl,_,rfl,R6 (s1 _ _ h3) λt2 H2 s2 ht2=> ?_⟩
  rw[bRZ]at ht2
  refine .inr (.inr (J5 (s2 _ _ upd_same) ht2 (by simp) λt3 H3 s3 ht3=> ?_))
  have s13:=s1.trans (s2.trans s3)
  refine⟨o,L,us,_,rfl,hC.same s13,by omega,λcv H4 hcv0 k4 hC4 hcv=>⟨BH,λt5 ht5=> ?_⟩⟩
  have m4:Mo H3 H4:=k4.tups (s13 _ _ i2)
  have s5:=A5 ht5 (.tup [.ref cv])
  refine⟨fr,k,at_,sl,_,2,t5,[.ref cv],rfl,((hF.mono (B5 s13)).mono m4).mono (B5 s5),by simp,upd_same,by simp;omega,λq1 H6 s6 hq=> ?_⟩
  have e2:(st++ [x,y]).take ((st++ [x,y]).length - 2)=st:=by simp
  rw[e2]at hq
  have s56:=s5.trans s6
  exact q q1 t3 cv H6 (λb o' hb hne=>s56 _ _ (k4 _ _ (s13 _ _ hb) hne)) (hC4.same s56) (s56 _ _ (m4 _ _ ht3)) (s56 _ _ hcv) hq
 ·obtain⟨q0,e0,h1,h2,h3⟩:=id hF
  refine⟨_,rfl,(ixT h1 rfl ?_)⟩
  refine⟨_,rfl,(ixT hr1 rfl (.inl ⟨rfl,_,rfl,ifF (by decide) ?_⟩))⟩
  refine⟨_,rfl,(ixT hr1 rfl ?_)⟩
  refine⟨_,rfl,_,rfl,_,rfl,o,dx,_,rfl,i1,rfl,_,rfl,(ixT hr1 rfl ⟨_,rfl,_,rfl,e0,st++xs,n,rfl,h3,by simp;omega,λvt H2 s2 hvt=>⟨PK,λt3 ht3=> ?_⟩⟩)⟩
  have e1:(st++xs).drop ((st++xs).length - n)=xs:=by
   have:(st++xs).length - n=st.length:=by simp;omega
   rw[this,List.drop_left]
  rw[e1]at hvt
  have s3:=A5 ht3 (.tup [.str "fn",.int (b:Nat),.ref vt])
  have s13:=s2.trans s3
  refine⟨o,L,us,_,rfl,hC.same s13,by omega,λcv H4 hcv0 k4 hC4 hcv=>⟨BH,λt5 ht5=> ?_⟩⟩
  have m4:Mo _ H4:=k4.tups (s13 _ _ i2)
  have s5:=A5 ht5 (.tup [.ref cv])
  refine⟨fr,k,at_,sl,_,n,t5,[.ref cv],rfl,((hF.mono (B5 s13)).mono m4).mono (B5 s5),by simp;omega,upd_same,by simp;omega,λq1 H6 s6 hq=> ?_⟩
  have e2:(st++xs).take ((st++xs).length - n)=st:=by
   have:(st++xs).length - n=st.length:=by simp;omega
   rw[this,List.take_left]
  rw[e2]at hq
  have s56:=s5.trans s6
  exact q q1 t3 cv vt H6 (λb o' hb hne=>s56 _ _ (k4 _ _ (s13 _ _ hb) hne)) (hC4.same s56) (s56 _ _ (m4 _ _ upd_same)) (s56 _ _ (m4 _ _ (s3 _ _ hvt))) (s56 _ _ hcv) hq
def c3Z:Sp:=λvs H Q _=>∃(fr:Addr) (k at_:Int) (sl st:List V) (j:Nat) (v:V),vs=[.ref fr,.int (j:Nat),v]/\FrAt H fr k at_ sl st/\sl.length<=500/\∀p H',Same H H'->FrAt H' p k at_ (sl.take j++ [v]++sl.drop (j+1)) st->Q (.ref p) H'
theorem ok_with_slot(F:Fun K "with_slot" "with_slot" s_with_slot f fd):FnOk P w K mg base CX0 1 f fd b7Z c3Z:=by
 refine F.ok sc_with_slot (λvs H Q E h=> ?_) (λcdv A outer s H vs Q E hr h=> ?_)
 ·obtain⟨fr,k,at_,sl,st,j,v,rfl,_⟩:=h
  rfl
 obtain⟨fr,k,at_,sl,st,j,v,rfl,⟨q0,e0,h1,h2,h3⟩,hz,q⟩:=h
 have nd:=sc_with_slot.nd
 refine⟨_,(A8 (C4 (i:=3) nd rfl (Or.inl rfl) (ixE K w (pv 0) A7))
   (A9 (C0 (B4 (A0 (ixE K w (pv 0) A7) (A0 (ixE K w (pv 0) A7) (A0 (C3 (N2 (K:=K)) (C3 (N2 (K:=K)) (J1 (AM (K:=K)) (pv 3) N7 (J0 (pv 1))) (B4 (A0 (pv 2) A6))) (J1 (AM (K:=K)) (pv 3) (J0 (C3 (N2 (K:=K)) (pv 1) A7)) N7)) (A0 (ixE K w (pv 0) A7) A6)))))))), ?_⟩
 refine⟨_,rfl,(ixT h1 rfl ?_)⟩
 refine⟨_,rfl,(ixT h1 rfl ⟨_,rfl,(ixT h1 rfl ?_)⟩)⟩
 refine⟨_,rfl,_,rfl,_,rfl,R6 h2 λt1 H1 s1 ht1=>⟨_,rfl,BH,λt2 ht2=> ?_⟩⟩
 have e1:K9 sl none (some ((j:Nat):Int))=sl.take j:=PC _ _
 rw[e1]at ht1
 have s2:=A5 ht2 (.tup [v])
 refine .inr (.inr (J5 (s2 _ _ ht1) upd_same (by simp;omega) λt3 H3 s3 ht3=> ?_))
 have s13:=s1.trans (s2.trans s3)
 refine⟨_,rfl,_,rfl,.inl ⟨_,_,rfl,rfl,_,rfl,R6 (s13 _ _ h2) λt4 H4 s4 ht4=> ?_⟩⟩
 have e2:K9 sl (some (((j:Nat):Int)+1)) none=sl.drop (j+1):=FL sl (j+1)
 rw[e2]at ht4
 refine .inr (.inr (J5 (s4 _ _ ht3) ht4 (by simp;omega) λt5 H5 s5 ht5=> ?_))
 have s15:=s13.trans (s4.trans s5)
 refine⟨_,rfl,(ixT (s15 _ _ h1) rfl ⟨MH,λp hp=> ?_⟩)⟩
 have s6:=A5 hp (.tup [.int k,.int at_,.ref t5,.ref e0])
 exact q p _ (s15.trans s6) ⟨t5,e0,upd_same,s6 _ _ ht5,s6 _ _ (s15 _ _ h3)⟩
def cGZ:Sp:=λvs H Q _=>∃(fr:Addr) (k at_:Int) (sl st:List V) (m:Int),vs=[.ref fr,.int m]/\FrAt H fr k at_ sl st/\∀p H',Same H H'->FrAt H' p k (at_+m) sl st->Q (.ref p) H'
theorem ok_further(F:Fun K "further" "further" s_further f fd):FnOk P w K mg base CX0 1 f fd cfZ cGZ:=by
 refine F.ok sc_further (λvs H Q E h=> ?_) (λcdv A outer s H vs Q E hr h=> ?_)
 ·obtain⟨fr,k,at_,sl,st,m,rfl,_⟩:=h
  rfl
 obtain⟨fr,k,at_,sl,st,m,rfl,⟨q0,e0,h1,h2,h3⟩,q⟩:=h
 have nd:=sc_further.nd
 refine⟨_,(A9 (C0 (B4 (A0 (ixE K w (pv 0) A7) (A0 (C3 (N2 (K:=K)) (ixE K w (pv 0) A7) (pv 1)) (A0 (ixE K w (pv 0) A7) (A0 (ixE K w (pv 0) A7) A6))))))), ?_⟩
 refine⟨_,rfl,(ixT h1 rfl ⟨_,rfl,(ixT h1 rfl ⟨_,rfl,.inl ⟨_,_,rfl,rfl,_,rfl,(ixT h1 rfl ⟨_,rfl,(ixT h1 rfl ⟨MH,λp hp=> ?_⟩)⟩)⟩⟩)⟩)⟩
 have s6:=A5 hp (.tup [.int k,.int (at_+m),.ref q0,.ref e0])
 exact q p _ s6 ⟨q0,e0,upd_same,s6 _ _ h2,s6 _ _ h3⟩
def dlZ:Sp:=λvs H Q _=>∃(fr:Addr) (k at_:Int) (sl st:List V) (r:Addr),vs=[.ref fr,.ref r]/\FrAt H fr k at_ sl st/\
 ((∃v,H r=some (.tup [.str "push",v])/\Q v H)\/(H r=some (.tup [.str "none"])/\Q .non H)\/(∃(j:Nat) (v:V),H r=some (.tup [.str "load",.int (j:Nat)])/\sl[j]? =some v/\Q v H))
theorem ok_value_put(F:Fun K "value_put" "value_put" s_value_put f fd):FnOk P w K mg base CX0 1 f fd VB dlZ:=by
 refine F.ok sc_value_put (λvs H Q E h=> ?_) (λcdv A outer s H vs Q E hr h=> ?_)
 ·obtain⟨fr,k,at_,sl,st,r,rfl,_⟩:=h
  rfl
 obtain⟨fr,k,at_,sl,st,r,rfl,⟨q0,e0,h1,h2,h3⟩,hor⟩:=h
 have nd:=sc_value_put.nd
 have hu:=hr.units0
 refine⟨_,(A8 (D8 (C7 (kEq (K:=K) hu) (ixE K w (pv 1) A7) B6 rfl) (A9 (C0 (ixE K w (pv 1) A7))) C9)
   (A9 (C0 (Q4 (C7 (kEq (K:=K) hu) (ixE K w (pv 1) A7) B6 rfl) (ixE K w (ixE K w (pv 0) A7) (ixE K w (pv 1) A7)) S0)))), ?_⟩
 rcases hor with⟨v,hr1,q⟩|⟨hr1,q⟩|⟨j,v,hr1,hj,q⟩
 ·exact⟨_,rfl,(ixT hr1 rfl (.inl ⟨rfl,_,rfl,ifT (by decide) ⟨_,rfl,(ixT hr1 rfl q)⟩⟩))⟩
 ·exact⟨_,rfl,(ixT hr1 rfl (.inl ⟨rfl,_,rfl,ifF (by decide) ⟨_,rfl,(ixT hr1 rfl (.inl ⟨rfl,_,rfl,ifF (by decide) q⟩))⟩⟩))⟩
 ·exact⟨_,rfl,(ixT hr1 rfl (.inl ⟨rfl,_,rfl,ifF (by decide) ⟨_,rfl,(ixT hr1 rfl (.inl ⟨rfl,_,rfl,ifT (by decide) ⟨_,rfl,(ixT h1 rfl ⟨_,rfl,(ixT hr1 rfl (.inr (.inl ⟨q0,sl,_,_,rfl,rfl,SqT.of h2,J2 hj,q⟩)))⟩)⟩⟩))⟩⟩))⟩
def dmZ:Sp:=λvs H Q _=>∃(fr:Addr) (k at_:Int) (sl st:List V) (r:Addr),vs=[.ref fr,.ref r]/\FrAt H fr k at_ sl st/\st.length<=100/\sl.length<=500/\
 ((∃(j:Nat) (st':List V) (v:V),H r=some (.tup [.str "keep",.int (j:Nat)])/\st=st'++ [v]/\∀p H',Same H H'->FrAt H' p k (at_+1) (sl.take j++ [v]++sl.drop (j+1)) st'->Q (.ref p) H')\/
  (∃n:Nat,H r=some (.tup [.str "skip",.int (n:Nat)])/\∀p H',Same H H'->FrAt H' p k (at_+1+(n:Nat)) sl st->Q (.ref p) H')\/
  (∃(n:Nat) (st':List V) (b:Bool),H r=some (.tup [.str "unless",.int (n:Nat)])/\st=st'++ [.bl b]/\∀p H',Same H H'->FrAt H' p k (at_+1+if b=true then 0 else(n:Int)) sl st'->Q (.ref p) H'))
theorem ok_with_nothing_put(F:Fun K "with_nothing_put" "with_nothing_put" s_with_nothing_put f fd)
  (D5:Cn P w K mg base CX0 1 "behind" MW DP)
  (W6:Cn P w K mg base CX0 1 "with_slot" b7Z c3Z)
  (Y2:Cn P w K mg base CX0 1 "further" cfZ cGZ):
  FnOk P w K mg base CX0 2 f fd VB dmZ:=by
 obtain⟨N4,N3,D5,G7,G8,G9⟩:=D5
 obtain⟨LH,KU,W6,LP,KW,LG⟩:=W6
 obtain⟨SI,SC,Y2,HS,HR,HQ⟩:=Y2
 refine F.ok sc_with_nothing_put (λvs H Q E h=> ?_) (λcdv A outer s H vs Q E hr h=> ?_)
 ·obtain⟨fr,k,at_,sl,st,r,rfl,_⟩:=h
  rfl
 obtain⟨fr,k,at_,sl,st,r,rfl,hF,hz,hsl,hor⟩:=h
 have nd:=sc_with_nothing_put.nd
 have hu:=hr.units0
 obtain⟨q0,e0,h1,h2,h3⟩:=id hF
 refine⟨_,(A8 (D8 (C7 (kEq (K:=K) hu) (ixE K w (pv 1) A7) B6 rfl) (A9 (C0 (B9 W6 (hr.mono (by omega)) rfl LG KW LP .nil C2 (A0 (B9 D5 (hr.mono (by omega)) rfl G9 G8 G7 .nil C2 (A0 (pv 0) (A0 A7 (A0 (B4 A6) A6)))) (A0 (ixE K w (pv 1) A7) (A0 (ixE K w (ixE K w (pv 0) A7) (P5 M3 A7)) A6)))))) C9)
   (A8 (D8 (C7 (kEq (K:=K) hu) (ixE K w (pv 1) A7) B6 rfl) (A9 (C0 (B9 Y2 (hr.mono (by omega)) rfl HQ HR HS .nil C2 (A0 (B9 D5 (hr.mono (by omega)) rfl G9 G8 G7 .nil C2 (A0 (pv 0) (A0 A7 (A0 (B4 A6) A6)))) (A0 (ixE K w (pv 1) A7) A6))))) C9)
   (A9 (C0 (B9 Y2 (hr.mono (by omega)) rfl HQ HR HS .nil C2 (A0 (B9 D5 (hr.mono (by omega)) rfl G9 G8 G7 .nil C2 (A0 (pv 0) (A0 A7 (A0 (B4 A6) A6)))) (A0 (Q4 (K7 (K:=K) (ixE K w (ixE K w (pv 0) A7) (P5 M3 A7)) (λ_=>rfl)) A7 (ixE K w (pv 1) A7)) A6))))))), ?_⟩
 rcases hor with⟨j,st',v,hr1,rfl,q⟩|⟨n,hr1,q⟩|⟨n,st',b,hr1,rfl,q⟩
 ·refine⟨_,rfl,(ixT hr1 rfl (.inl ⟨rfl,_,rfl,ifT (by decide) ?_⟩))⟩
  refine⟨_,rfl,GX,λe he=> ?_⟩
  have s1:=A5 he (.tup [])
  refine⟨fr,k,at_,sl,_,1,e,[],rfl,hF.mono (B5 s1),by simp,upd_same,by simp at hz⊢;omega,λp1 H1 s2 hp1=> ?_⟩
  have e2:(st'++ [v]).take ((st'++ [v]).length - 1)++ []=st':=by simp
  rw[e2]at hp1
  have s12:=s1.trans s2
  refine⟨_,rfl,(ixT (s12 _ _ hr1) rfl ⟨_,rfl,(ixT (s12 _ _ h1) rfl ⟨_,rfl,(ixT (s12 _ _ h3) (M4 _ _) ?_)⟩)⟩)⟩
  exact⟨p1,k,at_+1,sl,st',j,v,rfl,hp1,hsl,λp H3 s3 hp=>q p H3 (s12.trans s3) hp⟩
 ·refine⟨_,rfl,(ixT hr1 rfl (.inl ⟨rfl,_,rfl,ifF (by decide) ?_⟩))⟩
  refine⟨_,rfl,(ixT hr1 rfl (.inl ⟨rfl,_,rfl,ifT (by decide) ?_⟩))⟩
  refine⟨_,rfl,GX,λe he=> ?_⟩
  have s1:=A5 he (.tup [])
  refine⟨fr,k,at_,sl,_,0,e,[],rfl,hF.mono (B5 s1),zero_le _,upd_same,by simp;omega,λp1 H1 s2 hp1=> ?_⟩
  have e2:st.take (st.length - 0)++ []=st:=by simp
  rw[e2]at hp1
  have s12:=s1.trans s2
  refine⟨_,rfl,(ixT (s12 _ _ hr1) rfl ?_)⟩
  exact⟨p1,k,at_+1,sl,st,_,rfl,hp1,λp H3 s3 hp=>q p H3 (s12.trans s3) hp⟩
 ·refine⟨_,rfl,(ixT hr1 rfl (.inl ⟨rfl,_,rfl,ifF (by decide) ?_⟩))⟩
  refine⟨_,rfl,(ixT hr1 rfl (.inl ⟨rfl,_,rfl,ifF (by decide) ?_⟩))⟩
  refine⟨_,rfl,GX,λe he=> ?_⟩
  have s1:=A5 he (.tup [])
  refine⟨fr,k,at_,sl,_,1,e,[],rfl,hF.mono (B5 s1),by simp,upd_same,by simp at hz⊢;omega,λp1 H1 s2 hp1=> ?_⟩
  have e2:(st'++ [V.bl b]).take ((st'++ [V.bl b]).length - 1)++ []=st':=by simp
  rw[e2]at hp1
  have s12:=s1.trans s2
  refine⟨_,rfl,(ixT (s12 _ _ h1) rfl ⟨_,rfl,(ixT (s12 _ _ h3) (M4 _ _) ⟨b,rfl, ?_⟩)⟩)⟩
  cases b with
  |true=>exact ifT rfl ⟨p1,k,at_+1,sl,st',_,rfl,hp1,λp H3 s3 hp=>q p H3 (s12.trans s3) hp⟩
  |false=>exact ifF nZ ⟨_,rfl,(ixT (s12 _ _ hr1) rfl ⟨p1,k,at_+1,sl,st',_,rfl,hp1,λp H3 s3 hp=>q p H3 (s12.trans s3) hp⟩)⟩
end
noncomputable abbrev s_own_done:Stmt:=top 23
abbrev OW:List Str:=["cells","frame","row","word","top"]
theorem sc_own_done:FnScope OW UW (B0 s_own_done):=fS
noncomputable def RS:List (Str×V):=[("add",.str "+"),("sub",.str "-"),("mul",.str "*"),("div",.str "/"),("less",.str "<"),("same",.str "=")]
noncomputable def V6:Rk->Str
 | .push _=> "push"| .non=> "none"| .load _=> "load"| .keep _=> "keep"| .two k=>wd k| .cons=> "cons"| .head=> "head"| .tail=> "tail"| .empty=> "empty"| .not=> "not"| .skip _=> "skip"| .unless _=> "unless"| .close _ _=> "close"
theorem WD(rk:Rk):atI (rkV rk) 0=some (.str (V6 rk)):=by cases rk<;>rfl
theorem MX:∀k:Nat,(RS.lookup (wd k)).isSome=true
 |0=>by decide|1=>by decide|2=>by decide|3=>by decide|4=>by decide|n+5=>by show(List.lookup ("div":Str) RS).isSome=true;decide
theorem boZ{k:Nat}(h:k<6):RS.lookup (wd k)=some (.str (NM.sg k)):=by
 have hk:k=0\/k=1\/k=2\/k=3\/k=4\/k=5:=by omega
 rcases hk with rfl|rfl|rfl|rfl|rfl|rfl<;>rfl
section
variable{P:Program}{w:World}{K:FZ}{mg:Str->Option Value}{base:Heap}{C f rs:Addr}{fd:FuncData}{mf:Str->Addr}{md:Str->FuncData}{NV LF DX AE LE N4:Addr}{NZ LB DY AG LO N3:FuncData}
def c1Z(C:Addr)(H:Hp)(Q:VK)(o L:Addr)(us:List V)(k at_:Int)(sl:List V):Eo->Prop
 | .fr d sl' st'=>∀p q H',Same H H'->H' p=some (.tup [.str "frame",.ref q])->FrAt H' q k (at_+d) sl' st'->Q (.ref p) H'
 | .rf w=>∀p H',Same H H'->H' p=some (.tup [.str "refused",.str w])->Q (.ref p) H'
 | .pair st' x y=>∀p q c cv H',Bt L H H'->CAt C H' o L (us++ [.ref c])->H' c=some (.tup [.str "pair",x,y])->H' cv=some (.tup [.str "cell",.int (us.length:Nat)])->H' p=some (.tup [.str "frame",.ref q])->FrAt H' q k (at_+1) sl (st'++ [.ref cv])->Q (.ref p) H'
 | .fn st' b xs=>∀p q c cv vt H',Bt L H H'->CAt C H' o L (us++ [.ref c])->H' c=some (.tup [.str "fn",.int (b:Nat),.ref vt])->H' vt=some (.tup xs)->H' cv=some (.tup [.str "cell",.int (us.length:Nat)])->H' p=some (.tup [.str "frame",.ref q])->FrAt H' q k (at_+1) sl (st'++ [.ref cv])->Q (.ref p) H'
def biZ(C:Addr):Sp:=λvs H Q _=>∃(o L:Addr) (us:List V) (fr:Addr) (k at_:Int) (sl st:List V) (r:Addr) (rk:Rk) (eo:Eo),vs=[.ref o,.ref fr,.ref r]/\CAt C H o L us/\us.length<=500/\FrAt H fr k at_ sl st/\st.length<=100/\sl.length<=100/\H r=some (.tup (rkV rk))/\Ef H us sl rk st eo/\c1Z C H Q o L us k at_ sl eo
theorem ok_own_done(F:Fun K "own_done" "own_done" s_own_done f fd)(TD:TopD w K rs RS)(m_ROW_SIGNS:mg "ROW_SIGNS"=some (.ref rs))
  (AB:Cn P w K mg base CX0 3 "two_done" ["frame","sign"] c7Z)
  (W5:Cn P w K mg base CX0 2 "part_done" bQZ (dgZ C))
  (P0:Cn P w K mg base CX0 2 "with_new_cell" UW (dbZ C))
  (M6:Cn P w K mg base CX0 2 "with_nothing_put" VB dmZ)
  (W2:Cn P w K mg base CX0 1 "value_put" VB dlZ)
  (D5:Cn P w K mg base CX0 1 "behind" MW DP):
  FnOk P w K mg base CX0 4 f fd UW (biZ C):=by
 obtain⟨NV,NZ,AB,NX,OL,NQ⟩:=AB
 obtain⟨LF,LB,W5,LM,LN,LC⟩:=W5
 obtain⟨DX,DY,P0,EE,EG,EB⟩:=P0
 obtain⟨AE,AG,M6,AF,AD,Z9⟩:=M6
 obtain⟨LE,LO,W2,LK,LJ,LD⟩:=W2
 obtain⟨N4,N3,D5,G7,G8,G9⟩:=D5
 refine F.ok sc_own_done (λvs H Q E h=> ?_) (λcdv A outer s H vs Q E hr h=> ?_)
 ·obtain⟨o,L,us,fr,k,at_,sl,st,r,rk,eo,rfl,_⟩:=h
  rfl
 obtain⟨o,L,us,fr,k,at_,sl,st,r,rk,eo,rfl,hC,hul,hF,hz,hsl,hr1,hE,q⟩:=h
 have nd:=sc_own_done.nd
 have hu:=hr.units0
 refine⟨_,(A8 (C4 (i:=3) nd rfl (Or.inl rfl) (ixE K w (pv 2) A7))
   (A8 (D8 (C7 (kIn (K:=K) (w:=w)) (pv 3) (BI (v:=.ref _) rfl m_ROW_SIGNS rfl) rfl) (A9 (C0 (B9 AB (hr.mono (by omega)) rfl NQ OL NX .nil C2 (A0 (pv 1) (A0 (ixE K w (BI (v:=.ref _) rfl m_ROW_SIGNS rfl) (pv 3)) A6))))) C9)
   (A8 (D8 (C7 (kIn (K:=K) (w:=w)) (pv 3) (B4 (A0 B6 (A0 B6 A6))) rfl) (A9 (C0 (B9 W5 (hr.mono (by omega)) rfl LC LN LM .nil C2 (A0 (pv 0) (A0 (pv 1) (A0 (pv 3) A6)))))) C9)
   (A8 (D8 (C7 (kIn (K:=K) (w:=w)) (pv 3) (B4 (A0 B6 (A0 B6 A6))) rfl) (A9 (C0 (B4 (A0 B6 (A0 (B9 P0 (hr.mono (by omega)) rfl EB EG EE .nil C2 (A0 (pv 0) (A0 (pv 1) (A0 (pv 2) A6)))) A6))))) C9)
   (A8 (D8 (C7 (kIn (K:=K) (w:=w)) (pv 3) (B4 (A0 B6 (A0 B6 (A0 B6 A6)))) rfl) (A9 (C0 (B4 (A0 B6 (A0 (B9 M6 (hr.mono (by omega)) rfl Z9 AD AF .nil C2 (A0 (pv 1) (A0 (pv 2) A6))) A6))))) C9)
   (A8 (D8 (C7 (kIn (K:=K) (w:=w)) (pv 3) (B4 (A0 B6 (A0 B6 A6))) rfl) (A8 (C4 (i:=4) nd rfl (Or.inl rfl) (ixE K w (ixE K w (pv 1) A7) (P5 M3 A7)))
   (A9 (C0 (B4 (A0 B6 (A0 (B9 D5 (hr.mono (by omega)) rfl G9 G8 G7 .nil C2 (A0 (pv 1) (A0 A7 (A0 (B4 (A0 (Q4 (C7 (kEq (K:=K) hu) (pv 3) B6 rfl) (L0 KS (pv 4) S0 rfl) (cuZ (pv 4))) A6)) A6)))) A6)))))) C9)
   (A9 (C0 (B4 (A0 B6 (A0 (B9 D5 (hr.mono (by omega)) rfl G9 G8 G7 .nil C2 (A0 (pv 1) (A0 A7 (A0 (B4 (A0 (B9 W2 (hr.mono (by omega)) rfl LD LJ LK .nil C2 (A0 (pv 1) (A0 (pv 2) A6))) A6)) A6)))) A6))))))))))), ?_⟩
 refine⟨_,rfl,(ixT hr1 (WD rk) ?_)⟩
 refine⟨_,rfl,.inr (.inr ⟨V6 rk,rs,RS,rfl,rfl,TD,_,rfl,HB (λc1=> ?_) (λc1=> ?_)⟩)⟩
 ·cases hE<;>first|(exfalso;simp only[V6]at c1;revert c1;decide)|skip
  case twoV g a b v st hg ha hb he hv=>
   refine⟨_,rfl,_,rfl,.inr (.inr (.inr ⟨_,_,RS,_,rfl,rfl,TD,boZ hg,fr,k,at_,sl,st,g,a,b,rfl,hF,by simp at hz;omega,hg,ha,hb,λv' p q1 H' e s1 h1 h2=> ?_,λw' p H' e s1 h1=> ?_⟩))⟩
   ·rw[he]at e
    have e':=(List.cons.inj (List.cons.inj e).2).1
    subst e'
    exact q p q1 H' s1 h1 h2
   ·rw[he]at e
    exact absurd (List.cons.inj e).1 (by decide)
  case twoR g a b w0 st hg ha hb he=>
   refine⟨_,rfl,_,rfl,.inr (.inr (.inr ⟨_,_,RS,_,rfl,rfl,TD,boZ hg,fr,k,at_,sl,st,g,a,b,rfl,hF,by simp at hz;omega,hg,ha,hb,λv' p q1 H' e s1 h1 h2=> ?_,λw' p H' e s1 h1=> ?_⟩))⟩
   ·rw[he]at e
    exact absurd (List.cons.inj e).1 (by decide)
   ·rw[he]at e
    have e':=(List.cons.inj (List.cons.inj e).2).1
    injection e' with e'
    subst e'
    exact q p H' s1 h1
 refine⟨_,rfl,M8,λt1 ht1=> .inr (.inl ⟨t1,_,rfl,.inr (SqT.of upd_same),rfl,rfl,_,rfl,HB (λc2=> ?_) (λc2=> ?_)⟩)⟩
 ·have s1:=A5 ht1 (.tup [.str "head",.str "tail"])
  have hF1:=hF.mono (B5 s1)
  have hC1:=hC.same s1
  cases hE<;>first|exact absurd (MX _) c1|(exfalso;simp only[V6]at c2;revert c2;decide)|skip
  case headN st=>
   exact⟨_,rfl,_,rfl,_,rfl,o,L,us,fr,k,at_,sl,st,.non,false,rfl,hC1,hF1,by simp at hz;omega,.inl ⟨rfl,λp H' s2 hp=>q p H' (s1.trans s2) hp⟩⟩
  case tailN st=>
   exact⟨_,rfl,_,rfl,_,rfl,o,L,us,fr,k,at_,sl,st,.non,true,rfl,hC1,hF1,by simp at hz;omega,.inl ⟨rfl,λp H' s2 hp=>q p H' (s1.trans s2) hp⟩⟩
  case head p0 c h0 t0 st j g1 g2 g3 g4=>
   exact⟨_,rfl,_,rfl,_,rfl,o,L,us,fr,k,at_,sl,st,_,false,rfl,hC1,hF1,by simp at hz;omega,.inr ⟨p0,c,j,h0,t0,rfl,s1 _ _ g1,g2,s1 _ _ g3,λp q1 H' s2 hp hq=>q p q1 H' (s1.trans s2) hp hq⟩⟩
  case tail p0 c h0 t0 st j g1 g2 g3 g4=>
   exact⟨_,rfl,_,rfl,_,rfl,o,L,us,fr,k,at_,sl,st,_,true,rfl,hC1,hF1,by simp at hz;omega,.inr ⟨p0,c,j,h0,t0,rfl,s1 _ _ g1,g2,s1 _ _ g3,λp q1 H' s2 hp hq=>q p q1 H' (s1.trans s2) hp hq⟩⟩
 have s1:=A5 ht1 (.tup [.str "head",.str "tail"])
 refine⟨_,rfl,M8,λt2 ht2=> .inr (.inl ⟨t2,_,rfl,.inr (SqT.of upd_same),rfl,rfl,_,rfl,HB (λc3=> ?_) (λc3=> ?_)⟩)⟩
 ·have s2:=s1.trans (A5 ht2 (.tup [.str "cons",.str "close"]))
  have hF1:=hF.mono (B5 s2)
  have hC1:=hC.same s2
  cases hE<;>first|exact absurd (MX _) c1|(exfalso;simp only[V6]at c3;revert c3;decide)|skip
  case cons x y st=>
   refine⟨_,rfl,_,rfl,_,rfl,o,L,us,fr,k,at_,sl,st,r,rfl,hC1,hul,by simp at hz;omega,.inl ⟨x,y,s2 _ _ hr1,hF1,λq1 c cv H' k1 g1 g2 g3 g4=>⟨M8,λp hp=> ?_⟩⟩⟩
   have s3:=A5 hp (.tup [.str "frame",.ref q1])
   exact q p q1 c cv _ (λb o' hb hne=>s3 _ _ (k1 _ _ (s2 _ _ hb) hne)) (g1.same s3) (s3 _ _ g2) (s3 _ _ g3) upd_same (g4.mono (B5 s3))
  case close b n st xs hn=>
   refine⟨_,rfl,_,rfl,_,rfl,o,L,us,fr,k,at_,sl,st,r,rfl,hC1,hul,by simp at hz;omega,.inr ⟨b,n,xs,s2 _ _ hr1,hF1,hn,by simp at hz;omega,λq1 c cv vt H' k1 g1 g2 g2' g3 g4=>⟨M8,λp hp=> ?_⟩⟩⟩
   have s3:=A5 hp (.tup [.str "frame",.ref q1])
   exact q p q1 c cv vt _ (λb o' hb hne=>s3 _ _ (k1 _ _ (s2 _ _ hb) hne)) (g1.same s3) (s3 _ _ g2) (s3 _ _ g2') (s3 _ _ g3) upd_same (g4.mono (B5 s3))
 have s2:=s1.trans (A5 ht2 (.tup [.str "cons",.str "close"]))
 refine⟨_,rfl,PK,λt3 ht3=> .inr (.inl ⟨t3,_,rfl,.inr (SqT.of upd_same),rfl,rfl,_,rfl,HB (λc4=> ?_) (λc4=> ?_)⟩)⟩
 ·have s3:=s2.trans (A5 ht3 (.tup [.str "keep",.str "skip",.str "unless"]))
  have hF1:=hF.mono (B5 s3)
  cases hE<;>first|exact absurd (MX _) c1|(exfalso;simp only[V6]at c4;revert c4;decide)|skip
  case keep j v st hj=>
   refine⟨_,rfl,_,rfl,fr,k,at_,sl,_,r,rfl,hF1,hz,by omega,.inl ⟨j,st,v,s3 _ _ hr1,rfl,λq1 H' s4 g=>⟨M8,λp hp=> ?_⟩⟩⟩
   have s5:=A5 hp (.tup [.str "frame",.ref q1])
   exact q p q1 _ (s3.trans (s4.trans s5)) upd_same (g.mono (B5 s5))
  case skip n=>
   refine⟨_,rfl,_,rfl,fr,k,at_,sl,_,r,rfl,hF1,hz,by omega,.inr (.inl ⟨n,s3 _ _ hr1,λq1 H' s4 g=>⟨M8,λp hp=> ?_⟩⟩)⟩
   have s5:=A5 hp (.tup [.str "frame",.ref q1])
   exact q p q1 _ (s3.trans (s4.trans s5)) upd_same (by rw[<-Int.add_assoc];exact g.mono (B5 s5))
  case «unless» n b st=>
   refine⟨_,rfl,_,rfl,fr,k,at_,sl,_,r,rfl,hF1,hz,by omega,.inr (.inr ⟨n,st,b,s3 _ _ hr1,rfl,λq1 H' s4 g=>⟨M8,λp hp=> ?_⟩⟩)⟩
   have s5:=A5 hp (.tup [.str "frame",.ref q1])
   exact q p q1 _ (s3.trans (s4.trans s5)) upd_same (by rw[<-Int.add_assoc];exact g.mono (B5 s5))
 have s3:=s2.trans (A5 ht3 (.tup [.str "keep",.str "skip",.str "unless"]))
 refine⟨_,rfl,M8,λt4 ht4=> .inr (.inl ⟨t4,_,rfl,.inr (SqT.of upd_same),rfl,rfl,_,rfl,HB (λc5=> ?_) (λc5=> ?_)⟩)⟩
 ·have s4:=s3.trans (A5 ht4 (.tup [.str "empty",.str "not"]))
  have hF1:=hF.mono (B5 s4)
  obtain⟨q0,e0,h1,h2,h3⟩:=id hF1
  cases hE<;>first|exact absurd (MX _) c1|(exfalso;simp only[V6]at c5;revert c5;decide)|skip
  case emptyN st=>
   refine⟨_,rfl,(ixT h1 rfl ⟨_,rfl,(ixT h3 (M4 _ _) ?_)⟩)⟩
   refine⟨_,rfl,_,rfl,.inl ⟨rfl,_,rfl,ifT (by decide) ⟨_,rfl,rfl,BH,λt5 ht5=> ?_⟩⟩⟩
   have s5:=A5 ht5 (.tup [.bl true])
   refine⟨fr,k,at_,sl,_,1,t5,_,rfl,hF1.mono (B5 s5),by simp,upd_same,by simp at hz⊢;omega,λq1 H6 s6 hq=>⟨M8,λp hp=> ?_⟩⟩
   have e2:(st++ [V.non]).take ((st++ [V.non]).length - 1)=st:=by simp
   rw[e2]at hq
   have s7:=A5 hp (.tup [.str "frame",.ref q1])
   exact q p q1 _ (s4.trans (s5.trans (s6.trans s7))) upd_same (hq.mono (B5 s7))
  case empty p0 xs st hp0=>
   refine⟨_,rfl,(ixT h1 rfl ⟨_,rfl,(ixT h3 (M4 _ _) ?_)⟩)⟩
   refine⟨_,rfl,_,rfl,.inl ⟨rfl,_,rfl,ifT (by decide) ⟨_,rfl,rfl,BH,λt5 ht5=> ?_⟩⟩⟩
   have ed:decide (V.ref p0=V.non)=false:=by simp
   rw[ed]at*
   have s5:=A5 ht5 (.tup [.bl false])
   refine⟨fr,k,at_,sl,_,1,t5,_,rfl,hF1.mono (B5 s5),by simp,upd_same,by simp at hz⊢;omega,λq1 H6 s6 hq=>⟨M8,λp hp=> ?_⟩⟩
   have e2:(st++ [V.ref p0]).take ((st++ [V.ref p0]).length - 1)=st:=by simp
   rw[e2]at hq
   have s7:=A5 hp (.tup [.str "frame",.ref q1])
   exact q p q1 _ (s4.trans (s5.trans (s6.trans s7))) upd_same (hq.mono (B5 s7))
  case not b st=>
   refine⟨_,rfl,(ixT h1 rfl ⟨_,rfl,(ixT h3 (M4 _ _) ?_)⟩)⟩
   refine⟨_,rfl,_,rfl,.inl ⟨rfl,_,rfl,ifF (by decide) ⟨_,rfl,b,rfl,BH,λt5 ht5=> ?_⟩⟩⟩
   have s5:=A5 ht5 (.tup [.bl (!b)])
   refine⟨fr,k,at_,sl,_,1,t5,_,rfl,hF1.mono (B5 s5),by simp,upd_same,by simp at hz⊢;omega,λq1 H6 s6 hq=>⟨M8,λp hp=> ?_⟩⟩
   have e2:(st++ [V.bl b]).take ((st++ [V.bl b]).length - 1)=st:=by simp
   rw[e2]at hq
   have s7:=A5 hp (.tup [.str "frame",.ref q1])
   exact q p q1 _ (s4.trans (s5.trans (s6.trans s7))) upd_same (hq.mono (B5 s7))
 have s4:=s3.trans (A5 ht4 (.tup [.str "empty",.str "not"]))
 have hF1:=hF.mono (B5 s4)
 have key:∃v,Ef H us sl rk st eo/\eo=.fr 1 sl (st++ [v])/\((∃v',H r=some (.tup [.str "push",v'])/\v'=v)\/(H r=some (.tup [.str "none"])/\v=.non)\/(∃(j:Nat),H r=some (.tup [.str "load",.int (j:Nat)])/\sl[j]? =some v)):=by
  cases hE<;>first|exact absurd (MX _) c1|(exfalso;simp only[V6]at c5;revert c5;decide)|(exfalso;simp only[V6]at c4;revert c4;decide)|(exfalso;simp only[V6]at c3;revert c3;decide)|(exfalso;simp only[V6]at c2;revert c2;decide)|skip
  case push v hv=>exact⟨v,.push hv,rfl,.inl ⟨v,hr1,rfl⟩⟩
  case non=>exact⟨.non,.non,rfl,.inr (.inl ⟨hr1,rfl⟩)⟩
  case load j v hj=>exact⟨v,.load hj,rfl,.inr (.inr ⟨j,hr1,hj⟩)⟩
 obtain⟨v,_,rfl,hv⟩:=key
 have fin:∀(t5:Addr) (H5:Hp),Same _ H5->H5 t5=some (.tup [v])->DP [.ref fr,.int 0,.ref t5] H5 (λv1 H1=>2<=sizeLine/\∀p,H1 p=none->Q (.ref p) (upd H1 p (.tup [.str "frame",v1]))) E:=λt5 H5 s5 ht5=>
  ⟨fr,k,at_,sl,st,0,t5,[v],rfl,hF1.mono (B5 s5),zero_le _,ht5,by simp;omega,λq1 H6 s6 hq=>⟨M8,λp hp=>by
   have s7:=A5 hp (.tup [.str "frame",.ref q1])
   rw[sub_zero,take_length]at hq
   exact q p q1 _ (s4.trans (s5.trans (s6.trans s7))) upd_same (hq.mono (B5 s7))⟩⟩
 refine⟨_,rfl,_,rfl,_,rfl,fr,k,at_,sl,st,r,rfl,hF1, ?_⟩
 rcases hv with⟨v',hr2,rfl⟩|⟨hr2,rfl⟩|⟨j,hr2,hj⟩
 ·exact .inl ⟨v',s4 _ _ hr2,BH,λt5 ht5=>fin t5 _ (A5 ht5 _) upd_same⟩
 ·exact .inr (.inl ⟨s4 _ _ hr2,BH,λt5 ht5=>fin t5 _ (A5 ht5 _) upd_same⟩)
 ·exact .inr (.inr ⟨j,v,s4 _ _ hr2,hj,BH,λt5 ht5=>fin t5 _ (A5 ht5 _) upd_same⟩)
end
end CL
namespace SW
open PySem L2 BV CL
inductive Vl where
 |sc (v:V)|cell (k:Nat)
inductive Cl where
 |pair (a b:Vl)|fn (n:Int) (vs:List Vl)
noncomputable def scV:V->Bool
 | .int _=>true
 | .bl _=>true
 | .non=>true
 |_=>false
theorem bCZ{v:V}(h:scV v=true):HI v=true:=by cases v<;>first|rfl|(cases h;done)
def VAt(H:Hp):Vl->V->Prop
 | .sc x,v=>v=x/\scV x=true
 | .cell k,v=>∃p:Addr,v=.ref p/\H p=some (.tup [.str "cell",.int (k:Nat)])
noncomputable def vin:Cl->List Vl
 | .pair a b=> [a,b]
 | .fn _ vs=>vs
def ClAt(H:Hp):Cl->V->Prop
 | .pair a b,u=>∃(p:Addr) (x y:V),u=.ref p/\H p=some (.tup [.str "pair",x,y])/\VAt H a x/\VAt H b y
 | .fn n vs,u=>∃(p q:Addr) (xs:List V),u=.ref p/\H p=some (.tup [.str "fn",.int n,.ref q])/\H q=some (.tup xs)/\All2 (VAt H) vs xs/\vs.length<=10
theorem VAt.mo{H H':Hp}(m:Mo H H'):∀ {x:Vl} {v:V},VAt H x v->VAt H' x v
 | .sc _,_,h=>h
 | .cell _,_,⟨p,e,h⟩=>⟨p,e,m _ _ h⟩
theorem ClAt.mo{H H':Hp}(m:Mo H H'):∀ {c:Cl} {u:V},ClAt H c u->ClAt H' c u
 | .pair _ _,_,⟨p,x,y,e,h,h1,h2⟩=>⟨p,x,y,e,m _ _ h,h1.mo m,h2.mo m⟩
 | .fn _ _,_,⟨p,q,xs,e,h,h1,h2,h3⟩=>⟨p,q,xs,e,m _ _ h,m _ _ h1,h2.imp λ_ _ z=>VAt.mo m z,h3⟩
def Okc(cs:List Cl):Prop:=∀(k j:Nat) (c:Cl),cs[k]? =some c->Vl.cell j∈vin c->j<cs.length
def Okv(n:Nat)(vs:List Vl):Prop:=∀j,Vl.cell j∈vs->j<n
inductive Rc (cs:List Cl) (vs:List Vl):Nat->Prop where
 |root {k:Nat}:Vl.cell k∈vs->Rc cs vs k
 |step {k j:Nat} {c:Cl}:Rc cs vs k->cs[k]? =some c->Vl.cell j∈vin c->Rc cs vs j
theorem Rc.lt{cs:List Cl}{vs:List Vl}(h:Okc cs)(hv:Okv cs.length vs){k:Nat}(r:Rc cs vs k):k<cs.length:=by
 cases r with
 |root h=>exact hv _ h
 |step _ hc hj=>exact h _ _ _ hc hj
structure Wlk (cs:List Cl) (vs:List Vl) (F:List Nat) (W:List Vl):Prop where
 f:∀k∈F,Rc cs vs k
 w:∀k,Vl.cell k∈W->Rc cs vs k
 r:∀k,Vl.cell k∈vs->k∈F\/Vl.cell k∈W
 c:∀k c j,k∈F->cs[k]? =some c->Vl.cell j∈vin c->j∈F\/Vl.cell j∈W
 nd:F.Nodup
theorem Wlk.start(cs:List Cl)(vs:List Vl):Wlk cs vs [] vs:=
 ⟨λ_ h=>(by cases h),λ_ h=> .root h,λ_ h=> .inr h,λ_ _ _ h=>(by cases h),List.nodup_nil⟩
theorem PQ:∀ {l:List Nat} {k:Nat},l.Nodup->k∉l->(l++ [k]).Nodup
 | [],k,_,_=>nodup_cons.mpr ⟨by simp,List.nodup_nil⟩
 |x::r,k,h,hk=>by
  rw[nodup_cons]at h
  rw[List.cons_append,nodup_cons]
  refine⟨λz=> ?_,PQ h.2 λz=>hk (mem_cons_of_mem _ z)⟩
  rcases mem_append.mp z with z|z
  ·exact h.1 z
  ·rw[mem_singleton]at z
   exact hk (by rw[z];exact mem_cons_self ..)
theorem Q5{α:Type}{x y:α}{xs:List α}(h:y∈xs++ [x]):y=x\/y∈xs:=by
 rcases mem_append.mp h with h|h
 ·exact .inr h
 ·exact .inl (sZ h)
theorem Wlk.drop{cs:List Cl}{vs W:List Vl}{F:List Nat}{x:Vl}(h:Wlk cs vs F (W++ [x]))(hx:∀k,x=.cell k->k∈F):Wlk cs vs F W where
 f:=h.f
 w:=λk hk=>h.w k (mem_append_left _ hk)
 r:=λk hk=>by
  rcases h.r k hk with h1|h1
  ·exact .inl h1
  ·rcases Q5 h1 with h2|h2
   ·exact .inl (hx k h2.symm)
   ·exact .inr h2
 c:=λk c j hk hc hj=>by
  rcases h.c k c j hk hc hj with h1|h1
  ·exact .inl h1
  ·rcases Q5 h1 with h2|h2
   ·exact .inl (hx j h2.symm)
   ·exact .inr h2
 nd:=h.nd
theorem Wlk.add{cs:List Cl}{vs W:List Vl}{F:List Nat}{k:Nat}{c:Cl}(h:Wlk cs vs F (W++ [.cell k]))(hk:k∉F)(hc:cs[k]? =some c):Wlk cs vs (F++ [k]) (W++vin c):=by
 have hR:=h.w k (mem_append_right _ (mem_singleton.mpr rfl))
 refine⟨λj hj=> ?_,λj hj=> ?_,λj hj=> ?_,λi c' j hi hc' hj=> ?_, ?_⟩
 ·rcases Q5 hj with rfl|hj
  ·exact hR
  ·exact h.f j hj
 ·rcases mem_append.mp hj with hj|hj
  ·exact h.w j (mem_append_left _ hj)
  ·exact .step hR hc hj
 ·rcases h.r j hj with h1|h1
  ·exact .inl (mem_append_left _ h1)
  ·rcases Q5 h1 with h2|h2
   ·have:j=k:=by injection h2
    exact .inl (by rw[this];exact mem_append_right _ (mem_singleton.mpr rfl))
   ·exact .inr (mem_append_left _ h2)
 ·rcases Q5 hi with rfl|hi
  ·rw[hc]at hc'
   cases hc'
   exact .inr (mem_append_right _ hj)
  ·rcases h.c i c' j hi hc' hj with h1|h1
   ·exact .inl (mem_append_left _ h1)
   ·rcases Q5 h1 with h2|h2
    ·have:j=k:=by injection h2
     exact .inl (by rw[this];exact mem_append_right _ (mem_singleton.mpr rfl))
    ·exact .inr (mem_append_left _ h2)
 ·exact PQ h.nd hk
theorem Wlk.done{cs:List Cl}{vs:List Vl}{F:List Nat}(h:Wlk cs vs F [])(k:Nat):k∈F↔Rc cs vs k:=by
 refine⟨h.f k,λr=> ?_⟩
 induction r with
 |root hk=>
  rcases h.r _ hk with h1|h1
  ·exact h1
  ·cases h1
 |step _ hc hj ih=>
  rcases h.c _ _ _ ih hc hj with h1|h1
  ·exact h1
  ·cases h1
structure Kept (cs:List Cl) (vs:List Vl) (ks:List Nat):Prop where
 up:List.Pairwise (·<·) ks
 is:∀k,k∈ks↔Rc cs vs k
noncomputable def mv(ks:List Nat):Vl->Vl
 | .sc v=> .sc v
 | .cell k=> .cell (ks.idxOf k)
noncomputable def mvc(ks:List Nat):Cl->Cl
 | .pair a b=> .pair (mv ks a) (mv ks b)
 | .fn n vs=> .fn n (vs.map (mv ks))
theorem ZU(ks:List Nat)(c:Cl):vin (mvc ks c)=(vin c).map (mv ks):=by cases c<;>rfl
end SW
namespace SW
open PySem L2 BV CL
seal PE PT PW PA PS PSs PTs PI PG PGs PO
noncomputable abbrev s_is_cell:Stmt:=CL.top 4
noncomputable abbrev s_values_in:Stmt:=CL.top 11
noncomputable abbrev s_moved:Stmt:=CL.top 13
noncomputable abbrev s_moved_cell:Stmt:=CL.top 12
abbrev CT:List Str:=["value"]
theorem sc_is_cell:FnScope CT HN (B0 s_is_cell):=fS
abbrev LT:List Str:=["cell"]
theorem KK:FnScope LT ["cell"] (B0 s_values_in):=fS
abbrev RL:List Str:=["values","new_numbers"]
theorem XS:FnScope RL ahZ (B0 s_moved):=fS
abbrev JR:List Str:=["cell","new_numbers","values"]
theorem sc_moved_cell:FnScope JR clZ (B0 s_moved_cell):=fS
structure NoG2 (mg:Str->Option Value):Prop where
 sorted_:mg "sorted"=none
noncomputable def isC:Vl->Bool
 | .cell _=>true
 |_=>false
section
variable{P:Program}{w:World}{K:FZ}{mg:Str->Option Value}{base:Heap}{f:Addr}{fd:FuncData}{C:Addr}{mf:Str->Addr}{md:Str->FuncData}{BW V9 IX AQ:Addr}{CB V7 JE AX:FuncData}
def GC:Sp:=λvs H Q _=>∃(x:Vl) (v:V),vs=[v]/\VAt H x v/\Q (.bl (isC x)) H
theorem ok_is_cell(F:Fun K "is_cell" "is_cell" s_is_cell f fd)(B:NoG mg):FnOk P w K mg base CX0 1 f fd HN GC:=by
 refine F.ok sc_is_cell (λvs H Q E h=> ?_) (λcdv A outer s H vs Q E hr h=> ?_)
 ·obtain⟨x,v,rfl,_⟩:=h
  rfl
 obtain⟨x,v,rfl,hx,q⟩:=h
 refine⟨_,(A9 (C0 (C8 (T5 (K:=K)) rfl B.isinstance_ D7 (A0 (pv 0) (A0 (K6 (v:=.ty "tuple") rfl B.tuple_ N5 rfl) A6))))), ?_⟩
 cases x with
 |cell k=>
  obtain⟨p,rfl,hp⟩:=hx
  exact⟨_,rfl,_,_,_,_,rfl,.tup hp,PF,q⟩
 |sc x=>
  obtain⟨rfl,hs⟩:=hx
  cases v with
  |int n=>exact⟨_,rfl,_,_,_,_,rfl,.int _,by rfl,q⟩
  |bl b=>exact⟨_,rfl,_,_,_,_,rfl,.bl _,by rfl,q⟩
  |non=>exact⟨_,rfl,_,_,_,_,rfl,.non,by rfl,q⟩
  |_=>cases hs
def AI:Sp:=λvs H Q _=>∃(c:Cl) (u:V),vs=[u]/\ClAt H c u/\∀q xs H',Same H H'->H' q=some (.tup xs)->All2 (VAt H') (vin c) xs->Q (.ref q) H'
theorem ok_values_in(F:Fun K "values_in" "values_in" s_values_in f fd):FnOk P w K mg base CX0 1 f fd ["cell"] AI:=by
 refine F.ok KK (λvs H Q E h=> ?_) (λcdv A outer s H vs Q E hr h=> ?_)
 ·obtain⟨c,u,rfl,_⟩:=h
  rfl
 obtain⟨c,u,rfl,hc,q⟩:=h
 have hu:=hr.units0
 refine⟨_,(A9 (C0 (Q4 (C7 (kEq (K:=K) hu) (ixE K w (pv 0) A7) B6 rfl) (ixE K w (pv 0) A7) (J1 (AM (K:=K)) (pv 0) (J0 A7) N7)))), ?_⟩
 cases c with
 |pair a b=>
  obtain⟨p,x,y,rfl,hp,h1,h2⟩:=hc
  refine⟨_,rfl,(ixT hp rfl (.inl ⟨rfl,_,rfl,ifF (by decide +kernel) ?_⟩))⟩
  refine⟨_,rfl,_,rfl,.inl (.inr ⟨p,_,rfl,SqT.of hp,by rintro⟨z,_⟩;revert z;show HT.sIx 3 0 (some ((1:Nat):Int))=0->False;rw[HT.sIx_nat];decide,λt ht=> ?_⟩)⟩
  have s1:=A5 ht (.tup [x,y])
  exact q t [x,y] _ s1 upd_same (.cons (h1.mo (B5 s1)) (.cons (h2.mo (B5 s1)) .nil))
 |fn n vs=>
  obtain⟨p,r,xs,rfl,hp,hr2,h1,_⟩:=hc
  refine⟨_,rfl,(ixT hp rfl (.inl ⟨rfl,_,rfl,ifT (by decide +kernel) ?_⟩))⟩
  exact⟨_,rfl,(ixT hp rfl (q r xs H (Same.refl _) hr2 h1))⟩
def NN(ks:List Nat)(kvs:List (Key×V)):Prop:=∀k,k∈ks->N8 kvs (.inl (k:Int))=some (.int (ks.idxOf k:Nat))
def KH:Sp:=λvs H Q _=>∃(a d:Addr) (xs:List V) (ws:List Vl) (ks:List Nat) (kvs:List (Key×V)),vs=[.ref a,.ref d]/\(H a=some (.lst xs)\/H a=some (.tup xs))/\All2 (VAt H) ws xs/\xs.length<=1000/\H d=some (.dK kvs)/\NN ks kvs/\(∀k,Vl.cell k∈ws->k∈ks)/\
 ∀l ys H',Same H H'->H l=none->H' l=some (.lst ys)->All2 (VAt H') (ws.map (mv ks)) ys->Q (.ref l) H'
theorem ok_moved(F:Fun K "moved" "moved" s_moved f fd)
  (K3:Cn P w K mg base CX0 1 "is_cell" HN GC):
  FnOk P w K mg base CX0 2 f fd ahZ KH:=by
 obtain⟨BW,CB,K3,O0,O2,O3⟩:=K3
 refine F.ok XS (λvs H Q E h=> ?_) (λcdv A outer s H vs Q E hr h=> ?_)
 ·obtain⟨a,d,xs,ws,ks,kvs,rfl,_⟩:=h
  rfl
 obtain⟨a,d,xs,ws,ks,kvs,rfl,ha,hA,hn,hd,hN,hin,q⟩:=h
 have zz:(4000:Nat)<=sizeLine:=by decide
 have hlen:=hA.len
 refine⟨_,(A9 (C0 (KM (cS (N:=RL) (sc:=B0 s_moved) (caps:=[1]) (ns:=["new_numbers"])) rfl rfl rfl (ciZ (K:=K) (pv 0)) (λ_ _ _ _ _=>Z0) (λ_ _ _ _ _=>(Q4 (K7 (K:=K) (B9 K3 (hr.mono (by omega)) rfl O3 O2 O0 .nil C2 (A0 (pv 0) A6)) (λ_=>rfl)) (B4 (A0 B6 (A0 (atZ (Nat.lt_of_le_of_lt (Nat.add_le_add_left (by decide:1<=64) _) hr.units) (pv 1) (ixE K w (pv 0) A7) (λ_ _=>rfl)) A6))) (pv 0)))))), ?_⟩
 have step:∀(i:Nat) (x:V) (zs:List V) (H1:Hp),xs[i]? =some x->(zs.length=i/\Same H H1/\All2 (VAt H1) ((ws.take i).map (mv ks)) zs)->∃x',ws[i]? =some x'/\VAt H1 x' x/\∀H2 y,Same H1 H2->VAt H2 (mv ks x') y->((zs++ [y]).length=i+1/\Same H H2/\All2 (VAt H2) ((ws.take (i+1)).map (mv ks)) (zs++ [y])):=by
  rintro i x zs H1 hx ⟨rfl,s1,hz⟩
  obtain⟨x',hx',hv⟩:=hA.get hx
  refine⟨x',hx',hv.mo (B5 s1),λH2 y s2 hy=>⟨by rw[length_append];rfl,s1.trans s2, ?_⟩⟩
  rw[take_succ,hx',map_append]
  exact(hz.imp λ_ _ z=>VAt.mo (B5 s2) z).app (.cons hy .nil)
 have fin:∀zs H1,(zs.length=xs.length/\Same H H1/\All2 (VAt H1) ((ws.take xs.length).map (mv ks)) zs)->∀D,H1 D=none->Q (.ref D) (upd H1 D (.lst zs)):=by
  rintro zs H1 ⟨_,s1,hz⟩ D hD
  have sD:=A5 hD (.lst zs)
  rw[<-hlen,take_length]at hz
  exact q D zs _ (s1.trans sD) (s1.free hD) upd_same (hz.imp λ_ _ z=>VAt.mo (B5 sD) z)
 rcases ha with ha|ha
 ·refine⟨_,rfl,.inl ⟨a,rfl,⟨_,SqL.of ha⟩,CV (xs:=xs) (λi zs H1=>zs.length=i/\Same H H1/\All2 (VAt H1) ((ws.take i).map (mv ks)) zs) ⟨rfl,Same.refl _,.nil⟩ ?_ ?_ fin⟩⟩
  ·rintro i zs H1 hi ⟨rfl,s1,_⟩
   exact⟨SqL.of (s1 _ _ ha),by omega⟩
  ·rintro i x zs H1 hx hP
   obtain⟨x',hx',hv,go⟩:=step i x zs H1 hx hP
   have hd1:=hP.2.1 _ _ hd
   refine CZ ⟨_,rfl,x',x,rfl,hv,isC x',rfl, ?_⟩
   cases x' with
   |sc v=>exact ifF nZ ⟨_,rfl,go H1 x (Same.refl _) hv⟩
   |cell k=>
    obtain⟨p,rfl,hp⟩:=hv
    have hk:=hN k (hin k (mem_of_getElem? hx'))
    refine ifT rfl ⟨_,rfl,_,rfl,(ixT hp rfl ⟨d,_,rfl,.inl ⟨kvs,.inl (k:Int),.inl hd1,rfl,hk.symm⟩,M8,λt ht=> ?_⟩)⟩
    exact go _ (.ref t) (A5 ht _) ⟨t,rfl,upd_same⟩
 ·refine⟨_,rfl,.inr ⟨a,rfl,⟨_,SqT.of ha⟩,VP (xs:=xs) (λi zs H1=>zs.length=i/\Same H H1/\All2 (VAt H1) ((ws.take i).map (mv ks)) zs) ⟨rfl,Same.refl _,.nil⟩ ?_ ?_ fin⟩⟩
  ·rintro i zs H1 hi ⟨rfl,s1,_⟩
   exact⟨SqT.of (s1 _ _ ha),by omega⟩
  ·rintro i x zs H1 hx hP
   obtain⟨x',hx',hv,go⟩:=step i x zs H1 hx hP
   have hd1:=hP.2.1 _ _ hd
   refine CZ ⟨_,rfl,x',x,rfl,hv,isC x',rfl, ?_⟩
   cases x' with
   |sc v=>exact ifF nZ ⟨_,rfl,go H1 x (Same.refl _) hv⟩
   |cell k=>
    obtain⟨p,rfl,hp⟩:=hv
    have hk:=hN k (hin k (mem_of_getElem? hx'))
    refine ifT rfl ⟨_,rfl,_,rfl,(ixT hp rfl ⟨d,_,rfl,.inl ⟨kvs,.inl (k:Int),.inl hd1,rfl,hk.symm⟩,M8,λt ht=> ?_⟩)⟩
    exact go _ (.ref t) (A5 ht _) ⟨t,rfl,upd_same⟩
def DQ:Sp:=λvs H Q _=>∃(u:V) (d:Addr) (c:Cl) (ks:List Nat) (kvs:List (Key×V)),vs=[u,.ref d]/\ClAt H c u/\H d=some (.dK kvs)/\NN ks kvs/\(∀k,Vl.cell k∈vin c->k∈ks)/\∀u' H',Same H H'->ClAt H' (mvc ks c) u'->Q u' H'
theorem ok_moved_cell(F:Fun K "moved_cell" "moved_cell" s_moved_cell f fd)(B:NoG mg)
  (L6:Cn P w K mg base CX0 1 "values_in" ["cell"] AI)
  (T7:Cn P w K mg base CX0 2 "moved" ahZ KH):
  FnOk P w K mg base CX0 3 f fd clZ DQ:=by
 obtain⟨V9,V7,L6,W3,W7,W4⟩:=L6
 obtain⟨IX,JE,T7,JI,JF,IZ⟩:=T7
 refine F.ok sc_moved_cell (λvs H Q E h=> ?_) (λcdv A outer s H vs Q E hr h=> ?_)
 ·obtain⟨u,d,c,ks,kvs,rfl,_⟩:=h
  rfl
 obtain⟨u,d,c,ks,kvs,rfl,hc,hd,hN,hin,q⟩:=h
 have nd:=sc_moved_cell.nd
 have hu:=hr.units0
 have zz:(4000:Nat)<=sizeLine:=by decide
 have hl10:(vin c).length<=10:=by
  cases c with
  |pair a b=>show 2<=10;decide
  |fn n vs=>obtain⟨_,_,_,_,_,_,_,h⟩:=hc;exact h
 refine⟨_,(A8 (C4 (i:=2) nd rfl (Or.inl rfl) (G3 (EW (K:=K)) rfl B.tuple_ N5 (A0 (B9 T7 (hr.mono (by omega)) rfl IZ JF JI .nil C2 (A0 (B9 L6 (hr.mono (by omega)) rfl W4 W7 W3 .nil C2 (A0 (pv 0) A6)) (A0 (pv 1) A6))) A6)))
   (A8 (D8 (C7 (kEq (K:=K) hu) (ixE K w (pv 0) A7) B6 rfl) (A9 (C0 (B4 (A0 B6 (A0 (ixE K w (pv 0) A7) (A0 (pv 2) A6)))))) C9)
   (A9 (C0 (C3 (N2 (K:=K)) (B4 (A0 B6 A6)) (pv 2)))))), ?_⟩
 refine⟨_,rfl,c,u,rfl,hc,λr xs H1 s1 hr1 hA=>⟨_,rfl,r,d,xs,vin c,ks,kvs,rfl,.inr hr1,hA,by have:=hA.len;omega,s1 _ _ hd,hN,hin,λl ys H2 s2 hl hl2 hA2=>⟨l,ys,rfl,.inl ⟨SqL.of hl2,λt ht=> ?_⟩⟩⟩⟩
 have s3:=s1.trans (s2.trans (A5 ht (.tup ys)))
 have ht3:upd H2 t (.tup ys) t=some (.tup ys):=upd_same
 have hA3:=hA2.imp λ_ _ z=>VAt.mo (B5 (A5 ht (.tup ys))) z
 generalize upd H2 t (.tup ys)=H3 at s3 ht3 hA3⊢
 have hc3:ClAt H3 c u:=hc.mo (B5 s3)
 cases c with
 |pair a b=>
  obtain⟨p,x,y,rfl,hp,h1,h2⟩:=hc3
  refine⟨_,rfl,(ixT hp rfl (.inl ⟨rfl,_,rfl,ifF (by decide +kernel) ?_⟩))⟩
  refine⟨BH,λo ho=>⟨_,rfl, ?_⟩⟩
  have so:=A5 ho (.tup [.str "pair"])
  have hA4:=hA3.imp λ_ _ z=>VAt.mo (B5 so) z
  cases hA4 with
  |cons ha hA4=>
   cases hA4 with
   |cons hb hA4=>
    cases hA4
    refine .inr (.inr (.inl ⟨o,t,[.str "pair"],_,rfl,rfl,SqT.of upd_same,SqT.of (so _ _ ht3),(by intro z;cases z),(by show 3<=sizeLine;decide),(λz=>by cases z),λ_ p' hp'=> ?_⟩))
    exact q (.ref p') _ (s3.trans (so.trans (A5 hp' _))) ⟨p',_,_,rfl,upd_same,ha.mo (B5 (A5 hp' _)),hb.mo (B5 (A5 hp' _))⟩
 |fn n vs=>
  obtain⟨p,r',xs',rfl,hp,hr2,h1,h10⟩:=hc3
  refine⟨_,rfl,(ixT hp rfl (.inl ⟨rfl,_,rfl,ifT (by decide +kernel) ?_⟩))⟩
  refine⟨_,rfl,(ixT hp rfl ⟨_,rfl,PK,λp' hp'=> ?_⟩)⟩
  have sp:=A5 hp' (.tup [.str "fn",.int n,.ref t])
  exact q (.ref p') _ (s3.trans sp) ⟨p',t,ys,rfl,upd_same,sp _ _ ht3,hA3.imp λ_ _ z=>VAt.mo (B5 sp) z,by rw[length_map];exact h10⟩
end
noncomputable abbrev s_numbers_led_to:Stmt:=CL.top 10
abbrev DC:List Str:=["cells","values","found","waiting","value"]
theorem sc_numbers_led_to:FnScope DC TL (B0 s_numbers_led_to):=fS
theorem CU:∀(n:Nat) (F:List Nat),F.Nodup->(∀k∈F,k<n)->F.length<=n
 |0,F,_,h=>by
  cases F with
  |nil=>exact Nat.le_refl _
  |cons x r=>exact absurd (h x (mem_cons_self ..)) (Nat.not_lt_zero _)
 |n+1,F,nd,h=>by
  by_cases c:n∈F
  ·have:=CU n (F.erase n) (nd.erase n) λk hk=>by
    have h1:=(nd.mem_erase_iff).mp hk
    have:=h k h1.2
    have:=h1.1
    omega
   rw[List.length_erase_of_mem c]at this
   omega
  ·have:=CU n F nd λk hk=>by
    have h1:=h k hk
    have:k≠n:=λe=>c (e▸hk)
    omega
   omega
theorem UI{R:Vl->V->Prop}{W:List Vl}{x:Vl}{ys:List V}(h:All2 R (W++ [x]) ys):∃ys' y,ys=ys'++ [y]/\All2 R W ys'/\R x y:=by
 induction W generalizing ys with
 |nil=>
  cases h with
  |cons h t=>
   cases t
   exact⟨[],_,rfl,.nil,h⟩
 |cons w W ih=>
  cases h with
  |cons h t=>
   obtain⟨ys',y,rfl,h1,h2⟩:=ih t
   exact⟨_::ys',y,rfl,.cons h h1,h2⟩
theorem upd_at{H:Hp}{a b:Addr}{o o':HO}(h:H b=some o)(n:b≠a):upd H a o' b=some o:=by rw[B8 n];exact h
def Q6(F:List Nat):List Key:=F.map λ(k:Nat)=>(Sum.inl (k:Int):Key)
theorem VZ{F:List Nat}{k:Nat}:(Sum.inl (k:Int):Key)∈Q6 F↔k∈F:=by
 unfold Q6
 constructor
 ·intro h
  obtain⟨j,hj,e⟩:=mem_map.mp h
  have:(j:Int)=(k:Int):=Sum.inl.inj e
  have:j=k:=by omega
  subst this;exact hj
 ·exact λh=>mem_map.mpr ⟨k,h,rfl⟩
theorem JZ{kvs:List (Key×V)}{F:List Nat}(h:kvs.map (·.1)=Q6 F)(k:Nat):(N8 kvs (.inl (k:Int))).isSome=decide (k∈F):=by
 rw[<-T6,Bool.eq_iff_iff,List.any_eq_true,decide_eq_true_iff,<-VZ,<-h]
 constructor
 ·rintro⟨kv,h1,h2⟩
  have e:kv.1=.inl (k:Int):=of_decide_eq_true h2
  exact mem_map.mpr ⟨kv,h1,e⟩
 ·intro h1
  obtain⟨kv,h2,e⟩:=mem_map.mp h1
  exact⟨kv,h2,decide_eq_true e⟩
section
variable{P:Program}{w:World}{K:FZ}{mg:Str->Option Value}{base:Heap}{f:Addr}{fd:FuncData}{C:Addr}{mf:Str->Addr}{md:Str->FuncData}{BW V9:Addr}{CB V7:FuncData}
noncomputable def iv(xs:List Nat):List V:=xs.map λi=>V.int (i:Nat)
noncomputable def stN(o v d wl:Addr)(a:Option V):St:=[some (.ref o),some (.ref v),some (.ref d),some (.ref wl),a]
def Few(cs:List Cl)(ws:List Vl):Prop:=∀ks:List Nat,ks.Nodup->(∀k∈ks,Rc cs ws k)->ks.length<=63
def a6Z(C:Addr):Sp:=λvs H Q _=>∃(o L v:Addr) (us xs:List V) (cs:List Cl) (ws:List Vl),vs=[.ref o,.ref v]/\CAt C H o L us/\All2 (ClAt H) cs us/\H v=some (.lst xs)/\All2 (VAt H) ws xs/\Okc cs/\Okv cs.length ws/\Few cs ws/\xs.length<=1000/\
 ∀l ks H',Same H H'->H l=none->H' l=some (.lst (iv ks))->Kept cs ws ks->Q (.ref l) H'
theorem ok_numbers_led_to(F:Fun K "numbers_led_to" "numbers_led_to" s_numbers_led_to f fd)(B:NoG mg)(B2:NoG2 mg)(RC:RCls K C mf md)
  (FB:FnOk P w K mg base CX0 1 (mf "at") (md "at") EN (ST C))
  (K3:Cn P w K mg base CX0 1 "is_cell" HN GC)
  (L6:Cn P w K mg base CX0 1 "values_in" ["cell"] AI):
  FnOk P w K mg base CX0 2 f fd TL (a6Z C):=by
 obtain⟨BW,CB,K3,O0,O2,O3⟩:=K3
 obtain⟨V9,V7,L6,W3,W7,W4⟩:=L6
 refine F.ok sc_numbers_led_to (λvs H Q E h=> ?_) (λcdv A outer s H vs Q E hr h=> ?_)
 ·obtain⟨o,L,v,us,xs,cs,ws,rfl,_⟩:=h
  rfl
 obtain⟨o,L,v,us,xs,cs,ws,rfl,hC,hU,hv,hX,hO,hV,hn,hx,q⟩:=h
 have nd:=sc_numbers_led_to.nd
 have hu:=hr.units0
 have zz:(4000:Nat)<=sizeLine:=by decide
 obtain⟨dx,ho,hL⟩:=id hC
 refine⟨_,(A8 (C4 (i:=2) nd rfl (Or.inl rfl) LS)
   (A8 (C4 (i:=3) nd rfl (Or.inl rfl) (G3 (X3 (K:=K)) rfl B.list_ M2 (A0 (pv 1) A6)))
   (A8 (G5 (BG PassesOwn.never (K7 (K:=K) (pv 3) (λ_=>rfl)) (A8 (C4 (i:=4) nd rfl (Or.inl rfl) (ND (K:=K) PySem.F.plainAttrs_list PySem.F.slot_list_pop PySem.F.type_list_pop HE (pv 3)))
   (A9 (G5 (D8 (PW.pt (PB (K7 (K:=K) (B9 K3 (hr.mono (by omega)) rfl O3 O2 O0 .nil C2 (A0 (pv 4) A6)) (λ_=>rfl)) (KL (C7 (apZ hr.units) (ixE K w (pv 4) A7) (pv 2) rfl)))) (A8 (DG V5 (GJ (pv 2) (ixE K w (pv 4) A7) (NF hr.units)))
   (A9 (G2 (HP (K:=K) PySem.F.plainAttrs_list PySem.F.slot_list_extend PySem.F.type_list_extend (IP (K:=K)) (pv 3) (A0 (B9 L6 (hr.mono (by omega)) rfl W4 W7 W3 .nil C2 (A0 (K1 (pv 0) RC.cl RC.m_at FB (hr.mono (by omega)) RC.b_at .nil C2 (A0 (pv 4) A6)) A6)) A6))))) C9))))))
   (A9 (C0 (C8 (TQ rfl) rfl B2.sorted_ UJ (A0 (pv 2) A6))))))), ?_⟩
 refine λd hd=>⟨_,rfl,v,xs,rfl,.inl (SqL.of ((A5 hd _) _ _ hv)),λwl hwl=> ?_⟩
 have sd:=A5 hd (.dK [])
 have s1:=sd.trans (A5 hwl (.lst xs))
 have hd1:upd (upd H d (.dK [])) wl (.lst xs) d=some (.dK []):=(A5 hwl (.lst xs)) _ _ upd_same
 have hw1:upd (upd H d (.dK [])) wl (.lst xs) wl=some (.lst xs):=upd_same
 have hwH:H wl=none:=sd.free hwl
 have ndw:d≠wl:=IH hd1 hw1 (by intro z;cases z)
 generalize upd (upd H d (.dK [])) wl (.lst xs)=H1 at s1 hd1 hw1⊢
 have wd':∀(Hx:Hp) (o:HO),Same H Hx->Same H (upd Hx d o):=λHx o a x u h=>by rw[B8 (λe=>by subst e;rw[hd]at h;cases h)];exact a _ _ h
 have ww:∀(Hx:Hp) (o:HO),Same H Hx->Same H (upd Hx wl o):=λHx o a x u h=>by rw[B8 (λe=>by subst e;rw[hwH]at h;cases h)];exact a _ _ h
 refine⟨fun σ H'=>∃a F kvs,σ=stN o v d wl a/\Same H H'/\H' d=some (.dK kvs)/\kvs.map (·.1)=Q6 F/\Wlk cs ws F [], ?_, ?_⟩
 ·refine⟨λm σ H'=>∃a F kvs W ys,σ=stN o v d wl a/\Same H H'/\H' d=some (.dK kvs)/\kvs.map (·.1)=Q6 F/\H' wl=some (.lst ys)/\All2 (VAt H') W ys/\Wlk cs ws F W/\m=(cs.length - F.length)*11+W.length/\W.length<=1000+10*F.length, ?_, ?_⟩
  ·refine⟨_,none,[],[],ws,xs,rfl,s1,hd1,rfl,hw1,hX.imp λ_ _ z=>VAt.mo (B5 s1) z,Wlk.start cs ws,rfl, ?_⟩
   have:=hX.len
   show ws.length<=1000+0
   omega
  rintro m σ H' ⟨a,F,kvs,W,ys,rfl,s',hd',hkv,hw',hA,hWk,rfl,hWl⟩
  have hFn:=CU cs.length F hWk.nd λk hk=>(hWk.f k hk).lt hO hV
  have hF63:=hn F hWk.nd hWk.f
  have hkl:kvs.length=F.length:=by
   have:=congrArg List.length hkv
   unfold Q6 at this
   simpa using this
  rcases List.eq_nil_or_concat W with hW|⟨W',x,hW⟩
  ·subst hW
   cases hA
   exact⟨_,rfl,false,.inl ⟨[],SqL.of hw',rfl⟩,ifF nZ ⟨_,F,kvs,rfl,s',hd',hkv,hWk⟩⟩
  ·rw[List.concat_eq_append]at hW
   subst hW
   obtain⟨ys',y,rfl,hA',hxy⟩:=UI hA
   have hlW:(W'++ [x]).length=W'.length+1:=by rw[length_append];rfl
   rw[hlW]at hWl⊢
   refine⟨_,rfl,true,.inl ⟨ys'++ [y],SqL.of hw',by simp⟩,ifT rfl ?_⟩
   refine⟨fun σ H2=>∃m',m'<(cs.length - F.length)*11+(W'.length+1)/\∃a F kvs W ys,σ=stN o v d wl a/\Same H H2/\H2 d=some (.dK kvs)/\kvs.map (·.1)=Q6 F/\H2 wl=some (.lst ys)/\All2 (VAt H2) W ys/\Wlk cs ws F W/\m'=(cs.length - F.length)*11+W.length/\W.length<=1000+10*F.length,λ_ _ h=>h, ?_⟩
   refine⟨_,rfl,.inl ⟨rfl,_,SqL.of hw'⟩,wl,_,y,rfl,rfl,hw',by simp, ?_⟩
   rw[List.dropLast_concat]
   have s2:=ww H' (.lst ys') s'
   have hd2:=upd_at (o':=.lst ys') hd' ndw
   have hw2:upd H' wl (.lst ys') wl=some (.lst ys'):=upd_same
   have m2:Mo H' (upd H' wl (.lst ys')):=λb zs e=>upd_at e (IH e hw' (by intro z;cases z))
   have hA2:=hA'.imp λ_ _ z=>VAt.mo m2 z
   have hx2:=VAt.mo m2 hxy
   generalize upd H' wl (.lst ys')=H2 at s2 hd2 hw2 hA2 hx2⊢
   refine⟨_, ?_,λ_ _ h=>h⟩
   refine⟨_,rfl,x,y,rfl,hx2,isC x,rfl, ?_⟩
   have same:(∀k,x=.cell k->k∈F)->∃m',m'<(cs.length - F.length)*11+(W'.length+1)/\∃a F kvs W ys,stN o v d wl (some y)=stN o v d wl a/\Same H H2/\H2 d=some (.dK kvs)/\kvs.map (·.1)=Q6 F/\H2 wl=some (.lst ys)/\All2 (VAt H2) W ys/\Wlk cs ws F W/\m'=(cs.length - F.length)*11+W.length/\W.length<=1000+10*F.length:=λhin=>
    ⟨_,lt_succ_self _,some y,F,kvs,W',ys',rfl,s2,hd2,hkv,hw2,hA2,hWk.drop hin,rfl,by omega⟩
   cases x with
   |sc z=>exact ifF nZ (ifF nZ (same λk e=>by cases e))
   |cell k=>
    obtain⟨p,rfl,hp⟩:=hx2
    refine ifT rfl ⟨_,rfl,(ixT hp rfl ⟨_,rfl,d,_,rfl,DGet.k (k:=.inl (k:Int)) hd2,_,rfl, ?_⟩)⟩
    rw[JZ hkv]
    by_cases hk:k∈F
    ·rw[decide_eq_true hk]
     exact ifF (by decide) (same λj e=>by cases e;exact hk)
    ·rw[decide_eq_false hk]
     have hkn:k<cs.length:=(hWk.w k (mem_append_right _ (mem_singleton.mpr rfl))).lt hO hV
     have hFlt:F.length<cs.length:=by
      have:=CU cs.length (F++ [k]) (PQ hWk.nd hk) λj hj=>by
       rcases Q5 hj with rfl|hj
       ·exact hkn
       ·exact(hWk.f j hj).lt hO hV
      rw[length_append]at this
      exact this
     have hvn:N8 kvs (.inl (k:Int))=none:=by
      have:=JZ hkv k
      rw[decide_eq_false hk]at this
      cases h:N8 kvs (.inl (k:Int))with
      |none=>rfl
      |some z=>rw[h]at this;cases this
     refine ifT rfl ⟨_,rfl,_,rfl,(ixT hp rfl ⟨d,_,rfl,DPut.k (k:=.inl (k:Int)) hd2 (by omega), ?_⟩)⟩
     rw[FX _ hvn]
     have s3:=wd' H2 (.dK (kvs++ [(.inl (k:Int),.bl true)])) s2
     have hd3:upd H2 d (.dK (kvs++ [(.inl (k:Int),.bl true)])) d=some (.dK (kvs++ [(.inl (k:Int),.bl true)])):=upd_same
     have hw3:=upd_at (o':=.dK (kvs++ [(.inl (k:Int),.bl true)])) hw2 (Ne.symm ndw)
     have m3:Mo H2 (upd H2 d (.dK (kvs++ [(.inl (k:Int),.bl true)]))):=λb zs e=>upd_at e (IH e hd2 (by intro z;cases z))
     have hA3:=hA2.imp λ_ _ z=>VAt.mo m3 z
     have hp3:=m3 _ _ hp
     generalize upd H2 d (.dK (kvs++ [(.inl (k:Int),.bl true)]))=H3 at s3 hd3 hw3 hA3 hp3⊢
     obtain⟨c,hck⟩:∃c,cs[k]? =some c:=⟨_,List.getElem?_eq_getElem hkn⟩
     obtain⟨u,huk,hcu⟩:=hU.get' hck
     refine⟨_,rfl,.inl ⟨rfl,_,SqL.of hw3⟩,_,rfl,o,dx,_,rfl,s3 _ _ ho,rfl,_,rfl,o,L,us,p,k,u,rfl,hC.same s3,hp3,huk,c,u,rfl,hcu.mo (B5 s3),λr zs H4 s4 hr4 hA4=> ?_⟩
     have hl10:(vin c).length<=10:=by
      cases c with
      |pair a b=>show 2<=10;decide
      |fn n vs=>obtain⟨_,_,_,_,_,_,_,h⟩:=hcu;exact h
     have hzl:=hA4.len
     have hyl:=hA3.len
     refine⟨wl,r,ys',zs,rfl,rfl,s4 _ _ hw3,SqT.of hr4,by omega, ?_⟩
     have m5:Mo H4 (upd H4 wl (.lst (ys'++zs))):=λb zs' e=>upd_at e (IH e (s4 _ _ hw3) (by intro z;cases z))
     refine⟨(cs.length - (F++ [k]).length)*11+(W'++vin c).length, ?_,_,F++ [k],_,W'++vin c,ys'++zs,rfl,ww _ _ (s3.trans s4),upd_at (s4 _ _ hd3) ndw, ?_,upd_same, ?_,hWk.add hk hck,rfl, ?_⟩
     ·rw[length_append,length_append]
      show(cs.length - (F.length+1))*11+(W'.length+(vin c).length)<_
      omega
     ·rw[map_append,hkv]
      unfold Q6
      rw[map_append];rfl
     ·exact((hA3.imp λ_ _ z=>VAt.mo (B5 s4) z).app hA4).imp λ_ _ z=>VAt.mo m5 z
     ·rw[length_append,length_append]
      show W'.length+(vin c).length<=1000+10*(F.length+1)
      omega
 rintro σ H' ⟨a,F,kvs,rfl,s',hd',hkv,hWk⟩
 have hF63:=hn F hWk.nd hWk.f
 refine⟨_,rfl,d,kvs,F.map λ(k:Nat)=>(k:Int),rfl,hd', ?_,by rw[length_map];omega,λl ns' hl hp hs=> ?_⟩
 ·rw[hkv,map_map];rfl
 have hns:ns'=(ns'.map Int.toNat).map λ(k:Nat)=>(k:Int):=by
  rw[map_map]
  conv=>lhs;rw[<-List.map_id ns']
  refine List.map_congr_left λz hz=> ?_
  obtain⟨k,_,e⟩:=mem_map.mp (hp.mem_iff.mp hz)
  show z=((z.toNat:Nat):Int)
  rw[<-e];simp
 have hmem:∀k:Nat,k∈ns'.map Int.toNat↔k∈F:=λk=>by
  constructor
  ·intro hk
   obtain⟨z,hz,e⟩:=mem_map.mp hk
   obtain⟨j,hj,e2⟩:=mem_map.mp (hp.mem_iff.mp hz)
   have:j=k:=by rw[<-e,<-e2];simp
   subst this;exact hj
  ·intro hk
   exact mem_map.mpr ⟨(k:Int),hp.mem_iff.mpr (mem_map.mpr ⟨k,hk,rfl⟩),by simp⟩
 have hl':upd H' l (.lst (ns'.map V.int)) l=some (.lst (iv (ns'.map Int.toNat))):=by
  rw[upd_same]
  congr 2
  conv=>lhs;rw[hns]
  rw[map_map];rfl
 refine q l (ns'.map Int.toNat) _ (s'.trans (A5 hl _)) (s'.free hl) hl' ⟨?_,λk=>(hmem k).trans (hWk.done k)⟩
 have hnd:(ns'.map Int.toNat).Nodup:=by
  have h1:(F.map λ(k:Nat)=>(k:Int)).Nodup:=by
   refine List.Pairwise.map _ (λa b h=> ?_) hWk.nd
   intro e;apply h;omega
  have h2:ns'.Nodup:=hp.symm.nodup h1
  rw[hns]at h2
  exact List.Pairwise.of_map _ (λa b h e=>h (by rw[e])) h2
 have hle:(ns'.map Int.toNat).Pairwise (·<=·):=List.Pairwise.map _ (λa b h=>Int.toNat_le_toNat h) hs
 exact(hle.and hnd).imp λh=>Nat.lt_of_le_of_ne h.1 h.2
end
noncomputable abbrev s_swept:Stmt:=CL.top 9
abbrev axZ:List Str:=["cells","values","kept","new_numbers","number","kept_cells"]
theorem sc_swept:FnScope axZ TL (B0 s_swept):=fS
theorem QZ{C:Addr}{H:Hp}{o d L:Addr}(ho:H o=none)(hd:H d=none)(hn:d≠o)(hL:upd (upd H d (.own o)) o (.ins C d []) L=none):
  Same H (upd (upd (upd (upd H d (.own o)) o (.ins C d [])) L (.lst [])) o (.ins C d [("in_order",.ref L)]))/\CAt C (upd (upd (upd (upd H d (.own o)) o (.ins C d [])) L (.lst [])) o (.ins C d [("in_order",.ref L)])) o L []/\H L=none:=by
 have hLo:L≠o:=λe=>by subst e;rw[upd_same]at hL;cases hL
 have hL1:=hL
 rw[B8 hLo]at hL1
 have hLd:L≠d:=λe=>by subst e;rw[upd_same]at hL1;cases hL1
 rw[B8 hLd]at hL1
 refine⟨λb x hb=> ?_,⟨d,upd_same, ?_⟩,hL1⟩
 ·rw[B8 (C6 hb ho),B8 (C6 hb hL1),B8 (C6 hb ho),B8 (C6 hb hd)];exact hb
 ·rw[B8 hLo];exact upd_same
theorem Kept.nd{cs:List Cl}{ws:List Vl}{ks:List Nat}(h:Kept cs ws ks):ks.Nodup:=h.up.imp λh=>ne_of_lt h
theorem HC{ks:List Nat}(nd:ks.Nodup){j k:Nat}(h:ks[j]? =some k):ks.idxOf k=j:=by
 have hm:=mem_of_getElem? h
 have hlt:ks.idxOf k<ks.length:=List.idxOf_lt_length_of_mem hm
 have e:ks[ks.idxOf k]? =some k:=by
  rw[List.getElem?_eq_getElem hlt,List.getElem_idxOf hlt]
 exact(List.getElem?_inj hlt nd).mp (e.trans h.symm)
def M9(cs:List Cl)(k:Nat):Cl:=(cs[k]?).getD (.fn 0 [])
theorem DE{cs:List Cl}{k:Nat}{c:Cl}(h:cs[k]? =some c):M9 cs k=c:=by unfold M9;rw[h];rfl
theorem JX(xs:List Nat):(iv xs).length=xs.length:=length_map ..
theorem a1Z{xs:List Nat}{t i:Nat}(h:xs[t]? =some i):(iv xs)[t]? =some (.int (i:Nat)):=by unfold iv;rw[getElem?_map,h];rfl
section
variable{P:Program}{w:World}{K:FZ}{mg:Str->Option Value}{base:Heap}{f fi:Addr}{fd di:FuncData}{C:Addr}{mf:Str->Addr}{md:Str->FuncData}{BZ IX AQ:Addr}{CO JE AX:FuncData}
def ZW(o v kl d:Addr)(a4 a5:Option V):St:=[some (.ref o),some (.ref v),some (.ref kl),some (.ref d),a4,a5]
def QM(C:Addr):Sp:=λvs H Q _=>∃(o L v:Addr) (us xs:List V) (cs:List Cl) (ws:List Vl),vs=[.ref o,.ref v]/\CAt C H o L us/\All2 (ClAt H) cs us/\H v=some (.lst xs)/\All2 (VAt H) ws xs/\Okc cs/\Okv cs.length ws/\Few cs ws/\xs.length<=1000/\
 ∀t o' L' l us' ys ks H',Same H H'->Kept cs ws ks->H' t=some (.tup [.ref o',.ref l])->CAt C H' o' L' us'->All2 (ClAt H') (ks.map λk=>mvc ks (M9 cs k)) us'->H' l=some (.lst ys)->All2 (VAt H') (ws.map (mv ks)) ys->H o'=none->H L'=none->H l=none->l≠L'->Q (.ref t) H'
theorem ok_swept(F:Fun K "swept" "swept" s_swept f fd)(B:NoG mg)(RC:RCls K C mf md)(M_Cells:Mk K C fi)(m_Cells:mg "Cells"=some (.ref C))
  (G___init__:FnOk P w K mg base CX0 1 fi di G4 (OO C))(b___init__:Binds K di G4 [])
  (QF:FnOk P w K mg base CX0 1 (mf "put") (md "put") XO (XL C))(FB:FnOk P w K mg base CX0 1 (mf "at") (md "at") EN (ST C))
  (O1:Cn P w K mg base CX0 2 "numbers_led_to" TL (a6Z C))
  (T7:Cn P w K mg base CX0 2 "moved" ahZ KH)
  (U2:Cn P w K mg base CX0 3 "moved_cell" clZ DQ):
  FnOk P w K mg base CX0 4 f fd TL (QM C):=by
 obtain⟨BZ,CO,O1,CJ,CC,CF⟩:=O1
 obtain⟨IX,JE,T7,JI,JF,IZ⟩:=T7
 obtain⟨AQ,AX,U2,JL,JM,JD⟩:=U2
 refine F.ok sc_swept (λvs H Q E h=> ?_) (λcdv A outer s H vs Q E hr h=> ?_)
 ·obtain⟨o,L,v,us,xs,cs,ws,rfl,_⟩:=h
  rfl
 obtain⟨o,L,v,us,xs,cs,ws,rfl,hC,hU,hv,hX,hO,hV,hn,hx,q⟩:=h
 have nd:=sc_swept.nd
 have hu:=hr.units0
 have zz:(4000:Nat)<=sizeLine:=by decide
 obtain⟨dx,ho,hL⟩:=id hC
 refine⟨_,(A8 (C4 (i:=2) nd rfl (Or.inl rfl) (B9 O1 (hr.mono (by omega)) rfl CF CC CJ .nil C2 (A0 (pv 0) (A0 (pv 1) A6))))
   (A8 (C4 (i:=3) nd rfl (Or.inl rfl) LS)
   (A8 (G5 (X2 PassesOwn.never rfl (Z2 (K:=K) (pv 2)) (M5 (i:=4) nd rfl (Or.inl rfl)) (A9 (DG (C8 ctZ rfl B.len_ L9 (A0 (pv 3) A6)) (GJ (pv 3) (pv 4) (NF hr.units))))))
   (A8 (C4 (i:=5) nd rfl (Or.inl rfl) (MG M_Cells G___init__ (hr.mono (by omega)) rfl m_Cells b___init__ .nil C2))
   (A8 (G5 (X2 PassesOwn.never rfl (Z2 (K:=K) (pv 2)) (M5 (i:=4) nd rfl (Or.inl rfl)) (A9 (G2 (K1 (pv 5) RC.cl RC.m_put QF (hr.mono (by omega)) RC.b_put .nil C2 (A0 (B9 U2 (hr.mono (by omega)) rfl JD JM JL .nil C2 (A0 (K1 (pv 0) RC.cl RC.m_at FB (hr.mono (by omega)) RC.b_at .nil C2 (A0 (B4 (A0 B6 (A0 (pv 4) A6))) A6)) (A0 (pv 3) A6))) A6))))))
   (A9 (C0 (B4 (A0 (pv 5) (A0 (B9 T7 (hr.mono (by omega)) rfl IZ JF JI .nil C2 (A0 (pv 1) (A0 (pv 3) A6))) A6)))))))))), ?_⟩
 refine⟨_,rfl,_,rfl,o,L,v,us,xs,cs,ws,rfl,hC,hU,hv,hX,hO,hV,hn,hx,λkl ks H1 s1 hkl hk1 hK=> ?_⟩
 have hkn:ks.length<=63:=hn ks hK.nd λk hk=>(hK.is k).mp hk
 refine λd hd=> ?_
 have s2:=s1.trans (A5 hd (.dK []))
 have hk2:=(A5 hd (.dK [])) _ _ hk1
 have hd2:upd H1 d (.dK []) d=some (.dK []):=upd_same
 have hdH:H d=none:=s1.free hd
 have nkd:kl≠d:=λe=>by subst e;rw[hk1]at hd;cases hd
 generalize upd H1 d (.dK [])=H2 at s2 hk2 hd2⊢
 have wd':∀(Hx:Hp) (o:HO),Same H Hx->Same H (upd Hx d o):=λHx o a x u h=>by rw[B8 (λe=>by subst e;rw[hdH]at h;cases h)];exact a _ _ h
 refine⟨fun σ H'=>∃a4 kvs,σ=ZW o v kl d a4 none/\Same H H'/\H' kl=some (.lst (iv ks))/\H' d=some (.dK kvs)/\NN ks kvs, ?_, ?_⟩
 ·refine⟨_,rfl,kl,rfl,⟨_,SqL.of hk2⟩,BB (xs:=iv ks) (λi σ H'=>∃a4 kvs,σ=ZW o v kl d a4 none/\Same H H'/\H' kl=some (.lst (iv ks))/\H' d=some (.dK kvs)/\kvs.length=i/\kvs.map (·.1)=Q6 (ks.take i)/\∀j k,j<i->ks[j]? =some k->N8 kvs (.inl (k:Int))=some (.int (j:Nat))) ?_ ?_ ?_ ?_⟩
  ·exact⟨none,[],rfl,s2,hk2,hd2,rfl,rfl,λj k hj=>absurd hj (Nat.not_lt_zero _)⟩
  ·rintro i σ H' _ ⟨a4,kvs,rfl,_,hk',_⟩
   exact SqL.of hk'
  ·rintro i x σ H' hx' ⟨a4,kvs,rfl,s',hk',hd',rfl,hkeys,hval⟩
   have hi:kvs.length<ks.length:=by rw[<-JX];exact(List.getElem?_eq_some_iff.mp hx').1
   obtain⟨k,hk⟩:∃k,ks[kvs.length]? =some k:=⟨_,List.getElem?_eq_getElem hi⟩
   have ex:x=.int (k:Nat):=by rw[a1Z hk]at hx';exact(Option.some.inj hx').symm
   subst ex
   have hnot:k∉ks.take kvs.length:=λhm=>by
    obtain⟨j,hj,e⟩:=List.getElem_of_mem hm
    rw[length_take]at hj
    have e2:ks[j]? =some k:=by
     rw[List.getElem_take]at e
     rw[List.getElem?_eq_getElem (by omega),e]
    have:=HC hK.nd e2
    have:=HC hK.nd hk
    omega
   have hvn:N8 kvs (.inl (k:Int))=none:=by
    have:=JZ hkeys k
    rw[decide_eq_false hnot]at this
    cases h:N8 kvs (.inl (k:Int))with
    |none=>rfl
    |some z=>rw[h]at this;cases this
   refine⟨_,rfl,d,kvs,rfl,.inl hd',_,rfl,_,rfl,d,_,rfl,DPut.k (k:=.inl (k:Int)) hd' (by omega), ?_⟩
   rw[FX _ hvn]
   refine⟨_,kvs++ [(.inl (k:Int),.int (kvs.length:Nat))],rfl,wd' _ _ s',upd_at hk' nkd,upd_same,by rw[length_append];rfl, ?_,λj k' hj hjk=> ?_⟩
   ·rw[map_append,hkeys,take_succ,hk]
    unfold Q6
    rw[map_append];rfl
   ·rw[<-FX _ hvn,VY]
    by_cases c:j<kvs.length
    ·have hne:(Sum.inl (k':Int):Key)≠Sum.inl (k:Int):=λe=>by
      have e1:(k':Int)=(k:Int):=Sum.inl.inj e
      have e2:k'=k:=by omega
      subst e2
      have:=HC hK.nd hjk
      have:=HC hK.nd hk
      omega
     rw[if_neg hne]
     exact hval j k' c hjk
    ·have e:j=kvs.length:=by omega
     subst e
     rw[hk]at hjk
     cases hjk
     rw[if_pos rfl]
  ·rintro σ H' ⟨a4,kvs,rfl,s',hk',hd',hl,hkeys,hval⟩
   refine⟨a4,kvs,rfl,s',hk',hd',λk hk=> ?_⟩
   obtain⟨j,hj,e⟩:=List.getElem_of_mem hk
   have e2:ks[j]? =some k:=by rw[List.getElem?_eq_getElem hj,e]
   rw[HC hK.nd e2]
   exact hval j k (by rw[JX];exact hj) e2
 rintro σ H3 ⟨a4,kvs,rfl,s3,hk3,hd3,hN⟩
 refine λo2 d2 ho2 hd2' hn2=>⟨o2,d2,rfl,upd_same,λL2 hL2=>⟨rfl, ?_⟩⟩
 obtain⟨s4,hC4,hL2H⟩:=QZ (C:=C) ho2 hd2' hn2 hL2
 generalize upd (upd (upd (upd H3 d2 (.own o2)) o2 (.ins C d2 [])) L2 (.lst [])) o2 (.ins C d2 [("in_order",.ref L2)])=H4 at s4 hC4⊢
 have ho2H:H o2=none:=s3.free ho2
 have hL2H0:H L2=none:=s3.free hL2H
 have ndL:d≠L2:=λe=>by subst e;rw[hd3]at hL2H;cases hL2H
 have nkL:kl≠L2:=λe=>by subst e;rw[hk3]at hL2H;cases hL2H
 have wl:∀Hx Hy:Hp,Same H Hx->Bt L2 Hx Hy->Same H Hy:=λHx Hy a b x u h=>b x u (a _ _ h) λe=>by subst e;rw[hL2H0]at h;cases h
 refine⟨fun σ H'=>∃a4 us2,σ=ZW o v kl d a4 (some (.ref o2))/\Same H H'/\CAt C H' o2 L2 us2/\All2 (ClAt H') (ks.map λk=>mvc ks (M9 cs k)) us2/\H' d=some (.dK kvs), ?_, ?_⟩
 ·refine⟨_,rfl,kl,rfl,⟨_,SqL.of (s4 _ _ hk3)⟩,BB (xs:=iv ks) (λi σ H'=>∃a4 us2,σ=ZW o v kl d a4 (some (.ref o2))/\Same H H'/\CAt C H' o2 L2 us2/\us2.length=i/\All2 (ClAt H') ((ks.take i).map λk=>mvc ks (M9 cs k)) us2/\H' d=some (.dK kvs)/\H' kl=some (.lst (iv ks))) ?_ ?_ ?_ ?_⟩
  ·exact⟨a4,[],rfl,s3.trans s4,hC4,rfl,.nil,s4 _ _ hd3,s4 _ _ hk3⟩
  ·rintro i σ H' _ ⟨a4,us2,rfl,_,_,_,_,_,hk'⟩
   exact SqL.of hk'
  ·rintro i x σ H' hx' ⟨a4,us2,rfl,s',hC2,rfl,hA2,hd',hk'⟩
   have hi:us2.length<ks.length:=by rw[<-JX];exact(List.getElem?_eq_some_iff.mp hx').1
   obtain⟨k,hk⟩:∃k,ks[us2.length]? =some k:=⟨_,List.getElem?_eq_getElem hi⟩
   have ex:x=.int (k:Nat):=by rw[a1Z hk]at hx';exact(Option.some.inj hx').symm
   subst ex
   have hRk:=(hK.is k).mp (mem_of_getElem? hk)
   have hkn':=hRk.lt hO hV
   obtain⟨c,hck⟩:∃c,cs[k]? =some c:=⟨_,List.getElem?_eq_getElem hkn'⟩
   obtain⟨u,huk,hcu⟩:=hU.get' hck
   obtain⟨dx2,hi2,hl2⟩:=id hC2
   refine⟨_,rfl,o2,dx2,_,rfl,hi2,rfl,_,rfl,o,dx,_,rfl,s' _ _ ho,rfl,_,rfl,M8,λt ht=> ?_⟩
   have st:=A5 ht (.tup [.str "cell",.int (k:Nat)])
   have s5:=s'.trans st
   refine⟨o,L,us,t,k,u,rfl,hC.same s5,upd_same,huk,_,rfl,u,d,c,ks,kvs,rfl,hcu.mo (B5 s5),st _ _ hd',hN,λj hj=>(hK.is j).mpr (.step hRk hck hj),λu' H5 s6 hcl=> ?_⟩
   refine⟨o2,L2,us2,u',rfl,(hC2.same st).same s6,by omega,λp H6 hp6 bt6 hC6 _=> ?_⟩
   have hl5:H5 L2=some (.lst us2):=s6 _ _ (st _ _ hl2)
   have m6:Mo H5 H6:=bt6.tups hl5
   refine⟨_,us2++ [u'],rfl,wl H5 H6 (s5.trans s6) bt6,hC6,by rw[length_append];rfl, ?_,bt6 _ _ (s6 _ _ (st _ _ hd')) ndL,bt6 _ _ (s6 _ _ (st _ _ hk')) nkL⟩
   rw[take_succ,hk,map_append]
   refine((hA2.imp λ_ _ z=>ClAt.mo (λb zs e=>m6 _ _ (s6 _ _ (st _ _ e))) z)).app (.cons ?_ .nil)
   show ClAt H6 (mvc ks (M9 cs k)) u'
   rw[DE hck]
   exact hcl.mo m6
  ·rintro σ H' ⟨a4,us2,rfl,s',hC2,hl,hA2,hd',hk'⟩
   rw[JX,take_length]at hA2
   exact⟨a4,us2,rfl,s',hC2,hA2,hd'⟩
 rintro σ H5 ⟨a4,us2,rfl,s5,hC5,hA5,hd5⟩
 obtain⟨dx5,hi5,hl5⟩:=id hC5
 refine⟨_,rfl,_,rfl,_,rfl,v,d,xs,ws,ks,kvs,rfl,.inl (s5 _ _ hv),hX.imp λ_ _ z=>VAt.mo (B5 s5) z,by omega,hd5,hN,λk hk=>(hK.is k).mpr (.root hk),λl ys H6 s6 hl hl6 hA6=>⟨M8,λt ht=> ?_⟩⟩
 have s7:=s6.trans (A5 ht (.tup [.ref o2,.ref l]))
 refine q t o2 L2 l us2 ys ks _ (s5.trans s7) hK upd_same (hC5.same s7) (hA5.imp λ_ _ z=>ClAt.mo (B5 s7) z) ((A5 ht _) _ _ hl6) (hA6.imp λ_ _ z=>VAt.mo (B5 (A5 ht _)) z) ho2H hL2H0 (s5.free hl) λe=> ?_
 subst e
 rw[hl5]at hl
 cases hl
end
end SW
namespace BV
open PySem L2
seal PE PT PW PA PS PSs PTs PI PG PGs PO
noncomputable def top(i:Nat):Stmt:=PySem.Challenge.pw_speakmill_k67_ends.main.body.getD i (.Pass ⟨0,0,0,0⟩)
noncomputable abbrev s_built_up:Stmt:=top 1
abbrev FO:List Str:=["root","parts_in","made","met","waiting","node","parts","done","many","made_parts"]
theorem sc_built_up:FnScope FO anZ (B0 s_built_up):=fS
structure NoG (mg:Str->Option Value):Prop where
 len_:mg "len"=none
 list_:mg "list"=none
 reversed_:mg "reversed"=none
 range_:mg "range"=none
 zip_:mg "zip"=none
 isinstance_:mg "isinstance"=none
 str_:mg "str"=none
 tuple_:mg "tuple"=none
 sum_:mg "sum"=none
 max_:mg "max"=none
 min_:mg "min"=none
 int_:mg "int"=none
 bool_:mg "bool"=none
 enumerate_:mg "enumerate"=none
 all_:mg "all"=none
theorem ifT{c A B:Prop}[Decidable c](h:c)(a:A):if c then A else B:=by rw[if_pos h];exact a
theorem ifF{c A B:Prop}[Decidable c](h:¬c)(b:B):if c then A else B:=by rw[if_neg h];exact b
theorem upd_at{H:Hp}{a b:Addr}{o o':HO}(h:H b=some o)(n:b≠a):upd H a o' b=some o:=by rw[B8 n];exact h
theorem XR{H:Hp}{a b:Addr}{o':HO}(h:upd H a o' b=none):H b=none/\b≠a:=by
 by_cases e:b=a
 ·subst e;rw[upd_same]at h;cases h
 ·rw[B8 e]at h;exact⟨h,e⟩
theorem MN(y:V)(ws:List V):(y::ws).reverse[(y::ws).reverse.length - 1]? =some y:=by
 rw[reverse_cons]
 simp
theorem NJ(y:V)(ws:List V):(y::ws).reverse.dropLast=ws.reverse:=by
 rw[reverse_cons]
 simp
theorem ceZ{ws us:List V}(h:ws.reverse=us):ws=us.reverse:=by rw[<-h,List.reverse_reverse]
theorem YS{α:Type}{A:List α}{k:Nat}{t:α}(h:A[k]? =some t):A.take (k+1)=A.take k++ [t]:=by
 obtain⟨h1,h2⟩:=List.getElem?_eq_some_iff.mp h
 rw[take_succ_eq_append_getElem h1,h2]
def akZ(D:Tr)(O:AS):Sp:=λvs H Q _=>∃S t v l us,vs=[v,.ref l]/\D.val S H t v/\D.size t<=400000/\H l=some (.lst us)/\¬S l/\¬O l/\(∀a,S a->H a≠none)/\All2 (D.res S H) (D.kids t) us/\∀r H',Same H H'->D.res S H' t r->Q r H'
def FN(P:Program)(w:World)(K:FZ)(mg:Str->Option Value)(base:Heap):Sp:=λvs H Q _=>∃(D:Tr) (S O:AS) (t:D.T) (v:V) (fp fm:Addr) (dp dm:FuncData) (np nm:List Str),
 vs=[v,.ref fp,.ref fm]/\FnOk P w K mg base CX0 3 fp dp np (spP D)/\GE K base fp/\Binds K dp np []/\FnOk P w K mg base CX0 3 fm dm nm (akZ D O)/\GE K base fm/\Binds K dm nm []/\
 (∀a,S a->H a≠none)/\(∀a,O a->H a≠none)/\D.val S H t v/\D.size t<=400000/\∀r H',Same H H'->D.res S H' t r->Q r H'
section
variable{P:Program}{w:World}{K:FZ}{mg:Str->Option Value}{base:Heap}{f:Addr}{fd:FuncData}
theorem ok_built_up(F:Fun K "built_up" "built_up" s_built_up f fd)(B:NoG mg):FnOk P w K mg base CX0 4 f fd anZ (FN P w K mg base):=by
 refine F.ok sc_built_up (λvs H Q E h=> ?_) (λcdv A outer s H vs Q E hr h=> ?_)
 ·obtain⟨D,S,O,t,v,fp,fm,dp,dm,np,nm,rfl,_⟩:=h
  rfl
 obtain⟨D,S,O,t,v,fp,fm,dp,dm,np,nm,rfl,FP,kp,bp,FM,km,bm,hSo,hOo,hval,hsz,q⟩:=h
 have nd:=sc_built_up.nd
 have hu:=hr.units0
 have z1:(1:Nat)<=sizeLine:=by decide
 have z2:(2:Nat)<=sizeLine:=by decide
 have z3:(400000:Nat)+400000<sizeLine:=by decide
 refine⟨_,(A8 (C4 (i:=3) nd rfl (Or.inl rfl) (J8 A6))
   (A8 (C4 (i:=4) nd rfl (Or.inl rfl) (J8 (A0 (pv 0) A6)))
   (A8 (BG PassesOwn.never (K7 (K:=K) (pv 4) (λ_=>rfl)) (A8 (C4 (i:=5) nd rfl (Or.inl rfl) (ND (K:=K) PySem.F.plainAttrs_list PySem.F.slot_list_pop PySem.F.type_list_pop HE (pv 4)))
   (A8 (C4 (i:=6) nd rfl (Or.inl rfl) (IU (P:=P) (w:=w) (K:=K) (mg:=mg) (base:=base) (pv 1) C2 (A0 (pv 5) A6)))
   (A8 (G2 (HP (K:=K) PySem.F.plainAttrs_list PySem.F.slot_list_append PySem.F.type_list_append O5 (pv 3) (A0 (B4 (A0 (pv 5) (A0 (C8 (P4 (K:=K)) rfl B.len_ L9 (A0 (pv 6) A6)) A6))) A6)))
   (A9 (G2 (HP (K:=K) PySem.F.plainAttrs_list PySem.F.slot_list_extend PySem.F.type_list_extend UO (pv 4) (A0 (PD (K:=K) rfl B.reversed_ rfl B.list_ rfl (A0 (pv 6) A6)) A6))))))))
   (A8 (C4 (i:=7) nd rfl (Or.inr rfl) (J8 A6))
   (A8 (X2 PassesOwn.never rfl (cbZ (K:=K) rfl B.reversed_ (A0 (pv 3) A6)) (YM rfl (X4 (M5 (i:=5) nd rfl (Or.inl rfl)) (X4 (M5 (i:=8) nd rfl (Or.inl rfl)) QO))) (A8 (AK (i:=9) nd rfl rfl (cS (N:=FO) (sc:=B0 s_built_up) (caps:=[7]) (ns:=["done"])) rfl rfl rfl (Q0 rfl B.range_ (A0 (pv 8) A6)) (λ_ _ _ _ _=>Z0) (λ_ _ _ _ _=>(ND (K:=K) PySem.F.plainAttrs_list PySem.F.slot_list_pop PySem.F.type_list_pop HE (pv 1))))
   (A9 (G2 (HP (K:=K) PySem.F.plainAttrs_list PySem.F.slot_list_append PySem.F.type_list_append O5 (pv 7) (A0 (IU (P:=P) (w:=w) (K:=K) (mg:=mg) (base:=base) (pv 2) C2 (A0 (pv 5) (A0 (pv 9) A6))) A6))))))
   (A9 (C0 (ND (K:=K) PySem.F.plainAttrs_list PySem.F.slot_list_pop PySem.F.type_list_pop HE (pv 7))))))))), ?_⟩
 refine⟨(by show 0<=sizeLine;decide),λml hml=> ?_⟩
 refine⟨_,rfl,z1,λwl hwl0=> ?_⟩
 obtain⟨hwl,nwm⟩:=XR hwl0
 have g0:Same H (upd (upd H ml (.lst [])) wl (.lst [v])):=(A5 hml _).trans (A5 hwl0 _)
 obtain⟨S1,w1,hS1,mS,wS,sub1⟩:∃S1:AS,Wd H S S1/\(∀H':Hp,Same H H'->H' ml≠none->H' wl≠none->∀a,S1 a->H' a≠none)/\S1 ml/\S1 wl/\∀a,S a->S1 a:=by
  refine⟨λa=>S a\/a=ml\/a=wl,λa ha=> ?_,λH' sm h1 h2 a ha=> ?_,.inr (.inl rfl),.inr (.inr rfl),λa h=> .inl h⟩
  ·rcases ha with h|rfl|rfl
   ·exact .inl h
   ·exact .inr hml
   ·exact .inr hwl
  ·rcases ha with h|rfl|rfl
   ·obtain⟨o,ho⟩:=ne_none_iff_exists'.mp (hSo a h)
    rw[sm _ _ ho];exact λz=>nomatch z
   ·exact h1
   ·exact h2
 have hval1:=D.vw w1 hval
 refine⟨λm σ H'=>∃(N W:List D.T) (ms ws:List V) (y1 y2:Option V),σ=[some v,some (.ref fp),some (.ref fm),some (.ref ml),some (.ref wl),y1,y2,none,none,none]/\Same H H'/\H' ml=some (.lst ms)/\H' wl=some (.lst ws)/\
   All2 (MetAt D S1 H') N ms/\All2 (D.val S1 H') W ws.reverse/\Reach D t N W/\m=(W.map D.size).sum,
  ⟨D.size t,[],[t],[],[v],none,none,rfl,g0,upd_at upd_same (Ne.symm nwm),upd_same,.nil,.cons (D.vm (.of g0) hval1) .nil,.start,by simp⟩, ?_⟩
 rintro m σ H' ⟨N,W,ms,ws,y1,y2,rfl,sm,hm,hw,hN,hW,hR,rfl⟩
 have hms:=hN.len
 have hRs:=hR.size
 refine⟨_,rfl, !ws.isEmpty,.inl ⟨ws,SqL.of hw,rfl⟩, ?_⟩
 generalize ew:ws.reverse=wr at hW
 have ew:=ceZ ew
 subst ew
 cases hW with
 | @cons n u W' wr hn hW'=>
  refine ifT (by simp) ?_
  refine⟨_,λ_ _ h=>h, ?_⟩
  refine⟨_,rfl,.inl ⟨rfl,_,SqL.of hw⟩,wl,_,_,rfl,rfl,hw,MN _ _, ?_⟩
  rw[NJ]
  have t1:Kp S1 H' (upd H' wl (.lst wr.reverse)):=.upd wS hw _
  have hm1:upd H' wl (.lst wr.reverse) ml=some (.lst ms):=upd_at hm (Ne.symm nwm)
  have hw1:upd H' wl (.lst wr.reverse) wl=some (.lst wr.reverse):=upd_same
  have o1:Same H (upd H' wl (.lst wr.reverse)):=λb o e=>upd_at (sm b o e) (C6 e hwl)
  generalize upd H' wl (.lst wr.reverse)=H1 at t1 hm1 hw1 o1⊢
  have hkn:=D.kids_le n
  have hszn:D.size n<=400000:=by simp only[map_cons,sum_cons]at hRs;omega
  refine⟨_,rfl,fp,dp,np,spP D,3,rfl,FP,hr.mono (by decide),kp,bp,_,rfl,S1,n,u,rfl,D.vm t1 hn,hszn,λr H2 ps s2 hr1 hr2 hps=> ?_⟩
  have hm2:=s2 _ _ hm1
  have hw2:=s2 _ _ hw1
  have o2:=o1.trans s2
  have t2:Kp S1 H' H2:=t1.trans (.of s2)
  have nrw:r≠wl:=λe=>by subst e;rw[hw1]at hr1;cases hr1
  have nrm:r≠ml:=λe=>by subst e;rw[hm1]at hr1;cases hr1
  have hpl:=hps.len
  refine⟨_,rfl,.inl ⟨rfl,_,SqL.of hm2⟩,_,rfl,_,rfl,_,_,rfl,.inl ⟨_,SqL.of hr2,rfl⟩,z2,λp hp=> ?_⟩
  have s3:Same H2 (upd H2 p (.tup [u,.int (ps.length:Nat)])):=A5 hp _
  refine⟨ml,_,_,rfl,rfl,s3 _ _ hm2,by omega, ?_⟩
  have t4:Kp S1 H' (upd (upd H2 p (.tup [u,.int (ps.length:Nat)])) ml (.lst (ms++ [.ref p]))):=(t2.trans (.of s3)).trans (.upd mS (s3 _ _ hm2) _)
  have hp4:upd (upd H2 p (.tup [u,.int (ps.length:Nat)])) ml (.lst (ms++ [.ref p])) p=some (.tup [u,.int (ps.length:Nat)]):=upd_at upd_same (λe=>by subst e;rw[hm2]at hp;cases hp)
  have hm4:upd (upd H2 p (.tup [u,.int (ps.length:Nat)])) ml (.lst (ms++ [.ref p])) ml=some (.lst (ms++ [.ref p])):=upd_same
  have hw4:upd (upd H2 p (.tup [u,.int (ps.length:Nat)])) ml (.lst (ms++ [.ref p])) wl=some (.lst wr.reverse):=upd_at (s3 _ _ hw2) nwm
  have hr4:upd (upd H2 p (.tup [u,.int (ps.length:Nat)])) ml (.lst (ms++ [.ref p])) r=some (.lst ps):=upd_at (s3 _ _ hr2) nrm
  have o4:Same H (upd (upd H2 p (.tup [u,.int (ps.length:Nat)])) ml (.lst (ms++ [.ref p]))):=λb o e=>upd_at (s3 _ _ (o2 b o e)) (C6 e hml)
  have t24:Kp S1 H2 (upd (upd H2 p (.tup [u,.int (ps.length:Nat)])) ml (.lst (ms++ [.ref p]))):=(Kp.of s3).trans (.upd mS (s3 _ _ hm2) _)
  generalize upd (upd H2 p (.tup [u,.int (ps.length:Nat)])) ml (.lst (ms++ [.ref p]))=H4 at t4 hp4 hm4 hw4 hr4 o4 t24⊢
  refine⟨_,rfl,.inl ⟨rfl,_,SqL.of hw4⟩,_,rfl,r,ps,rfl,SqL.of hr4,λr2 hr2'=> ?_⟩
  have s5:Same H4 (upd H4 r2 (.lst ps.reverse)):=A5 hr2' _
  have hWl:=D.len_le W'
  have hWe:=hW'.len
  refine⟨wl,r2,_,_,rfl,rfl,s5 _ _ hw4,upd_same, ?_, ?_⟩
  ·simp only[length_reverse]
   simp only[map_cons,sum_cons]at hRs
   omega
  have t6:Kp S1 H4 (upd (upd H4 r2 (.lst ps.reverse)) wl (.lst (wr.reverse++ps.reverse))):=(Kp.of s5).trans (.upd wS (s5 _ _ hw4) _)
  refine⟨_, ?_,N++ [n],D.kids n++W',ms++ [.ref p],wr.reverse++ps.reverse,_,_,rfl,λb o e=>upd_at (s5 _ _ (o4 b o e)) (C6 e hwl),upd_at (s5 _ _ hm4) (Ne.symm nwm),upd_same, ?_, ?_,.step hR,rfl⟩
  ·simp only[map_append,sum_append,map_cons,sum_cons]
   have:=D.hsz n
   omega
  ·refine(hN.imp λa b h=>h.mono (t4.trans t6)).app (.cons ⟨p,u,rfl, ?_,D.vm (t4.trans t6) hn⟩ .nil)
   rw[hpl]
   exact t6.tups hp4
  ·rw[List.reverse_append,List.reverse_reverse,List.reverse_reverse]
   exact(hps.imp λa b h=>D.vm (t24.trans t6) h).app (hW'.imp λa b h=>D.vm (t4.trans t6) h)
 |nil=>
  refine ifF (by simp) ?_
  refine⟨(by show 0<=sizeLine;decide),λdl hdl=> ?_⟩
  have s7:Same H' (upd H' dl (.lst [])):=A5 hdl _
  have hdl0:H dl=none:=sm.free hdl
  have ndm:dl≠ml:=λe=>by subst e;rw[hm]at hdl;cases hdl
  have hm':H' ml≠none:=by rw[hm];exact λz=>nomatch z
  have hw':H' wl≠none:=by rw[hw];exact λz=>nomatch z
  have ndw:dl≠wl:=λe=>by subst e;rw[hw]at hdl;cases hdl
  obtain⟨S2,w2,hS2,dS,sub2⟩:∃S2:AS,Wd H' S1 S2/\(∀H2:Hp,Same H H2->H2 ml≠none->H2 wl≠none->H2 dl≠none->∀a,S2 a->H2 a≠none)/\S2 dl/\∀a,S a->S2 a:=by
   refine⟨λa=>S1 a\/a=dl,λa ha=> ?_,λH2 sm2 h1 h2 h3 a ha=> ?_,.inr rfl,λa h=> .inl (sub1 a h)⟩
   ·rcases ha with h|rfl
    ·exact .inl h
    ·exact .inr hdl
   ·rcases ha with h|rfl
    ·exact hS1 H2 sm2 h1 h2 a h
    ·exact h3
  have hN2:=hN.imp λa b h=>h.wide w2
  refine⟨_,rfl,ml,ms,rfl,SqL.of (s7 _ _ hm),ZZ (xs:=ms) (λi σ H'=>∃(W:List D.T) (us:List V) (y1 y2 y3 y4:Option V),σ=[some v,some (.ref fp),some (.ref fm),some (.ref ml),some (.ref wl),y1,y2,some (.ref dl),y3,y4]/\Same H H'/\H' ml=some (.lst ms)/\H' wl≠none/\
   All2 (MetAt D S2 H') N ms/\H' dl=some (.lst us.reverse)/\All2 (D.res S2 H') W us/\Reach D t (N.take (N.length - i)) W) ?_ ?_ ?_ ?_⟩
  ·exact⟨[],[],_,_,_,_,rfl,sm.trans s7,s7 _ _ hm,(by rw[s7 _ _ hw];exact λz=>nomatch z),hN2.imp λa b h=>h.mono (.of s7),upd_same,.nil,by rw[sub_zero,take_length];exact hR⟩
  ·rintro i σ H' _ ⟨W,us,y1,y2,y3,y4,rfl,sm,hm,_⟩
   exact SqL.of hm
  ·rintro i x σ H' hx ⟨W,us,y1,y2,y3,y4,rfl,sm,hm,hwn,hN,hd,hW,hRi⟩
   have hi:i<ms.length:=by
    have:=(List.getElem?_eq_some_iff.mp hx).1
    simpa using this
   rw[getElem?_reverse hi]at hx
   obtain⟨n,hn,p,u,rfl,hp,hu'⟩:=hN.get hx
   have e1:N.length - i=(ms.length - 1 - i)+1:=by omega
   rw[e1,YS hn]at hRi
   obtain⟨r,rfl,hRb⟩:=hRi.back
   obtain⟨b1,b2,rfl,hb1,hb2⟩:=hW.split
   have hbl:=hb1.len
   have hkn:=D.kids_le n
   have hRs2:=hRb.size
   have hszn:D.size n<=400000:=by simp only[map_cons,sum_cons]at hRs2;omega
   refine⟨p,_,rfl,SqT.of hp,rfl,_,_,rfl,_,_,rfl,rfl, ?_⟩
   refine⟨_,rfl,((D.kids n).length:Nat),rfl,by omega,by omega,AL (n:=(D.kids n).length) (λj ys H2=>ys=b1.take j/\H2=upd H' dl (.lst (b1.drop j++b2).reverse)) ?_ ?_ ?_ ?_⟩
   ·exact⟨rfl,by rw[List.drop_zero];exact(cxZ hd).symm⟩
   ·rintro j ys H2 hj ⟨rfl,_⟩
    rw[length_take]
    omega
   ·rintro j ys H2 hj ⟨rfl,rfl⟩
    refine CZ ?_
    have hjb:j<b1.length:=by omega
    have ed:b1.drop j=b1[j]::b1.drop (j+1):=List.drop_eq_getElem_cons hjb
    rw[ed]
    refine⟨_,rfl,.inl ⟨rfl,_,SqL.of upd_same⟩,dl,_,_,rfl,rfl,upd_same,MN _ _, ?_⟩
    refine⟨?_, ?_⟩
    ·rw[take_succ_eq_append_getElem hjb]
    ·rw[RA]
     congr 2
     exact NJ _ _
   ·rintro ys H2 ⟨rfl,rfl⟩ l hl
    rw[hbl,List.drop_length,take_length,nil_append]at*
    have s8:Same (upd H' dl (.lst b2.reverse)) (upd (upd H' dl (.lst b2.reverse)) l (.lst b1)):=A5 hl _
    have t8:Kp S2 H' (upd (upd H' dl (.lst b2.reverse)) l (.lst b1)):=(Kp.upd dS hd _).trans (.of s8)
    have wn8:upd (upd H' dl (.lst b2.reverse)) l (.lst b1) wl≠none:=by
     obtain⟨o,ho⟩:=ne_none_iff_exists'.mp hwn
     rw[s8 _ _ (upd_at ho (Ne.symm ndw))];exact λz=>nomatch z
    have hd8:upd (upd H' dl (.lst b2.reverse)) l (.lst b1) dl=some (.lst b2.reverse):=s8 _ _ upd_same
    have hl8:upd (upd H' dl (.lst b2.reverse)) l (.lst b1) l=some (.lst b1):=upd_same
    have hm8:upd (upd H' dl (.lst b2.reverse)) l (.lst b1) ml=some (.lst ms):=s8 _ _ (upd_at hm (Ne.symm ndm))
    have o8:Same H (upd (upd H' dl (.lst b2.reverse)) l (.lst b1)):=λb o e=>s8 _ _ (upd_at (sm b o e) (C6 e hdl0))
    have hS8:=hS2 _ o8 (by rw[hm8];exact λz=>nomatch z) wn8 (by rw[hd8];exact λz=>nomatch z)
    have nlS:¬S2 l:=λz=>by
     refine hS2 _ (λb o e=>upd_at (sm b o e) (C6 e hdl0)) ?_ ?_ (by rw[upd_same];exact λz=>nomatch z) l z hl
     ·rw[upd_at hm (Ne.symm ndm)];exact λz=>nomatch z
     ·obtain⟨o,ho⟩:=ne_none_iff_exists'.mp hwn
      rw[upd_at ho (Ne.symm ndw)];exact λz=>nomatch z
    have nlO:¬O l:=λz=>by
     obtain⟨o,ho⟩:=ne_none_iff_exists'.mp (hOo l z)
     rw[upd_at (sm l o ho) (C6 ho hdl0)]at hl
     cases hl
    generalize upd (upd H' dl (.lst b2.reverse)) l (.lst b1)=H8 at s8 t8 hd8 hl8 hm8 o8 wn8 hS8⊢
    refine⟨_,rfl,.inl ⟨rfl,_,SqL.of hd8⟩,_,rfl,fm,dm,nm,akZ D O,3,rfl,FM,hr.mono (by decide),km,bm,_,rfl,_,rfl,S2,n,u,l,b1,rfl,D.vm t8 hu',hszn,hl8,nlS,nlO,hS8,hb1.imp λa b h=>D.rm t8 h,λy H9 s9 hy=> ?_⟩
    have hb2l:=hb2.len
    have hrl:=D.len_le r
    refine⟨dl,_,_,rfl,rfl,s9 _ _ hd8, ?_, ?_⟩
    ·rw[length_reverse]
     simp only[map_cons,sum_cons]at hRs2
     omega
    have t9:Kp S2 H9 (upd H9 dl (.lst (b2.reverse++ [y]))):=.upd dS (s9 _ _ hd8) _
    have t89:Kp S2 H' (upd H9 dl (.lst (b2.reverse++ [y]))):=(t8.trans (.of s9)).trans t9
    have wn9:upd H9 dl (.lst (b2.reverse++ [y])) wl≠none:=by
     obtain⟨o,ho⟩:=ne_none_iff_exists'.mp wn8
     rw[upd_at (s9 _ _ ho) (Ne.symm ndw)];exact λz=>nomatch z
    refine⟨n::r,y::b2,_,_,_,_,rfl,λb o e=>upd_at (s9 _ _ (o8 b o e)) (C6 e hdl0),upd_at (s9 _ _ hm8) (Ne.symm ndm),wn9,hN.imp λa b h=>h.mono t89, ?_,.cons (D.rm t9 hy) (hb2.imp λa b h=>D.rm t89 h), ?_⟩
    ·rw[reverse_cons];exact upd_same
    ·have e2:N.length - (i+1)=ms.length - 1 - i:=by omega
     rw[e2];exact hRb
  ·rintro σ H' ⟨W,us,y1,y2,y3,y4,rfl,sm,hm,hwn,hN,hd,hW,hRi⟩
   rw[<-hms,Nat.sub_self,List.take_zero]at hRi
   cases hRi.first
   cases hW with
   | @cons _ y _ us hy hrest=>
    cases hrest
    refine⟨_,rfl,.inl ⟨rfl,_,SqL.of hd⟩,dl,_,_,rfl,rfl,hd,rfl, ?_⟩
    exact q y _ (λb o e=>upd_at (sm b o e) (C6 e hdl0)) (D.rw' (λa ha=> .inl (sub2 a ha)) (D.rm (.upd dS hd _) hy))
end
end BV
namespace PL
open PySem L2 BV CL
inductive Pv where
 |int (i:Int)|bl (b:Bool)|nil|cons (h t:Pv)
noncomputable def heads:Pv->List Pv
 | .cons h t=>h::heads t
 |_=> []
noncomputable def size:Pv->Nat
 | .cons h t=>size h+size t
 |_=>1
theorem GQ:∀t:Pv,1<=size t
 | .int _=>Nat.le_refl _
 | .bl _=>Nat.le_refl _
 | .nil=>Nat.le_refl _
 | .cons h t=>le_trans (GQ h) (Nat.le_add_right _ _)
theorem RK:∀t:Pv,size t=1+((heads t).map size).sum
 | .int _=>rfl
 | .bl _=>rfl
 | .nil=>rfl
 | .cons h t=>by
  show size h+size t=1+((h::heads t).map size).sum
  rw[map_cons,sum_cons,RK t];omega
def VR(H:Hp)(us:List V):Pv->V->Prop
 | .int i,v=>v=.int i
 | .bl b,v=>v=.bl b
 | .nil,v=>v=.non
 | .cons h t,v=>∃(p:Addr) (k:Nat) (c:Addr) (hv tv:V),v=.ref p/\H p=some (.tup [.str "cell",.int (k:Nat)])/\us[k]? =some (.ref c)/\H c=some (.tup [.str "pair",hv,tv])/\VR H us h hv/\VR H us t tv
theorem VR.mono{H H':Hp}{us:List V}(m:Mo H H'):∀ {t:Pv} {v:V},VR H us t v->VR H' us t v
 | .int _,_,h=>h
 | .bl _,_,h=>h
 | .nil,_,h=>h
 | .cons _ _,_,⟨p,k,c,hv,tv,e,h1,h2,h3,h4,h5⟩=>⟨p,k,c,hv,tv,e,m _ _ h1,h2,m _ _ h3,VR.mono m h4,VR.mono m h5⟩
noncomputable def R(ok:AS)(H:Hp):Pv->(V->Prop)×(List V->Prop)
 | .int i=>(λv=>v=.int i,λrs=>rs=[])
 | .bl b=>(λv=>v=.bl b,λrs=>rs=[])
 | .nil=>(λv=>∃a,v=.ref a/\H a=some (.lst [])/\ok a,λrs=>rs=[])
 | .cons h t=>(λv=>∃a r rs,v=.ref a/\H a=some (.lst (r::rs))/\ok a/\(R ok H h).1 r/\(R ok H t).2 rs,λrs=>∃r rs',rs=r::rs'/\(R ok H h).1 r/\(R ok H t).2 rs')
theorem R.of_items{ok:AS}{H:Hp}:∀ {t:Pv} {rs:List V},All2 (λt r=>(R ok H t).1 r) (heads t) rs->(R ok H t).2 rs
 | .int _,_,h=>by cases h;rfl
 | .bl _,_,h=>by cases h;rfl
 | .nil,_,h=>by cases h;rfl
 | .cons _ _,_,h=>by cases h with|cons h1 h2=>exact⟨_,_,rfl,h1,R.of_items h2⟩
theorem R.mono{ok ok':AS}{H H':Hp}(m:∀a xs,ok a->H a=some (.lst xs)->H' a=some (.lst xs)/\ok' a):∀ {t:Pv},(∀ {v:V},(R ok H t).1 v->(R ok' H' t).1 v)/\∀ {rs:List V},(R ok H t).2 rs->(R ok' H' t).2 rs
 | .int _=>⟨λh=>h,λh=>h⟩
 | .bl _=>⟨λh=>h,λh=>h⟩
 | .nil=>⟨λ⟨a,e,h1,h2⟩=>⟨a,e,(m a _ h2 h1).1,(m a _ h2 h1).2⟩,λh=>h⟩
 | .cons h t=>⟨λ⟨a,r,rs,e,h1,h2,h3,h4⟩=>⟨a,r,rs,e,(m a _ h2 h1).1,(m a _ h2 h1).2,(R.mono m (t:=h)).1 h3,(R.mono m (t:=t)).2 h4⟩,
  λ⟨r,rs,e,h3,h4⟩=>⟨r,rs,e,(R.mono m (t:=h)).1 h3,(R.mono m (t:=t)).2 h4⟩⟩
theorem c5Z{S:AS}{H H':Hp}(k:Kp S H H'):Mo H H':=k.1
noncomputable def Dt(C o L:Addr)(us:List V)(O:AS):Tr where
 T:=Pv
 kids:=heads
 size:=size
 val:=λS H t v=>CAt C H o L us/\¬S o/\¬S L/\VR H us t v
 res:=λS H t r=>(R (λa=>¬O a/\¬S a) H t).1 r
 hsz:=RK
 vm:=λk ⟨⟨dx,h1,h2⟩,n1,n2,h⟩=>⟨⟨dx,k.2 _ _ h1 n1,k.2 _ _ h2 n2⟩,n1,n2,h.mono (c5Z k)⟩
 rm:=λk h=>(R.mono λa xs ha e=>⟨k.2 _ _ e ha.2,ha⟩).1 h
 vw:=λwd ⟨⟨dx,h1,h2⟩,n1,n2,h⟩=>⟨⟨dx,h1,h2⟩,λz=>(wd _ z).elim n1 (λe=>by rw[h1]at e;cases e),λz=>(wd _ z).elim n2 (λe=>by rw[h2]at e;cases e),h⟩
 rw':=λwd h=>(R.mono λa xs ha e=>⟨e,ha.1,λz=>(wd _ z).elim ha.2 λq=>by rw[e]at q;cases q⟩).1 h
end PL
namespace PL
open PySem L2 BV CL
seal PE PT PW PA PS PSs PTs PI PG PGs PO
noncomputable abbrev s_is_cell:Stmt:=CL.top 4
noncomputable abbrev s_heads_of:Stmt:=CL.top 6
noncomputable abbrev s_with_heads:Stmt:=CL.top 7
abbrev CT:List Str:=["value"]
theorem sc_is_cell:FnScope CT HN (B0 s_is_cell):=fS
abbrev OQ:List Str:=["cells","value","found","rest","cell"]
theorem sc_heads_of:FnScope OQ MJ (B0 s_heads_of):=fS
abbrev JS:List Str:=["value","heads"]
theorem sc_with_heads:FnScope JS VM (B0 s_with_heads):=fS
section
variable{P:Program}{w:World}{K:FZ}{mg:Str->Option Value}{base:Heap}{C fi f fic:Addr}{di fd dic:FuncData}{mf:Str->Addr}{md:Str->FuncData}
noncomputable def isC(t:Pv):Bool:=match t with
 | .cons _ _=>true
 |_=>false
theorem bdZ{H:Hp}{us:List V}{t:Pv}{v:V}(h:VR H us t v):∃ty,TyOf K H v ty/\kitOne K ty (.type "tuple")=some (isC t):=by
 cases t with
 |int i=>cases h;exact⟨_,.int i,rfl⟩
 |bl b=>cases h;exact⟨_,.bl b,rfl⟩
 |nil=>cases h;exact⟨_,.non,rfl⟩
 |cons a b=>obtain⟨p,k,c,hv,tv,rfl,h1,_⟩:=h;exact⟨_,.tup h1,PF⟩
def bUZ(K:FZ):Sp:=λvs H Q _=>∃x ty b,vs=[x]/\TyOf K H x ty/\kitOne K ty (.type "tuple")=some b/\Q (.bl b) H
theorem ok_is_cell(F:Fun K "is_cell" "is_cell" s_is_cell f fd)(B:CL.NoG mg):FnOk P w K mg base CX0 1 f fd HN (bUZ K):=by
 refine F.ok sc_is_cell (λvs H Q E h=> ?_) (λcdv A outer s H vs Q E hr h=> ?_)
 ·obtain⟨x,ty,b,rfl,_⟩:=h
  rfl
 obtain⟨x,ty,b,rfl,h1,h2,q⟩:=h
 have nd:=sc_is_cell.nd
 refine⟨_,(A9 (C0 (C8 (T5 (K:=K)) rfl B.isinstance_ D7 (A0 (pv 0) (A0 (K6 (v:=.ty "tuple") rfl B.tuple_ N5 rfl) A6))))), ?_⟩
 exact⟨_,rfl,_,_,_,_,rfl,h1,h2,q⟩
def QX(C:Addr):Sp:=λvs H Q _=>∃(o L:Addr) (us:List V) (t:Pv) (v:V),vs=[.ref o,v]/\CAt C H o L us/\VR H us t v/\size t<=400000/\∀r ps,H r=none->All2 (VR H us) (heads t) ps->Q (.ref r) (upd H r (.lst ps))
theorem ok_heads_of(F:Fun K "heads_of" "heads_of" s_heads_of f fd)(RC:RCls K C mf md)(FB:∀k,FnOk P w K mg base CX0 (k+1) (mf "at") (md "at") EN (ST C))
  (K3:FnOk P w K mg base CX0 1 fic dic HN (bUZ K))(O3:mg "is_cell"=some (.ref fic))(O2:kZ K (.ref fic)=true)(O0:Binds K dic HN []):
  FnOk P w K mg base CX0 2 f fd MJ (QX C):=by
 refine F.ok sc_heads_of (λvs H Q E h=> ?_) (λcdv A outer s H vs Q E hr h=> ?_)
 ·obtain⟨o,L,us,t,v,rfl,_⟩:=h
  rfl
 obtain⟨o,L,us,t,v,rfl,hc,ht,hz,q⟩:=h
 have nd:=sc_heads_of.nd
 have hu:=hr.units0
 have zz:(400000:Nat)<sizeLine:=by decide
 have FB:=FB 0
 refine⟨_,(A8 (C4 (i:=2) nd rfl (Or.inl rfl) (J8 A6))
   (A8 (C4 (i:=3) nd rfl (Or.inl rfl) (pv 1))
   (A8 (G5 (BG PassesOwn.never (K7 (K:=K) (B9 K3 (hr.mono (by omega)) rfl O3 O2 O0 .nil C2 (A0 (pv 3) A6)) (λ_=>rfl)) (A8 (C4 (i:=4) nd rfl (Or.inl rfl) (K1 (pv 0) RC.cl RC.m_at FB (hr.mono (by omega)) RC.b_at .nil C2 (A0 (pv 3) A6)))
   (A8 (G2 (HP (K:=K) PySem.F.plainAttrs_list PySem.F.slot_list_append PySem.F.type_list_append O5 (pv 2) (A0 (ixE K w (pv 4) A7) A6)))
   (A9 (C4 (i:=3) nd rfl (Or.inl rfl) (ixE K w (pv 4) A7)))))))
   (A9 (C0 (pv 2)))))), ?_⟩
 refine⟨(by show 0<=sizeLine;decide),λfl hfl=> ?_⟩
 have sm:∀ps,Same H (upd H fl (.lst ps)):=λps=>A5 hfl _
 refine⟨_,rfl,fun σ H'=>∃ps y1 y2,σ=[some (.ref o),some v,some (.ref fl),y1,y2]/\H'=upd H fl (.lst ps)/\All2 (VR H us) (heads t) ps, ?_, ?_⟩
 ·refine⟨λm σ H'=>∃(t':Pv) (rest:V) (hs:List Pv) (ps:List V) (y2:Option V),σ=[some (.ref o),some v,some (.ref fl),some rest,y2]/\H'=upd H fl (.lst ps)/\VR H us t' rest/\heads t=hs++heads t'/\All2 (VR H us) hs ps/\hs.length+size t'<=400000/\m=size t',
   ⟨size t,t,v,[],[],none,rfl,rfl,ht,rfl,.nil,by simpa using hz,rfl⟩, ?_⟩
  rintro m σ H' ⟨t',rest,hs,ps,y2,rfl,rfl,hr',hh,hA,hl,rfl⟩
  have hm:Mo H (upd H fl (.lst ps)):=B5 (sm ps)
  obtain⟨ty,h1,h2⟩:=bdZ (K:=K) (hr'.mono hm)
  refine⟨_,rfl,_,_,_,rfl,h1,h2, ?_⟩
  refine⟨isC t',rfl, ?_⟩
  have hsz:=hA.len
  cases t' with
  |cons a b=>
   refine CL.ifT rfl ⟨_,λ_ _ h=>h, ?_⟩
   obtain⟨p,k,c,hv,tv,rfl,p1,p2,p3,p4,p5⟩:=hr'
   obtain⟨dx,c1,c2⟩:=hc
   have hfp:upd H fl (.lst ps) fl=some (.lst ps):=upd_same
   refine⟨_,rfl,o,dx,_,rfl,sm ps _ _ c1,rfl,_,rfl,o,L,us,p,k,.ref c,rfl,⟨dx,sm ps _ _ c1,sm ps _ _ c2⟩,hm _ _ p1,p2, ?_⟩
   have hsp:=GQ a
   have hsp2:=GQ b
   have e5:size (Pv.cons a b)=size a+size b:=rfl
   refine⟨_,rfl,.inl ⟨rfl,_,SqL.of hfp⟩,_,rfl,(ixT (hm _ _ p3) rfl ⟨fl,ps,_,rfl,rfl,hfp,by omega, ?_⟩)⟩
   rw[RA]
   refine⟨_,rfl,(ixT (B5 (sm _) _ _ p3) rfl ?_)⟩
   exact⟨size b,by omega,b,tv,hs++ [a],ps++ [hv],_,rfl,rfl,p5,by rw[hh];simp[heads],hA.app (.cons p4 .nil),by rw[length_append,length_singleton];omega,rfl⟩
  |int i=>exact CL.ifF nZ ⟨ps,_,_,rfl,rfl,by rw[hh];simpa [heads]using hA⟩
  |bl i=>exact CL.ifF nZ ⟨ps,_,_,rfl,rfl,by rw[hh];simpa [heads]using hA⟩
  |nil=>exact CL.ifF nZ ⟨ps,_,_,rfl,rfl,by rw[hh];simpa [heads]using hA⟩
 ·rintro σ H' ⟨ps,y1,y2,rfl,rfl,hA⟩
  exact⟨_,rfl,q fl ps hfl hA⟩
theorem ok_with_heads{o L:Addr}{us:List V}{O:AS}(F:Fun K "with_heads" "with_heads" s_with_heads f fd)
  (K3:FnOk P w K mg base CX0 1 fic dic HN (bUZ K))(O3:mg "is_cell"=some (.ref fic))(O2:kZ K (.ref fic)=true)(O0:Binds K dic HN []):
  FnOk P w K mg base CX0 2 f fd VM (akZ (Dt C o L us O) O):=by
 refine F.ok sc_with_heads (λvs H Q E h=> ?_) (λcdv A outer s H vs Q E hr h=> ?_)
 ·obtain⟨S,t,v,l,rs,rfl,_⟩:=h
  rfl
 obtain⟨S,t,v,l,rs,rfl,⟨hc,n1,n2,hv⟩,hz,hl,nS,nO,hS,hA,q⟩:=h
 have nd:=sc_with_heads.nd
 have hu:=hr.units0
 obtain⟨ty,h1,h2⟩:=bdZ (K:=K) hv
 have hA':All2 (λt r=>(R (λa=>¬O a/\¬S a) H t).1 r) (heads t) rs:=hA
 have fin:∀r,(R (λa=>¬O a/\¬S a) H t).1 r->Q r H:=λr h=>q r H (λ_ _ e=>e) h
 refine⟨_,(A9 (C0 (Q4 (PW.pt (IA (C7 KS (pv 0) S0 rfl) (FS (K7 (K:=K) (B9 K3 (hr.mono (by omega)) rfl O3 O2 O0 .nil C2 (A0 (pv 0) A6)) (λ_=>rfl))))) (pv 1) (pv 0)))), ?_⟩
 cases t with
 |int i=>cases hv;exact⟨_,rfl,rfl,_,rfl,CL.ifF (by simp) ⟨_,rfl,_,_,_,rfl,h1,h2,_,rfl,CL.ifF nZ ⟨_,rfl,fin _ rfl⟩⟩⟩
 |bl i=>cases hv;exact⟨_,rfl,rfl,_,rfl,CL.ifF (by simp) ⟨_,rfl,_,_,_,rfl,h1,h2,_,rfl,CL.ifF nZ ⟨_,rfl,fin _ rfl⟩⟩⟩
 |nil=>cases hv;cases hA';exact⟨_,rfl,rfl,_,rfl,CL.ifT (by simp) (CL.ifT rfl ⟨_,rfl,fin _ ⟨l,rfl,hl,nO,nS⟩⟩)⟩
 |cons a b=>
  obtain⟨p,k,c,hv,tv,rfl,_⟩:=hv
  cases hA' with
  |cons r1 r2=>exact⟨_,rfl,rfl,_,rfl,CL.ifF (by simp) ⟨_,rfl,_,_,_,rfl,h1,h2,_,rfl,CL.ifT rfl ⟨_,rfl,fin _ ⟨l,_,_,rfl,hl,⟨nO,nS⟩,r1,R.of_items r2⟩⟩⟩⟩
end
noncomputable abbrev s_plain:Stmt:=CL.top 5
noncomputable abbrev ayZ:List Str:=["cells","value"]
theorem sc_plain:FnScope ayZ MJ (B0 s_plain):=fS
def aUZ:Expr:=match D9 s_plain with
 | [.Return (some (.Call _ [_,l,_] _ _)) _]=>l
 |_=> .Constant .none 0 ⟨0,0,0,0⟩
def cpZ:Arguments:=match aUZ with
 | .Lambda p _ _ _=>p
 |_=>⟨[],[],none,[],[],none,[]⟩
noncomputable def cjZ:Expr:=match aUZ with
 | .Lambda _ b _ _=>b
 |e=>e
noncomputable def lamS:Scope:=match aUZ with
 | .Lambda _ _ s _=>s
 |_=> {kind:=.function,names:=[],isGenerator:=false,isCoroutine:=false}
noncomputable def lamAt:Pos:=match aUZ with
 | .Lambda _ _ _ p=>p
 |_=>⟨0,0,0,0⟩
theorem bMZ:∀y∈lamS.names,y.2=.free->y.1∈(["cells"]:List Str):=by decide +kernel
theorem ckZ:LamScope ["one"] ["cells"] lamS:=⟨rfl,rfl,rfl,by decide +kernel,by decide +kernel,by decide +kernel,λx h=>bMZ _ (PySem.mem_of_lookup h) rfl,by decide +kernel⟩
noncomputable def lamQ:Str:=("plain":Str)++ ".<locals>."++ "<lambda>"
noncomputable def clos(n:Nat):List (Str×Addr):=[("cells",n+1)]
theorem amZ(n f:Addr)(cdv:Value):closureFor lamS (PyProof.Rows.envOfC "plain" (B0 s_plain) n f cdv)=pure (clos n):=by rfl
section
variable{P:Program}{w:World}{K:FZ}{mg:Str->Option Value}{base:Heap}{C f fic fh fb fw c Pt:Addr}{fd dic dh db dw:FuncData}{mf:Str->Addr}{md:Str->FuncData}
theorem cap{CX:CXT}{cdv:Value}{A:Around}{outer:List Env}{s:Shared}{H:Hp}{E:XK}:CapOk (MP CX P w K mg base MJ "plain" (B0 s_plain) f cdv A outer s H E).nox (clos s.heap.objs.size) ["cells"] [0]:=by
 refine⟨λx c h=> ?_,λx h=> ?_,λx h=> ?_,λx h=>rfl,λi x h=> ?_,rfl⟩
 ·show x∈(["cells"]:List Str)/\(clos s.heap.objs.size).lookup x=some c
  refine⟨?_,h⟩
  unfold clos at h
  rw[lookup_cons]at h
  split at h
  ·rename_i e;rw[beq_iff_eq.mp e];exact mem_cons_self
  ·cases h
 ·have e:x="cells":=by simpa using h
  subst e;exact⟨_,rfl⟩
 ·have e:x="cells":=by simpa using h
  subst e;rfl
 ·cases i with
  |zero=>have e:("cells":Str)=x:=by simpa using h
         subst e;exact⟨0,rfl,rfl⟩
  |succ i=>simp at h
def spPlain(C Pt:Addr):Sp:=λvs H Q _=>∃(o L:Addr) (us:List V) (t:Pv) (v:V),vs=[.ref o,v]/\CAt C H o L us/\VR H us t v/\size t<=400000/\FH H Pt lamAt lamQ/\
 ∀r H',(∀b ob,H b=some ob->b≠Pt->H' b=some ob)->FH H' Pt lamAt lamQ->(R (λa=>H a=none) H' t).1 r->Q r H'
theorem ok_plain(F:Fun K "plain" "plain" s_plain f fd)(hcode:fd.code=.ref c)(CH:PySem.W.CodeHd base c Pt)(BT:base.BuiltinsAt mg Pt)
  (OM:∀base,FnOk P w K mg base CX0 4 fb db anZ (FN P w K mg base))(OI:mg "built_up"=some (.ref fb))(OJ:kZ K (.ref fb)=true)(NR:Binds K db anZ [])
  (OA:∀base,FnOk P w K mg base CX0 2 fh dh MJ (QX C))(OG:mg "heads_of"=some (.ref fh))(OB:kZ K (.ref fh)=true)(NY:Binds K dh MJ [])
  (JN:∀(base:Heap) (o L:Addr) (us:List V) (O:AS),FnOk P w K mg base CX0 2 fw dw VM (akZ (Dt C o L us O) O))(JA:mg "with_heads"=some (.ref fw))(IY:kZ K (.ref fw)=true)(JJ:Binds K dw VM []):
  FnOk P w K mg base CX0 5 f fd MJ (spPlain C Pt):=by
 refine F.okC sc_plain (λvs H Q E h=> ?_) (λcdv A outer s H vs Q E hcd hr h=> ?_)
 ·obtain⟨o,L,us,t,v,rfl,_⟩:=h
  rfl
 obtain rfl:Value.ref c=cdv:=hcode.symm.trans hcd
 obtain⟨o,L,us,t,v,rfl,hc,hv,hz,hT,q⟩:=h
 have nd:=sc_plain.nd
 refine⟨_,A9 (C0 (VS (name:="<lambda>") (qual:=lamQ) (params:=cpZ) (body:=cjZ) (scope:=lamS) (clos:=clos s.heap.objs.size) (pm:=(mg "__name__").getD .none) (fs:=["cells"]) (js:=[0]) (sp:=FN P w K mg) OM hr rfl OI OJ NR cap
  (A0 (pv 1) (A0 (cmZ (params:=cpZ) (body:=cjZ) (scope:=lamS) (pos:=lamAt) (pm:=(mg "__name__").getD .none) rfl rfl (amZ _ _ _) rfl CH BT) (A0 (BI (v:=.ref fw) rfl JA rfl) A6))))), ?_⟩
 refine⟨v,rfl,hT,λfl c' H1 hfn hF hC hT1 n1 n2 n3 hO hK=> ?_⟩
 refine⟨fl,c',[.ref o],⟨rfl,λi j h=> ?_⟩,hF,hC,n1,λbase' LA CA=> ?_⟩
 ·cases i with
  |zero=>have e:0=j:=by simpa using h
         subst e;exact⟨_,rfl,rfl⟩
  |succ i=>simp at h
 obtain⟨ctv,hfo⟩:=LA.fn
 generalize hH2:del (del H1 fl) c'=H2
 have keep2:∀b ob,H1 b=some ob->b≠fl->b≠c'->H2 b=some ob:=λb ob e a1 a2=>by rw[<-hH2,X8 a2,X8 a1];exact e
 have keepL:∀b ob,H b=some ob->b≠Pt->(∀φ,ob≠ .ext φ)->H2 b=some ob:=λb ob e a1 a2=>by
  have e1:=hK b ob e a1
  refine keep2 b ob e1 (λz=> ?_) (λz=> ?_)
  ·rw[z,hfn]at e;cases e
  ·rw[z,hC]at e1;exact a2 _ (Option.some.inj e1).symm
 obtain⟨qs,hqP,_⟩:=id hT
 have neP:∀ {b:Addr} {ob:HO},H b=some ob->(∀ps,ob≠ .tbl ps)->b≠Pt:=λ{b ob} e a z=>by rw[z,hqP]at e;exact a _ (Option.some.inj e).symm
 have hm2:Mo H H2:=λb xs e=>keepL b _ e (neP e λps z=>nomatch z) fun φ z=>nomatch z
 have hc2:CAt C H2 o L us:=by
  obtain⟨dx,h1,h2⟩:=hc
  exact⟨dx,keepL _ _ h1 (neP h1 (λps z=>nomatch z)) (fun φ z=>nomatch z),keepL _ _ h2 (neP h2 (λps z=>nomatch z)) (fun φ z=>nomatch z)⟩
 have FP:FnOk P w K mg base' CX0 3 fl (PySem.W.kla_fn "<lambda>" lamQ cpZ cjZ lamS (clos s.heap.objs.size) ((mg "__name__").getD .none) (.ref c') ctv) ["one"] (spP (Dt C o L us λa=>H2 a≠none)):=by
  refine bzZ hfo rfl LA.cd ckZ CA (λvs H Q E h=> ?_) (λA outer s H vs Q E hr h=> ?_)
  ·obtain⟨S,t,v,rfl,_⟩:=h
   rfl
  obtain⟨S,t,v,rfl,⟨hc,n1,n2,hv⟩,hz,q⟩:=h
  refine⟨_,B9 (OA base') hr rfl OG OB NY .nil C2 (A0 (pv 1) (A0 (pv 0) A6)), ?_⟩
  refine⟨_,rfl,_,rfl,o,L,us,t,v,rfl,hc,hv,hz,λr ps hr hA=> ?_⟩
  have sm:=A5 hr (.lst ps)
  exact q r _ ps sm hr upd_same (hA.imp λa b h=>⟨hc.same sm,n1,n2,h.mono (B5 sm)⟩)
 refine⟨Dt C o L us λa=>H2 a≠none,λ_=>False,λa=>H2 a≠none,t,v,fl,fw,_,dw,["one"],VM,rfl,FP,.inr LA.fnAt,.all (λus hl=>match us,hl with| [_],_=>rfl),(JN base' o L us _).mono (by decide),.inl IY,JJ,
  λa h=>h.elim,λa h=>h,⟨hc2,id,id,hv.mono hm2⟩,hz,λr H' sm hres hf' hc'=> ?_⟩
 have up:∀ {b:Addr} {ob:HO},H' b=some ob->upd H' c' (CodeO lamQ c') b=some ob:=λ{b ob} e=>by rw[B8 (C6 e hc')];exact e
 have k1:∀b ob,H1 b=some ob->b≠fl->upd H' c' (CodeO lamQ c') b=some ob:=λb ob e a=>by
  by_cases z:b=c'
  ·rw[z,hC]at e;cases e;rw[z];exact upd_same
  ·exact up (sm b ob (keep2 b ob e a z))
 refine q r _ (λb ob e a=>k1 b ob (hK b ob e a) λz=>by rw[z,hfn]at e;cases e) ?_ ?_
 ·obtain⟨ps,e1,e2,e3⟩:=hT1
  exact TabHit.ok ⟨ps,k1 _ _ e1 (Ne.symm n2),e2,e3⟩ upd_same
 ·refine(R.mono (λa xs ha e=>⟨up e, ?_⟩)).1 hres
  have a1:a≠c':=C6 e hc'
  have a2:a≠fl:=C6 e hf'
  have a3:H2 a=none:=by
   cases z:H2 a with
   |none=>rfl
   |some y=>exact absurd (show H2 a≠none by rw[z];simp) ha.1
  rw[<-hH2,X8 a1,X8 a2]at a3
  cases z:H a with
  |none=>rfl
  |some y=>
   by_cases p:a=Pt
   ·obtain⟨ps,e1,_⟩:=hT1
    rw[p,e1]at a3;cases a3
   ·rw[hK a y z p]at a3;cases a3
end
end PL
namespace MC
open PySem L2 BV CL SW
inductive Rw where
 |own (rk:Rk)|back|call (b m:Nat)|apply
structure Bk where
 par:Nat
 sz:Nat
 rows:List Rw
structure Fr where
 k:Nat
 at_:Nat
 sl:List Vl
 st:List Vl
inductive Ou where
 |value (v:Vl)|refused (w:Str)|dry|deep
structure Ms where
 cs:List Cl
 frs:List Fr
 out:Option Ou
 r:Nat
 c:Nat
inductive Eo2 where
 |fr (d:Nat) (sl st:List Vl)|rf (w:Str)|new (c:Cl) (st:List Vl)
inductive Er (cs:List Cl) (sl:List Vl):Rk->List Vl->Eo2->Prop
 |push {v st}:scV v=true->Er cs sl (.push v) st (.fr 1 sl (st++ [.sc v]))
 |non {st}:Er cs sl .non st (.fr 1 sl (st++ [.sc .non]))
 |load {j v st}:sl[j]? =some v->Er cs sl (.load j) st (.fr 1 sl (st++ [v]))
 |keep {j v st}:j<sl.length->Er cs sl (.keep j) (st++ [v]) (.fr 1 (sl.take j++ [v]++sl.drop (j+1)) st)
 |twoV {k a b v st}:k<6->Bd a->Bd b->NM.tw k a b=[.str "value",v]->scV v=true->Er cs sl (.two k) (st++ [.sc (.int a),.sc (.int b)]) (.fr 1 sl (st++ [.sc v]))
 |twoR {k a b w st}:k<6->Bd a->Bd b->NM.tw k a b=[.str "refused",.str w]->Er cs sl (.two k) (st++ [.sc (.int a),.sc (.int b)]) (.rf w)
 |cons {x y st}:Er cs sl .cons (st++ [x,y]) (.new (.pair x y) st)
 |headN {st}:Er cs sl .head (st++ [.sc .non]) (.rf "head")
 |tailN {st}:Er cs sl .tail (st++ [.sc .non]) (.rf "tail")
 |head {j h t st}:cs[j]? =some (.pair h t)->Er cs sl .head (st++ [.cell j]) (.fr 1 sl (st++ [h]))
 |tail {j h t st}:cs[j]? =some (.pair h t)->Er cs sl .tail (st++ [.cell j]) (.fr 1 sl (st++ [t]))
 |emptyN {st}:Er cs sl .empty (st++ [.sc .non]) (.fr 1 sl (st++ [.sc (.bl true)]))
 |empty {j st}:Er cs sl .empty (st++ [.cell j]) (.fr 1 sl (st++ [.sc (.bl false)]))
 |not {b st}:Er cs sl .not (st++ [.sc (.bl b)]) (.fr 1 sl (st++ [.sc (.bl (!b))]))
 |skip {n st}:Er cs sl (.skip n) st (.fr (1+n) sl st)
 |unless {n b st}:Er cs sl (.unless n) (st++ [.sc (.bl b)]) (.fr (1+if b=true then 0 else n) sl st)
 |close {b n st xs}:xs.length=n->n<=10->Er cs sl (.close b n) (st++xs) (.new (.fn b xs) st)
def MK(bs:List Bk)(f:Fr):Option Rw:=(bs[f.k]?).bind λb=>b.rows[f.at_]?
noncomputable def begun(n sz:Nat)(vs:List Vl):Fr:=⟨n,0,vs++List.replicate (sz - vs.length) (.sc .non),[]⟩
def FK(w:Rw):Prop:=(∃b m,w=.call b m)\/w=.apply
inductive Act (bs:List Bk) (most:Nat) (cs:List Cl) (fs:List Fr) (f:Fr) (r c:Nat):Rw->Ms->Prop
 |own {rk d sl st}:Er cs f.sl rk f.st (.fr d sl st)->Act bs most cs fs f r c (.own rk) ⟨cs,fs++ [⟨f.k,f.at_+d,sl,st⟩],none,r+1,c⟩
 |new {rk cl st}:Er cs f.sl rk f.st (.new cl st)->Act bs most cs fs f r c (.own rk) ⟨cs++ [cl],fs++ [⟨f.k,f.at_+1,f.sl,st++ [.cell cs.length]⟩],none,r+1,c⟩
 |rf {rk w}:Er cs f.sl rk f.st (.rf w)->Act bs most cs fs f r c (.own rk) ⟨cs,[],some (.refused w),r+1,c⟩
 |last {v st}:fs=[]->f.st=st++ [v]->Act bs most cs fs f r c .back ⟨cs,[],some (.value v),r+1,c⟩
 |back {gs g v st}:fs=gs++ [g]->f.st=st++ [v]->Act bs most cs fs f r c .back ⟨cs,gs++ [⟨g.k,g.at_,g.sl,g.st++ [v]⟩],none,r+1,c⟩
 |dry {w}:FK w->most<=c->Act bs most cs fs f r c w ⟨cs,[],some .dry,r+1,c⟩
 |deep {w}:FK w->c<most->60<=fs.length+1->Act bs most cs fs f r c w ⟨cs,[],some .deep,r+1,c+1⟩
 |call {b bk st xs}:c<most->fs.length+1<60->f.st=st++xs->bs[b]? =some bk->xs.length<=bk.sz->Act bs most cs fs f r c (.call b xs.length) ⟨cs,fs++ [⟨f.k,f.at_+1,f.sl,st⟩]++ [begun b bk.sz xs],none,r+1,c+1⟩
 |apply {b bk st j xs x}:c<most->fs.length+1<60->f.st=st++ [.cell j,x]->cs[j]? =some (.fn (b:Nat) xs)->bs[b]? =some bk->xs.length+1<=bk.sz->
  Act bs most cs fs f r c .apply ⟨cs,fs++ [⟨f.k,f.at_+1,f.sl,st⟩]++ [begun b bk.sz (xs++ [x])],none,r+1,c+1⟩
def bKZ(bs:List Bk)(most:Nat)(S S':Ms):Prop:=∃cs fs f r c w,S=⟨cs,fs++ [f],none,r,c⟩/\MK bs f=some w/\Act bs most cs fs f r c w S'
structure Small (S:Ms):Prop where
 cs:S.cs.length<=500
 frs:S.frs.length<=60
 fr:∀f∈S.frs,f.sl.length<=100/\f.st.length<=100
noncomputable def rwV:Rw->List V
 | .own rk=>rkV rk
 | .back=> [.str "back"]
 | .call b m=> [.str "call",.int (b:Nat),.int (m:Nat)]
 | .apply=> [.str "apply"]
def RwAt(H:Hp)(r:Rw)(u:V):Prop:=∃p,u=.ref p/\H p=some (.tup (rwV r))
def BAt(H:Hp)(b:Bk)(u:V):Prop:=∃t rs us,u=.ref t/\H t=some (.tup [.int (b.par:Nat),.int (b.sz:Nat),.ref rs])/\H rs=some (.tup us)/\All2 (RwAt H) b.rows us/\b.sz<=100
def FAt(H:Hp)(f:Fr)(u:V):Prop:=∃p sl st,u=.ref p/\FrAt H p (f.k:Nat) (f.at_:Nat) sl st/\All2 (VAt H) f.sl sl/\All2 (VAt H) f.st st
def OAt(H:Hp):Option Ou->V->Prop
 |none,u=>u=.non
 |some (.value x),u=>∃p v,u=.ref p/\H p=some (.tup [.str "value",v])/\VAt H x v
 |some (.refused w),u=>∃p,u=.ref p/\H p=some (.tup [.str "refused",.str w])
 |some .dry,u=>∃p,u=.ref p/\H p=some (.tup [.str "dry"])
 |some .deep,u=>∃p,u=.ref p/\H p=some (.tup [.str "deep"])
theorem RwAt.mo{H H':Hp}(m:Mo H H'){r:Rw}{u:V}(h:RwAt H r u):RwAt H' r u:=let⟨p,e,h1⟩:=h;⟨p,e,m _ _ h1⟩
theorem BAt.mo{H H':Hp}(m:Mo H H'){b:Bk}{u:V}(h:BAt H b u):BAt H' b u:=
 let⟨t,rs,us,e,h1,h2,h3,h4⟩:=h;⟨t,rs,us,e,m _ _ h1,m _ _ h2,h3.imp λ_ _ z=>RwAt.mo m z,h4⟩
theorem FAt.mo{H H':Hp}(m:Mo H H'){f:Fr}{u:V}(h:FAt H f u):FAt H' f u:=
 let⟨p,sl,st,e,⟨q,e',h1,h2,h3⟩,h4,h5⟩:=h;⟨p,sl,st,e,⟨q,e',m _ _ h1,m _ _ h2,m _ _ h3⟩,h4.imp λ_ _ z=>VAt.mo m z,h5.imp λ_ _ z=>VAt.mo m z⟩
theorem OAt.mo{H H':Hp}(m:Mo H H'):∀ {o:Option Ou} {u:V},OAt H o u->OAt H' o u
 |none,_,h=>h
 |some (.value _),_,⟨p,v,e,h1,h2⟩=>⟨p,v,e,m _ _ h1,VAt.mo m h2⟩
 |some (.refused _),_,⟨p,e,h1⟩=>⟨p,e,m _ _ h1⟩
 |some .dry,_,⟨p,e,h1⟩=>⟨p,e,m _ _ h1⟩
 |some .deep,_,⟨p,e,h1⟩=>⟨p,e,m _ _ h1⟩
structure Ad where
 m:Addr
 dx:Addr
 bl:Addr
 o:Addr
 L:Addr
 s:Addr
noncomputable def Ad.own(A:Ad):List Addr:=[A.m,A.bl,A.o,A.L,A.s]
noncomputable def J3(A:Ad)(most:Int)(out:V)(r c:Int):List (Str×V):=[("blocks",.ref A.bl),("most",.int most),("store",.ref A.o),("standing",.ref A.s),("outcome",out),("rows_so_far",.int r),("calls_so_far",.int c)]
structure MR (CM C:Addr) (H:Hp) (A:Ad) (bs us fs:List V) (most:Int) (out:V) (r c:Int):Prop where
 m:H A.m=some (.ins CM A.dx (J3 A most out r c))
 bl:H A.bl=some (.lst bs)
 o:CAt C H A.o A.L us
 s:H A.s=some (.lst fs)
 nLs:A.L≠A.s
 nbs:A.bl≠A.s
 nbL:A.bl≠A.L
structure MAt (CM C:Addr) (H:Hp) (A:Ad) (bs:List Bk) (most:Nat) (S:Ms):Prop where
 ex:∃vb us fs out,MR CM C H A vb us fs (most:Nat) out (S.r:Nat) (S.c:Nat)/\All2 (BAt H) bs vb/\All2 (ClAt H) S.cs us/\All2 (FAt H) S.frs fs/\OAt H S.out out
def Kq(A:Ad)(H H':Hp):Prop:=∀b ob,H b=some ob->b∉A.own->H' b=some ob
theorem MR.ntup{CM C:Addr}{H:Hp}{A:Ad}{bs us fs:List V}{most r c:Int}{out:V}(h:MR CM C H A bs us fs most out r c){b:Addr}{xs:List V}(e:H b=some (.tup xs)):b∉A.own:=λhm=>by
 obtain⟨dx,ho,hL⟩:=h.o
 simp only[Ad.own,mem_cons,not_mem_nil,or_false]at hm
 rcases hm with z|z|z|z|z<;>rw[z]at e
 ·rw[h.m]at e;cases e
 ·rw[h.bl]at e;cases e
 ·rw[ho]at e;cases e
 ·rw[hL]at e;cases e
 ·rw[h.s]at e;cases e
theorem MR.mo{CM C:Addr}{H H':Hp}{A:Ad}{bs us fs:List V}{most r c:Int}{out:V}(h:MR CM C H A bs us fs most out r c)(k:Kq A H H'):Mo H H':=λ_ _ e=>k _ _ e (h.ntup e)
theorem MAt.same{CM C:Addr}{H H':Hp}{A:Ad}{bs:List Bk}{most:Nat}{S:Ms}(h:MAt CM C H A bs most S)(s:Same H H'):MAt CM C H' A bs most S:=by
 obtain⟨vb,us,fs,out,h1,h2,h3,h4,h5⟩:=h.ex
 have m:Mo H H':=B5 s
 exact⟨vb,us,fs,out,⟨s _ _ h1.m,s _ _ h1.bl,h1.o.same s,s _ _ h1.s,h1.nLs,h1.nbs,h1.nbL⟩,h2.imp λ_ _ z=>BAt.mo m z,h3.imp λ_ _ z=>ClAt.mo m z,h4.imp λ_ _ z=>FAt.mo m z,h5.mo m⟩
inductive EoR (H:Hp):Eo2->Eo->Prop
 |fr {d sl st sl' st'}:All2 (VAt H) sl sl'->All2 (VAt H) st st'->EoR H (.fr d sl st) (.fr (d:Nat) sl' st')
 |rf {w}:EoR H (.rf w) (.rf w)
 |pair {x y st x' y' st'}:VAt H x x'->VAt H y y'->All2 (VAt H) st st'->EoR H (.new (.pair x y) st) (.pair st' x' y')
 |fn {b:Nat} {xs st xs' st'}:All2 (VAt H) xs xs'->xs.length<=10->All2 (VAt H) st st'->EoR H (.new (.fn (b:Nat) xs) st) (.fn st' b xs')
theorem E4{α β:Type}{R:α->β->Prop}:∀ {as bs:List α} {cs:List β},All2 R (as++bs) cs->∃ds es,cs=ds++es/\All2 R as ds/\All2 R bs es
 | [],bs,cs,h=>⟨[],cs,rfl,.nil,h⟩
 |a::as,bs,cs,h=>by
  cases h with
  |cons h1 h2=>
   obtain⟨ds,es,e,h3,h4⟩:=E4 h2
   exact⟨_::ds,es,by rw[e];rfl,.cons h1 h3,h4⟩
theorem D4{α β:Type}{R:α->β->Prop}{as:List α}{a:α}{cs:List β}(h:All2 R (as++ [a]) cs):∃ds d,cs=ds++ [d]/\All2 R as ds/\R a d:=by
 obtain⟨ds,es,e,h1,h2⟩:=E4 h
 cases h2 with
 |cons h3 h4=>cases h4;exact⟨ds,_,e,h1,h3⟩
theorem M0{α β:Type}{R:α->β->Prop}{as:List α}{bs:List β}(h:All2 R as bs):∀ {j:Nat} {a:α},as[j]? =some a->∃b,bs[j]? =some b/\R a b:=by
 induction h with
 |nil=>intro j a e;simp at e
 |cons h _ ih=>
  intro j a e
  cases j with
  |zero=>simp only[List.getElem?_cons_zero,Option.some.injEq]at e;subst e;exact⟨_,rfl,h⟩
  |succ j=>simp only[List.getElem?_cons_succ]at e⊢;exact ih e
theorem IQ{α β:Type}{R:α->β->Prop}{as:List α}{bs:List β}(h:All2 R as bs):∀n,All2 R (as.take n) (bs.take n):=by
 induction h with
 |nil=>intro n;simp only[List.take_nil];exact .nil
 |cons h _ ih=>
  intro n
  cases n with
  |zero=>exact .nil
  |succ n=>exact .cons h (ih n)
theorem all2_drop{α β:Type}{R:α->β->Prop}{as:List α}{bs:List β}(h:All2 R as bs):∀n,All2 R (as.drop n) (bs.drop n):=by
 induction h with
 |nil=>intro n;simp only[List.drop_nil];exact .nil
 |cons h t ih=>
  intro n
  cases n with
  |zero=>exact .cons h t
  |succ n=>exact ih n
theorem VAt.ns{H:Hp}:∀ {x:Vl} {v:V},VAt H x v->NS H v
 | .sc x,v,⟨e,h⟩=>by
  subst e
  cases v<;>first|exact .inl ⟨_,rfl⟩|exact .inr (.inl ⟨_,rfl⟩)|exact .inr (.inr (.inl rfl))|(cases h;done)
 | .cell k,v,⟨p,e,h⟩=> .inr (.inr (.inr ⟨p,_,e,h⟩))
theorem doZ{H:Hp}{cs:List Cl}{us sl':List V}{sl:List Vl}(hc:All2 (ClAt H) cs us)(hs:All2 (VAt H) sl sl'){rk:Rk}{st:List Vl}{eo:Eo2}(h:Er cs sl rk st eo):∀ {st':List V},All2 (VAt H) st st'->∃eo',Ef H us sl' rk st' eo'/\EoR H eo eo':=by
 have n1:∀ {v:V},scV v=true->VAt H (.sc v) v:=λh=>⟨rfl,h⟩
 cases h with
 |push h=>exact λ{st'} ht=>⟨_,.push (bCZ h),.fr hs (ht.app (.cons (n1 h) .nil))⟩
 |non=>exact λ{st'} ht=>⟨_,.non,.fr hs (ht.app (.cons (n1 rfl) .nil))⟩
 |load h=>
  intro st' ht
  obtain⟨v',hv,hR⟩:=M0 hs h
  exact⟨_,.load hv,.fr hs (ht.app (.cons hR .nil))⟩
 |keep h=>
  intro st' ht
  obtain⟨ds,d,rfl,h1,h2⟩:=D4 ht
  exact⟨_,.keep (by rw[<-hs.len];exact h),.fr (((IQ hs _).app (.cons h2 .nil)).app (all2_drop hs _)) h1⟩
 |twoV h1 h2 h3 h4 h5=>
  intro st' ht
  obtain⟨ds,es,rfl,t1,t2⟩:=E4 ht
  cases t2 with
  |cons a1 t3=>
   cases t3 with
   |cons a2 t4=>
    cases t4
    obtain⟨rfl,_⟩:=a1
    obtain⟨rfl,_⟩:=a2
    exact⟨_,.twoV h1 h2 h3 h4 (VAt.ns (n1 h5)),.fr hs (t1.app (.cons (n1 h5) .nil))⟩
 |twoR h1 h2 h3 h4=>
  intro st' ht
  obtain⟨ds,es,rfl,t1,t2⟩:=E4 ht
  cases t2 with
  |cons a1 t3=>
   cases t3 with
   |cons a2 t4=>
    cases t4
    obtain⟨rfl,_⟩:=a1
    obtain⟨rfl,_⟩:=a2
    exact⟨_,.twoR h1 h2 h3 h4,.rf⟩
 |cons=>
  intro st' ht
  obtain⟨ds,es,rfl,t1,t2⟩:=E4 ht
  cases t2 with
  |cons a1 t3=>
   cases t3 with
   |cons a2 t4=>
    cases t4
    exact⟨_,.cons,.pair a1 a2 t1⟩
 |headN=>
  intro st' ht
  obtain⟨ds,d,rfl,h1,rfl,_⟩:=D4 ht
  exact⟨_,.headN,.rf⟩
 |tailN=>
  intro st' ht
  obtain⟨ds,d,rfl,h1,rfl,_⟩:=D4 ht
  exact⟨_,.tailN,.rf⟩
 |head h=>
  intro st' ht
  obtain⟨ds,d,rfl,h1,p,rfl,hp⟩:=D4 ht
  obtain⟨u,hu,c,x,y,rfl,hcc,hx,hy⟩:=M0 hc h
  exact⟨_,.head hp hu hcc (VAt.ns hx),.fr hs (h1.app (.cons hx .nil))⟩
 |tail h=>
  intro st' ht
  obtain⟨ds,d,rfl,h1,p,rfl,hp⟩:=D4 ht
  obtain⟨u,hu,c,x,y,rfl,hcc,hx,hy⟩:=M0 hc h
  exact⟨_,.tail hp hu hcc (VAt.ns hy),.fr hs (h1.app (.cons hy .nil))⟩
 |emptyN=>
  intro st' ht
  obtain⟨ds,d,rfl,h1,rfl,_⟩:=D4 ht
  exact⟨_,.emptyN,.fr hs (h1.app (.cons (n1 rfl) .nil))⟩
 |empty=>
  intro st' ht
  obtain⟨ds,d,rfl,h1,p,rfl,hp⟩:=D4 ht
  exact⟨_,.empty hp,.fr hs (h1.app (.cons (n1 rfl) .nil))⟩
 |not=>
  intro st' ht
  obtain⟨ds,d,rfl,h1,rfl,_⟩:=D4 ht
  exact⟨_,.not,.fr hs (h1.app (.cons (n1 rfl) .nil))⟩
 |skip=>exact λ{st'} ht=>⟨_,.skip,.fr hs ht⟩
 | @«unless» n b st=>
  intro st' ht
  obtain⟨ds,d,rfl,h1,rfl,_⟩:=D4 ht
  refine⟨_,.unless, ?_⟩
  have e:(1+if b=true then 0 else(n:Int))=((1+if b=true then 0 else n:Nat):Int):=by cases b<;>simp
  rw[e]
  exact .fr hs h1
 |close h h'=>
  intro st' ht
  obtain⟨ds,es,rfl,t1,t2⟩:=E4 ht
  exact⟨_,.close (by rw[<-t2.len];exact h),.fn t2 (by omega) t1⟩
end MC
namespace MC
open PySem L2 CL SW
open BV hiding ifT ifF NoG top
seal PE PT PW PA PS PSs PTs PI PG PGs PO
noncomputable abbrev s_end:Stmt:=G6 (top 36) 5
noncomputable abbrev s_has_value:Stmt:=G6 (top 36) 9
noncomputable abbrev s_frames:Stmt:=G6 (top 36) 11
noncomputable abbrev s_cells:Stmt:=G6 (top 36) 12
noncomputable abbrev s_rows_done:Stmt:=G6 (top 36) 13
noncomputable abbrev s_calls:Stmt:=G6 (top 36) 14
noncomputable abbrev s_go_on:Stmt:=G6 (top 36) 2
abbrev cNZ:List Str:=["self","outcome"]
theorem sc_end:FnScope cNZ UY (B0 s_end):=fS
abbrev NL:List Str:=["self"]
theorem sc_has_value:FnScope NL G4 (B0 s_has_value):=fS
abbrev YT:List Str:=["self"]
theorem sc_frames:FnScope YT G4 (B0 s_frames):=fS
abbrev MI:List Str:=["self"]
theorem sc_rows_done:FnScope MI G4 (B0 s_rows_done):=fS
abbrev auZ:List Str:=["self"]
theorem sc_calls:FnScope auZ G4 (B0 s_calls):=fS
abbrev aEZ:List Str:=["self","told"]
theorem sc_go_on:FnScope aEZ aCZ (B0 s_go_on):=fS
structure MCls (K:FZ) (CM:Addr) (gf:Str->Addr) (gd:Str->FuncData):Prop where
 cl:Cls K CM
 n1:NoAttr K CM "blocks"
 n2:NoAttr K CM "most"
 n3:NoAttr K CM "store"
 n4:NoAttr K CM "standing"
 n5:NoAttr K CM "outcome"
 n6:NoAttr K CM "rows_so_far"
 n7:NoAttr K CM "calls_so_far"
 m_step:Meth K CM "step" (gf "step")
 m_go_on:Meth K CM "go_on" (gf "go_on")
 m_enter:Meth K CM "enter" (gf "enter")
 m_leave:Meth K CM "leave" (gf "leave")
 m_end:Meth K CM "end" (gf "end")
 m_collect:Meth K CM "collect" (gf "collect")
 m_hung_on:Meth K CM "hung_on" (gf "hung_on")
 m_hang_on:Meth K CM "hang_on" (gf "hang_on")
 m_has_value:Meth K CM "has_value" (gf "has_value")
 m_answer:Meth K CM "answer" (gf "answer")
 m_frames:Meth K CM "frames" (gf "frames")
 m_cells:Meth K CM "cells" (gf "cells")
 m_rows_done:Meth K CM "rows_done" (gf "rows_done")
 m_calls:Meth K CM "calls" (gf "calls")
 b_step:Binds K (gd "step") G4 []
 b_go_on:Binds K (gd "go_on") aCZ []
 b_enter:Binds K (gd "enter") aQZ []
 b_leave:Binds K (gd "leave") EN []
 b_end:Binds K (gd "end") UY []
 b_collect:Binds K (gd "collect") G4 []
 b_hung_on:Binds K (gd "hung_on") G4 []
 b_hang_on:Binds K (gd "hang_on") aRZ []
 b_has_value:Binds K (gd "has_value") G4 []
 b_answer:Binds K (gd "answer") G4 []
 b_frames:Binds K (gd "frames") G4 []
 b_cells:Binds K (gd "cells") G4 []
 b_rows_done:Binds K (gd "rows_done") G4 []
 b_calls:Binds K (gd "calls") G4 []
section
variable{A:Ad}{most r c:Int}{out:V}
theorem l1:(J3 A most out r c).lookup ("blocks":Str)=some (.ref A.bl):=by rfl
theorem l2:(J3 A most out r c).lookup ("most":Str)=some (.int most):=by rfl
theorem l3:(J3 A most out r c).lookup ("store":Str)=some (.ref A.o):=by rfl
theorem l4:(J3 A most out r c).lookup ("standing":Str)=some (.ref A.s):=by rfl
theorem l5:(J3 A most out r c).lookup ("outcome":Str)=some out:=by rfl
theorem l6:(J3 A most out r c).lookup ("rows_so_far":Str)=some (.int r):=by rfl
theorem l7:(J3 A most out r c).lookup ("calls_so_far":Str)=some (.int c):=by rfl
theorem lf:(J3 A most out r c).length<1000:=by show 7<1000;decide
theorem p3(o L:Addr):Q9 ("store":Str) (.ref o) (J3 A most out r c)=J3 {A with o:=o,L:=L} most out r c:=by rfl
theorem p4(s:Addr):Q9 ("standing":Str) (.ref s) (J3 A most out r c)=J3 {A with s:=s} most out r c:=by rfl
theorem p5(u:V):Q9 ("outcome":Str) u (J3 A most out r c)=J3 A most u r c:=by rfl
theorem p6(n:Int):Q9 ("rows_so_far":Str) (.int n) (J3 A most out r c)=J3 A most out n c:=by rfl
theorem p7(n:Int):Q9 ("calls_so_far":Str) (.int n) (J3 A most out r c)=J3 A most out r n:=by rfl
variable{P:Program}{w:World}{K:FZ}{mg:Str->Option Value}{base:Heap}{CM C:Addr}{gf mf:Str->Addr}{gd md:Str->FuncData}
theorem MR.same{H H':Hp}{A:Ad}{bs us fs:List V}{most r c:Int}{out:V}(h:MR CM C H A bs us fs most out r c)(s:Same H H'):MR CM C H' A bs us fs most out r c:=
 ⟨s _ _ h.m,s _ _ h.bl,h.o.same s,s _ _ h.s,h.nLs,h.nbs,h.nbL⟩
theorem MR.om{H:Hp}{A:Ad}{bs us fs:List V}{most r c:Int}{out:V}(h:MR CM C H A bs us fs most out r c):A.o≠A.m:=λe=>by
 obtain⟨dx,ho,hL⟩:=h.o
 have hm:=h.m
 rw[e,hm]at ho
 injection ho with ho
 injection ho with _ _ ho
 have:=congrArg List.length ho
 simp[J3]at this
theorem MR.putM{H:Hp}{A:Ad}{bs us fs:List V}{most r c:Int}{out:V}(h:MR CM C H A bs us fs most out r c)(r' c':Int)(out':V):MR CM C (upd H A.m (.ins CM A.dx (J3 A most out' r' c'))) A bs us fs most out' r' c':=by
 obtain⟨dx,ho,hL⟩:=h.o
 have hm:=h.m
 have n1:A.bl≠A.m:=λe=>by have:=h.bl;rw[e,hm]at this;cases this
 have n3:A.L≠A.m:=λe=>by rw[e,hm]at hL;cases hL
 have n4:A.s≠A.m:=λe=>by have:=h.s;rw[e,hm]at this;cases this
 exact⟨upd_same,by rw[B8 n1];exact h.bl,⟨dx,by rw[B8 h.om];exact ho,by rw[B8 n3];exact hL⟩,by rw[B8 n4];exact h.s,h.nLs,h.nbs,h.nbL⟩
theorem MR.putS{H:Hp}{A:Ad}{bs us fs gs:List V}{most r c:Int}{out:V}(h:MR CM C H A bs us fs most out r c){s:Addr}(hs:H s=none):MR CM C (upd (upd H s (.lst gs)) A.m (.ins CM A.dx (J3 {A with s:=s} most out r c))) {A with s:=s} bs us gs most out r c:=by
 have t:=A5 hs (.lst gs)
 have g:=h.same t
 obtain⟨dx,ho,hL⟩:=g.o
 have hm:=g.m
 have n1:A.bl≠A.m:=λe=>by have:=g.bl;rw[e,hm]at this;cases this
 have n3:A.L≠A.m:=λe=>by rw[e,hm]at hL;cases hL
 have n4:s≠A.m:=λe=>by rw[e,h.m]at hs;cases hs
 have n5:A.L≠s:=λe=>by obtain⟨_,_,hL'⟩:=h.o;rw[e,hs]at hL';cases hL'
 have n6:A.bl≠s:=λe=>by have:=h.bl;rw[e,hs]at this;cases this
 exact⟨upd_same,by rw[B8 n1];exact g.bl,⟨dx,by rw[B8 g.om];exact ho,by rw[B8 n3];exact hL⟩,by rw[B8 n4];exact upd_same,n5,n6,h.nbL⟩
theorem MR.setS{H:Hp}{A:Ad}{bs us fs gs:List V}{most r c:Int}{out:V}(h:MR CM C H A bs us fs most out r c):MR CM C (upd H A.s (.lst gs)) A bs us gs most out r c:=by
 obtain⟨dx,ho,hL⟩:=h.o
 have n1:A.m≠A.s:=λe=>by have:=h.m;rw[e,h.s]at this;cases this
 have n2:A.o≠A.s:=λe=>by rw[e,h.s]at ho;cases ho
 exact⟨by rw[B8 n1];exact h.m,by rw[B8 h.nbs];exact h.bl,⟨dx,by rw[B8 n2];exact ho,by rw[B8 h.nLs];exact hL⟩,upd_same,h.nLs,h.nbs,h.nbL⟩
theorem BF(A:Ad):A.m∈A.own:=mem_cons_self ..
theorem bkZ(A:Ad):A.L∈A.own:=by simp[Ad.own]
theorem DR(A:Ad):A.s∈A.own:=by simp[Ad.own]
theorem Kq.refl(A:Ad)(H:Hp):Kq A H H:=λ_ _ e _=>e
theorem Kq.of{A:Ad}{H H':Hp}(s:Same H H'):Kq A H H':=λb o e _=>s b o e
theorem Kq.updO{A:Ad}{H:Hp}{b:Addr}(o:HO)(h:b∈A.own):Kq A H (upd H b o):=λx ob e n=>by rw[B8 (λz:x=b=>n (by rw[z];exact h))];exact e
theorem Kq.trans{A:Ad}{H H1 H2:Hp}(h:Kq A H H1)(h':Kq A H1 H2):Kq A H H2:=λb o e n=>h' b o (h b o e n) n
def New(A A':Ad)(H:Hp):Prop:=A'.m=A.m/\∀x∈A'.own,x∈A.own\/H x=none
def RR(CM C:Addr):Sp:=λvs H Q _=>∃(A:Ad) (bs us fs:List V) (most:Int) (out:V) (r c:Int) (u:V),vs=[.ref A.m,u]/\MR CM C H A bs us fs most out r c/\
 ∀s H',H s=none->Kq A H H'->MR CM C H' {A with s:=s} bs us [] most u r c->Q .non H'
theorem ok_end(F:Fun K "end" "Machine.end" s_end (gf "end") (gd "end"))(RM:MCls K CM gf gd):FnOk P w K mg base CX0 1 (gf "end") (gd "end") UY (RR CM C):=by
 refine F.ok sc_end (λvs H Q E h=> ?_) (λcdv A outer s H vs Q E hr h=> ?_)
 ·obtain⟨A,bs,us,fs,most,out,r,c,u,rfl,_⟩:=h
  rfl
 obtain⟨A,bs,us,fs,most,out,r,c,u,rfl,hM,q⟩:=h
 have nd:=sc_end.nd
 refine⟨_,(A8 (O6 (pv 0) (J8 A6) rfl)
   (A9 (O6 (pv 0) (pv 1) rfl))), ?_⟩
 refine⟨(by show 0<=sizeLine;decide),λs hs=>⟨_,rfl,A.m,CM,A.dx,_,rfl,(A5 hs _) _ _ hM.m,RM.cl,RM.n4,lf, ?_⟩⟩
 rw[p4]
 have h1:=hM.putS (gs:=[]) hs
 have k1:Kq A H (upd (upd H s (.lst [])) A.m (.ins CM A.dx (J3 {A with s:=s} most out r c))):=(Kq.of (A5 hs _)).trans (Kq.updO _ (BF A))
 refine⟨_,rfl,_,rfl,A.m,CM,A.dx,_,rfl,h1.m,RM.cl,RM.n5,lf, ?_⟩
 rw[p5]
 exact q s _ hs (k1.trans (Kq.updO _ (BF A))) (h1.putM r c u)
def OV(H:Hp)(u:V)(b:Bool):Prop:=(u=.non/\b=false)\/∃p w xs,u=.ref p/\H p=some (.tup (.str w::xs))/\b=decide (w="value")
def V3:Option Ou->Bool
 |some (.value _)=>true
 |_=>false
theorem OAt.ov{H:Hp}:∀ {o:Option Ou} {u:V},OAt H o u->OV H u (V3 o)
 |none,_,h=> .inl ⟨h,rfl⟩
 |some (.value _),_,⟨p,v,e,h1,h2⟩=> .inr ⟨p,_,_,e,h1,rfl⟩
 |some (.refused _),_,⟨p,e,h1⟩=> .inr ⟨p,_,_,e,h1,(show false=decide (("refused":Str)="value") by decide)⟩
 |some .dry,_,⟨p,e,h1⟩=> .inr ⟨p,_,_,e,h1,by decide⟩
 |some .deep,_,⟨p,e,h1⟩=> .inr ⟨p,_,_,e,h1,by decide⟩
def KG(CM:Addr):Sp:=λvs H Q _=>∃(A:Ad) (most:Int) (out:V) (r c:Int) (b:Bool),vs=[.ref A.m]/\H A.m=some (.ins CM A.dx (J3 A most out r c))/\OV H out b/\Q (.bl b) H
theorem ok_has_value(F:Fun K "has_value" "Machine.has_value" s_has_value (gf "has_value") (gd "has_value"))(RM:MCls K CM gf gd):FnOk P w K mg base CX0 1 (gf "has_value") (gd "has_value") G4 (KG CM):=by
 refine F.ok sc_has_value (λvs H Q E h=> ?_) (λcdv A outer s H vs Q E hr h=> ?_)
 ·obtain⟨A,most,out,r,c,b,rfl,_⟩:=h
  rfl
 obtain⟨A,most,out,r,c,b,rfl,hm,ho,q⟩:=h
 have nd:=sc_has_value.nd
 have hu:=hr.units0
 refine⟨_,(A9 (C0 (FF (L0 RQ (E3 (pv 0) rfl) S0 rfl) (DB (L0 (kEq (K:=K) hu) (ixE K w (E3 (pv 0) rfl) A7) B6 rfl))))), ?_⟩
 refine⟨_,rfl,A.m,CM,A.dx,_,_,rfl,hm,RM.cl,RM.n5,l5, ?_⟩
 rcases ho with⟨rfl,rfl⟩|⟨p,w,xs,rfl,hp,rfl⟩
 ·exact⟨rfl,_,rfl,ifF (by simp) q⟩
 ·refine⟨rfl,_,rfl,ifT (by simp) ⟨_,rfl,A.m,CM,A.dx,_,_,rfl,hm,RM.cl,RM.n5,l5,(ixT (v:=.str w) hp (J2 (j:=0) rfl) (.inl ⟨rfl, ?_⟩))⟩⟩
  have e:decide (V.str w=V.str "value")=decide (w="value"):=by simp
  rw[<-e]at q
  exact q
def MF(CM C:Addr):Sp:=λvs H Q _=>∃(A:Ad) (bs us fs:List V) (most:Int) (out:V) (r c:Int),vs=[.ref A.m]/\MR CM C H A bs us fs most out r c/\∀l,H l=none->Q (.ref l) (upd H l (.lst fs))
theorem ok_frames(F:Fun K "frames" "Machine.frames" s_frames (gf "frames") (gd "frames"))(B:NoG mg)(RM:MCls K CM gf gd):FnOk P w K mg base CX0 1 (gf "frames") (gd "frames") G4 (MF CM C):=by
 refine F.ok sc_frames (λvs H Q E h=> ?_) (λcdv A outer s H vs Q E hr h=> ?_)
 ·obtain⟨A,bs,us,fs,most,out,r,c,rfl,_⟩:=h
  rfl
 obtain⟨A,bs,us,fs,most,out,r,c,rfl,hM,q⟩:=h
 have nd:=sc_frames.nd
 refine⟨_,(A9 (C0 (G3 (X3 (K:=K)) rfl B.list_ M2 (A0 (E3 (pv 0) rfl) A6)))), ?_⟩
 exact⟨_,rfl,A.m,CM,A.dx,_,_,rfl,hM.m,RM.cl,RM.n4,l4,A.s,fs,rfl,.inl (SqL.of hM.s),q⟩
def GU(CM C:Addr)(rows:Bool):Sp:=λvs H Q _=>∃(A:Ad) (most:Int) (out:V) (r c:Int),vs=[.ref A.m]/\H A.m=some (.ins CM A.dx (J3 A most out r c))/\Q (.int (if rows=true then r else c)) H
theorem ok_rows_done(F:Fun K "rows_done" "Machine.rows_done" s_rows_done (gf "rows_done") (gd "rows_done"))(RM:MCls K CM gf gd):FnOk P w K mg base CX0 1 (gf "rows_done") (gd "rows_done") G4 (GU CM C true):=by
 refine F.ok sc_rows_done (λvs H Q E h=> ?_) (λcdv A outer s H vs Q E hr h=> ?_)
 ·obtain⟨A,most,out,r,c,rfl,_⟩:=h
  rfl
 obtain⟨A,most,out,r,c,rfl,hM,q⟩:=h
 have nd:=sc_rows_done.nd
 refine⟨_,(A9 (C0 (E3 (pv 0) rfl))), ?_⟩
 exact⟨_,rfl,A.m,CM,A.dx,_,_,rfl,hM,RM.cl,RM.n6,l6,q⟩
theorem ok_calls(F:Fun K "calls" "Machine.calls" s_calls (gf "calls") (gd "calls"))(RM:MCls K CM gf gd):FnOk P w K mg base CX0 1 (gf "calls") (gd "calls") G4 (GU CM C false):=by
 refine F.ok sc_calls (λvs H Q E h=> ?_) (λcdv A outer s H vs Q E hr h=> ?_)
 ·obtain⟨A,most,out,r,c,rfl,_⟩:=h
  rfl
 obtain⟨A,most,out,r,c,rfl,hM,q⟩:=h
 have nd:=sc_calls.nd
 refine⟨_,(A9 (C0 (E3 (pv 0) rfl))), ?_⟩
 exact⟨_,rfl,A.m,CM,A.dx,_,_,rfl,hM,RM.cl,RM.n7,l7,q⟩
end
noncomputable abbrev s_leave:Stmt:=G6 (top 36) 4
noncomputable abbrev s_enter:Stmt:=G6 (top 36) 3
noncomputable abbrev ZR:List Str:=["self","value","below"]
theorem sc_leave:FnScope ZR EN (B0 s_leave):=fS
abbrev ZV:List Str:=["self","frame","row","frames"]
theorem sc_enter:FnScope ZV aQZ (B0 s_enter):=fS
theorem JV{α:Type}(xs:List α)(x:α):ixN (xs++ [x]).length (-1)=some xs.length:=by
 unfold ixN
 rw[if_neg (by decide),if_pos (by simp;omega)]
 congr 1
 simp
 omega
theorem FG{α:Type}(xs:List α)(x y:α):(xs++ [x]).set xs.length y=xs++ [y]:=by simp
section
variable{P:Program}{w:World}{K:FZ}{mg:Str->Option Value}{base:Heap}{CM C:Addr}{gf mf:Str->Addr}{gd md:Str->FuncData}{VH:Addr}{VI:FuncData}
def WL(CM C:Addr):Sp:=λvs H Q _=>∃(A:Ad) (bs us fs:List V) (most:Int) (out:V) (r c:Int) (p:Addr),vs=[.ref A.m,.ref p]/\MR CM C H A bs us fs most out r c/\
 ((∃q fs0 f0,H p=some (.tup [.str "frame",.ref q])/\fs=fs0++ [f0]/\∀H',Kq A H H'->MR CM C H' A bs us (fs0++ [.ref q]) most out r c->Q .non H')\/
  (∃w,H p=some (.tup [.str "refused",.str w])/\∀s H',H s=none->Kq A H H'->MR CM C H' {A with s:=s} bs us [] most (.ref p) r c->Q .non H'))
theorem ok_go_on(F:Fun K "go_on" "Machine.go_on" s_go_on (gf "go_on") (gd "go_on"))(RM:MCls K CM gf gd)
  (DN:FnOk P w K mg base CX0 1 (gf "end") (gd "end") UY (RR CM C)):FnOk P w K mg base CX0 2 (gf "go_on") (gd "go_on") aCZ (WL CM C):=by
 refine F.ok sc_go_on (λvs H Q E h=> ?_) (λcdv A outer s H vs Q E hr h=> ?_)
 ·obtain⟨A,bs,us,fs,most,out,r,c,p,rfl,_⟩:=h
  rfl
 obtain⟨A,bs,us,fs,most,out,r,c,p,rfl,hM,h⟩:=h
 have nd:=sc_go_on.nd
 have hu:=hr.units0
 refine⟨_,(A9 (G5 (D8 (C7 (kEq (K:=K) hu) (ixE K w (pv 1) A7) B6 rfl) (A9 (DG (ixE K w (pv 1) A7) (GJ (E3 (pv 0) rfl) (P5 M3 A7) GY))) (A9 (G2 (K1 (pv 0) RM.cl RM.m_end DN (hr.mono (by omega)) RM.b_end .nil C2 (A0 (pv 1) A6))))))), ?_⟩
 refine⟨λ_ H'=>Q .non H', ?_,λ_ _ h=>h⟩
 rcases h with⟨q,fs0,f0,hp,rfl,fin⟩|⟨w,hp,fin⟩
 ·refine⟨_,rfl,(ixT hp rfl (.inl ⟨rfl,_,rfl,ifT rfl ?_⟩))⟩
  refine⟨_,rfl,(ixT hp rfl ?_)⟩
  refine⟨_,rfl,A.m,CM,A.dx,_,_,rfl,hM.m,RM.cl,RM.n4,l4,_,rfl,A.s,_,_,fs0.length,rfl,rfl,hM.s,JV _ _, ?_⟩
  rw[FG]
  exact fin _ (Kq.updO _ (DR A)) hM.setS
 ·refine⟨_,rfl,(ixT hp rfl (.inl ⟨rfl,_,rfl,ifF (by decide) ?_⟩))⟩
  exact⟨_,rfl,A.m,A.dx,_,rfl,hM.m,rfl,_,rfl,A,bs,us,fs,most,out,r,c,_,rfl,hM,λs H' hs k h=>fin s H' hs k h⟩
def RT(CM C:Addr):Sp:=λvs H Q _=>∃(A:Ad) (bs us fs:List V) (most:Int) (out:V) (r c:Int) (v:V),vs=[.ref A.m,v]/\MR CM C H A bs us fs most out r c/\
 ((∃f,fs=[f]/\∀s p H',H s=none->Kq A H H'->MR CM C H' {A with s:=s} bs us [] most (.ref p) r c->H' p=some (.tup [.str "value",v])->Q .non H')\/
  (∃fs0 g f gk gat gsl gst,fs=fs0++ [.ref g]++ [f]/\FrAt H g gk gat gsl gst/\gst.length<=500/\∀g' H',Kq A H H'->MR CM C H' A bs us (fs0++ [.ref g']) most out r c->FrAt H' g' gk gat gsl (gst++ [v])->Q .non H'))
theorem ok_leave(F:Fun K "leave" "Machine.leave" s_leave (gf "leave") (gd "leave"))(B:NoG mg)(RM:MCls K CM gf gd)
  (DN:FnOk P w K mg base CX0 1 (gf "end") (gd "end") UY (RR CM C)):FnOk P w K mg base CX0 2 (gf "leave") (gd "leave") EN (RT CM C):=by
 refine F.ok sc_leave (λvs H Q E h=> ?_) (λcdv A outer s H vs Q E hr h=> ?_)
 ·obtain⟨A,bs,us,fs,most,out,r,c,v,rfl,_⟩:=h
  rfl
 obtain⟨A,bs,us,fs,most,out,r,c,v,rfl,hM,h⟩:=h
 have nd:=sc_leave.nd
 have hu:=hr.units0
 have zz:(1000:Nat)<=sizeLine:=by decide
 refine⟨_,(A8 (D8 (C7 (kEq (K:=K) hu) (C8 (P4 (K:=K)) rfl B.len_ L9 (A0 (E3 (pv 0) rfl) A6)) A7 rfl) (A8 (G2 (K1 (pv 0) RM.cl RM.m_end DN (hr.mono (by omega)) RM.b_end .nil C2 (A0 (B4 (A0 B6 (A0 (pv 1) A6))) A6)))
   (A9 KD)) C9)
   (A8 (G2 (ND (K:=K) PySem.F.plainAttrs_list PySem.F.slot_list_pop PySem.F.type_list_pop HE (E3 (pv 0) rfl)))
   (A8 (C4 (i:=2) nd rfl (Or.inl rfl) (ixE K w (E3 (pv 0) rfl) (P5 M3 A7)))
   (A9 (DG (C3 (N2 (K:=K)) (J1 (AM (K:=K)) (pv 2) N7 (J0 A7)) (B4 (A0 (C3 (N2 (K:=K)) (ixE K w (pv 2) A7) (B4 (A0 (pv 1) A6))) A6))) (GJ (E3 (pv 0) rfl) (P5 M3 A7) GY)))))), ?_⟩
 refine⟨_,rfl,A.m,CM,A.dx,_,_,rfl,hM.m,RM.cl,RM.n4,l4,_,_,rfl,.inl ⟨_,SqL.of hM.s,rfl⟩,.inl ⟨rfl,_,rfl, ?_⟩⟩
 rcases h with⟨f,rfl,fin⟩|⟨fs0,g,f,gk,gat,gsl,gst,rfl,hg,hgz,fin⟩
 ·refine ifT (by simp) ?_
  refine⟨_,rfl,A.m,A.dx,_,rfl,hM.m,rfl,_,rfl,(by show 2<=sizeLine;omega),λp hp=> ?_⟩
  have t:=A5 hp (.tup [.str "value",v])
  refine⟨A,bs,us,_,most,out,r,c,_,rfl,hM.same t,λs H' hs k h=>fin s p H' (t.free hs) ((Kq.of t).trans k) h (k _ _ upd_same ((hM.same t).ntup upd_same))⟩
 ·refine ifF (λz=>by have:=V.int.inj (of_decide_eq_true z);rw[length_append,length_append]at this;simp at this;omega) ?_
  have hdl:(fs0++ [V.ref g]++ [f]).dropLast=fs0++ [V.ref g]:=List.dropLast_concat ..
  refine⟨_,rfl,A.m,CM,A.dx,_,_,rfl,hM.m,RM.cl,RM.n4,l4,.inl ⟨rfl,_,SqL.of hM.s⟩,A.s,_,f,rfl,rfl,hM.s,by simp, ?_⟩
  rw[hdl]
  have h1:=hM.setS (gs:=fs0++ [.ref g])
  have k1:Kq A H (upd H A.s (.lst (fs0++ [.ref g]))):=Kq.updO _ (DR A)
  obtain⟨q0,e0,g1,g2,g3⟩:=hg
  have mo:=hM.mo k1
  replace g1:=mo _ _ g1
  replace g2:=mo _ _ g2
  replace g3:=mo _ _ g3
  show Q3 _ _ _ [some (.ref A.m),some v,none] (upd H A.s (.lst (fs0++ [.ref g])))
  generalize upd H A.s (.lst (fs0++ [.ref g]))=H1 at h1 k1 g1 g2 g3⊢
  refine⟨_,rfl,A.m,CM,A.dx,_,_,rfl,h1.m,RM.cl,RM.n4,l4,_,rfl,(ixL (v:=.ref g) h1.s (M4 _ _) ?_)⟩
  have ec:K9 [.int gk,.int gat,.ref q0,.ref e0] none (some 3)=[.int gk,.int gat,.ref q0]:=PC _ 3
  refine⟨_,rfl,_,rfl,R6 g1 λra H2 s2 hra=> ?_⟩
  rw[ec]at hra
  refine⟨_,rfl,(ixT (s2 _ _ g1) rfl ⟨_,rfl,(by show 1<=sizeLine;omega),λpv hpv=> ?_⟩)⟩
  have s3:=A5 hpv (.tup [v])
  refine .inr (.inr (J5 (s3 _ _ (s2 _ _ g3)) upd_same (by simp;omega) λrb H3 s4 hrb=>⟨(by show 1<=sizeLine;omega),λpw hpw=> ?_⟩))
  have s5:=A5 hpw (.tup [.ref rb])
  have s25:=s2.trans (s3.trans (s4.trans s5))
  have hra5:=(s3.trans (s4.trans s5)) _ _ hra
  refine .inr (.inr (J5 hra5 upd_same (by simp) λrc H4 s6 hrc=> ?_))
  have s26:=s25.trans s6
  have h4:=h1.same s26
  refine⟨_,rfl,A.m,CM,A.dx,_,_,rfl,h4.m,RM.cl,RM.n4,l4,_,rfl,A.s,_,_,fs0.length,rfl,rfl,h4.s,JV _ _, ?_⟩
  rw[FG]
  have k5:Kq A H (upd H4 A.s (.lst (fs0++ [.ref rc]))):=k1.trans ((Kq.of s26).trans (Kq.updO _ (DR A)))
  have mo5:=h4.mo (Kq.updO (.lst (fs0++ [.ref rc])) (DR A))
  exact fin rc _ k5 h4.setS ⟨q0,rb,mo5 _ _ hrc,mo5 _ _ (s26 _ _ g2),mo5 _ _ ((s5.trans s6) _ _ hrb)⟩
def Cl2(H:Hp)(bs us:List V)(rw:Addr)(st bel:List V)(wh:Nat)(ys:List V)(sz:Nat):Prop:=
 (∃m:Nat,H rw=some (.tup [.str "call",.int (wh:Nat),.int (m:Nat)])/\m<=st.length/\BkAt H bs wh sz/\m<=sz/\sz<=500/\bel=st.take (st.length - m)/\ys=st.drop (st.length - m))\/
 (∃(cv:Addr) (x:V) (j:Nat) (fc vt:Addr) (xs:List V),H rw=some (.tup [.str "apply"])/\st=bel++ [.ref cv,x]/\H cv=some (.tup [.str "cell",.int (j:Nat)])/\us[j]? =some (.ref fc)/\H fc=some (.tup [.str "fn",.int (wh:Nat),.ref vt])/\H vt=some (.tup xs)/\BkAt H bs wh sz/\xs.length+1<=sz/\sz<=500/\ys=xs++ [x])
theorem Cl2.mo{H H':Hp}(m:Mo H H'){bs us:List V}{rw:Addr}{st bel:List V}{wh:Nat}{ys:List V}{sz:Nat}(h:Cl2 H bs us rw st bel wh ys sz):Cl2 H' bs us rw st bel wh ys sz:=by
 rcases h with⟨k,h1,h2,h3,h4⟩|⟨cv,x,j,fc,vt,xs,h1,h2,h3,h4,h5,h6,h7,h8⟩
 ·exact .inl ⟨k,m _ _ h1,h2,h3.mono m,h4⟩
 ·exact .inr ⟨cv,x,j,fc,vt,xs,m _ _ h1,h2,m _ _ h3,h4,m _ _ h5,m _ _ h6,h7.mono m,h8⟩
def QH(CM C:Addr):Sp:=λvs H Q _=>∃(A:Ad) (bs us fs0:List V) (most:Int) (out:V) (r c:Int) (fr rw:Addr),vs=[.ref A.m,.ref fr,.ref rw]/\MR CM C H A bs us (fs0++ [.ref fr]) most out r c/\fs0.length<=60/\
 ((most<=c/\∀s p H',H s=none->Kq A H H'->MR CM C H' {A with s:=s} bs us [] most (.ref p) r c->H' p=some (.tup [.str "dry"])->Q .non H')\/
  (c<most/\60<=fs0.length+1/\∀s p H',H s=none->Kq A H H'->MR CM C H' {A with s:=s} bs us [] most (.ref p) r (c+1)->H' p=some (.tup [.str "deep"])->Q .non H')\/
  (c<most/\fs0.length+1<60/\∃k at_ sl st bel wh ys sz,FrAt H fr k at_ sl st/\st.length<=500/\Cl2 H bs us rw st bel wh ys sz/\
   ∀p1 p2 H',Kq A H H'->MR CM C H' A bs us (fs0++ [.ref p1]++ [.ref p2]) most out r (c+1)->FrAt H' p1 k (at_+1) sl bel->FrAt H' p2 wh 0 (ys++List.replicate (sz - ys.length) .non) []->Q .non H'))
theorem ok_enter(F:Fun K "enter" "Machine.enter" s_enter (gf "enter") (gd "enter"))(B:NoG mg)(RM:MCls K CM gf gd)(m_DEEPEST:∃t,mg "DEEPEST"=some (.int 60 t))
  (DN:FnOk P w K mg base CX0 1 (gf "end") (gd "end") UY (RR CM C))
  (FC:Cn P w K mg base CX0 2 "called" coZ (bpZ C)):
  FnOk P w K mg base CX0 3 (gf "enter") (gd "enter") aQZ (QH CM C):=by
 obtain⟨VH,VI,FC,VF,VG,VE⟩:=FC
 obtain⟨tk,m_DEEPEST⟩:=m_DEEPEST
 refine F.ok sc_enter (λvs H Q E h=> ?_) (λcdv A outer s H vs Q E hr h=> ?_)
 ·obtain⟨A,bs,us,fs0,most,out,r,c,fr,rw,rfl,_⟩:=h
  rfl
 obtain⟨A,bs,us,fs0,most,out,r,c,fr,rw,rfl,hM,hfz,h⟩:=h
 have nd:=sc_enter.nd
 have hu:=hr.units0
 have zz:(1000:Nat)<=sizeLine:=by decide
 refine⟨_,(A8 (D8 (C7 a2Z (E3 (pv 0) rfl) (E3 (pv 0) rfl) rfl) (A8 (G2 (K1 (pv 0) RM.cl RM.m_end DN (hr.mono (by omega)) RM.b_end .nil C2 (A0 (B4 (A0 B6 A6)) A6)))
   (A9 KD)) C9)
   (A8 (IV (pv 0) A7 WF)
   (A8 (D8 (C7 a2Z (C8 (P4 (K:=K)) rfl B.len_ L9 (A0 (E3 (pv 0) rfl) A6)) (BI (v:=.int 60) rfl m_DEEPEST ⟨_,rfl⟩) rfl) (A8 (G2 (K1 (pv 0) RM.cl RM.m_end DN (hr.mono (by omega)) RM.b_end .nil C2 (A0 (B4 (A0 B6 A6)) A6)))
   (A9 KD)) C9)
   (A8 (C4 (i:=3) nd rfl (Or.inl rfl) (B9 FC (hr.mono (by omega)) rfl VE VG VF .nil C2 (A0 (E3 (pv 0) rfl) (A0 (E3 (pv 0) rfl) (A0 (pv 1) (A0 (pv 2) A6))))))
   (A8 (DG (ixE K w (pv 3) A7) (GJ (E3 (pv 0) rfl) (P5 M3 A7) GY))
   (A9 (G2 (HP (K:=K) PySem.F.plainAttrs_list PySem.F.slot_list_append PySem.F.type_list_append O5 (E3 (pv 0) rfl) (A0 (ixE K w (pv 3) A7) A6))))))))), ?_⟩
 refine⟨_,rfl,A.m,CM,A.dx,_,_,rfl,hM.m,RM.cl,RM.n7,l7,_,rfl,A.m,CM,A.dx,_,_,rfl,hM.m,RM.cl,RM.n2,l2,_,_,rfl,rfl,_,rfl, ?_⟩
 rcases h with⟨hmc,fin⟩|h
 ·refine ifT (decide_eq_true hmc) ?_
  refine⟨_,rfl,A.m,A.dx,_,rfl,hM.m,rfl,(by show 1<=sizeLine;omega),λp hp=> ?_⟩
  have t:=A5 hp (.tup [.str "dry"])
  exact⟨A,bs,us,_,most,out,r,c,_,rfl,hM.same t,λs H' hs k h=>fin s p H' (t.free hs) ((Kq.of t).trans k) h (k _ _ upd_same ((hM.same t).ntup upd_same))⟩
 have hlt:c<most:=by rcases h with⟨h,_⟩|⟨h,_⟩<;>exact h
 refine ifF (by rw[decide_eq_true_eq];show¬(most<=c);omega) ?_
 refine⟨_,rfl,A.m,CM,A.dx,_,_,rfl,hM.m,RM.cl,RM.n7,l7,_,_,rfl,rfl,A.dx,_,hM.m,lf, ?_⟩
 rw[p7]
 have h1:=hM.putM r (c+1) out
 have k1:Kq A H (upd H A.m (.ins CM A.dx (J3 A most out r (c+1)))):=Kq.updO _ (BF A)
 have mo1:=hM.mo k1
 have fr1:∀ {x:Addr},upd H A.m (.ins CM A.dx (J3 A most out r (c+1))) x=none->H x=none:=λ{x} e=>by
  by_cases z:x=A.m
  ·rw[z,upd_same]at e;cases e
  ·rw[B8 z]at e;exact e
 show Q3 _ _ _ [some (.ref A.m),some (.ref fr),some (.ref rw),none] (upd H A.m (.ins CM A.dx (J3 A most out r (c+1))))
 generalize upd H A.m (.ins CM A.dx (J3 A most out r (c+1)))=H1 at h1 k1 mo1 fr1⊢
 refine⟨_,rfl,A.m,CM,A.dx,_,_,rfl,h1.m,RM.cl,RM.n4,l4,_,_,rfl,.inl ⟨_,SqL.of h1.s,rfl⟩,_,_,rfl,rfl,_,rfl, ?_⟩
 rcases h with⟨_,h60,fin⟩|⟨_,h60,k,at_,sl,st,bel,wh,ys,sz,hF,hst,hC,fin⟩
 ·refine ifT (decide_eq_true (by simp only[length_append,length_singleton];omega)) ?_
  refine⟨_,rfl,A.m,A.dx,_,rfl,h1.m,rfl,(by show 1<=sizeLine;omega),λp hp=> ?_⟩
  have t:=A5 hp (.tup [.str "deep"])
  exact⟨A,bs,us,_,most,out,r,c+1,_,rfl,h1.same t,λs H' hs k h=>fin s p H' (fr1 (t.free hs)) (k1.trans ((Kq.of t).trans k)) h (k _ _ upd_same ((h1.same t).ntup upd_same))⟩
 refine ifF (by rw[decide_eq_true_eq];simp only[length_append,length_singleton];omega) ?_
 have hF1:=hF
 obtain⟨q0,e0,g1,g2,g3⟩:=hF
 have hFr:FrAt H1 fr k at_ sl st:=⟨q0,e0,mo1 _ _ g1,mo1 _ _ g2,mo1 _ _ g3⟩
 have hC1:=hC.mo mo1
 refine⟨_,rfl,A.m,CM,A.dx,_,_,rfl,h1.m,RM.cl,RM.n1,l1,_,rfl,A.m,CM,A.dx,_,_,rfl,h1.m,RM.cl,RM.n3,l3,_,rfl,_,rfl, ?_⟩
 refine⟨A.bl,bs,A.o,A.L,us,fr,k,at_,sl,st,rw,rfl,h1.bl,h1.o,hFr,hst, ?_⟩
 suffices yes:Two H1 _ k at_ sl bel wh ys sz from by
  rcases hC1 with⟨m,a1,a2,a3,a4,a5,e1,e2⟩|⟨cv,x,j,fc,vt,xs,b1,b2,b3,b4,b5,b6,b7,b8,b9,e2⟩
  ·subst e1 e2
   exact .inl ⟨wh,m,sz,a1,a2,a3,a4,a5,yes⟩
  ·subst e2
   exact .inr ⟨wh,sz,bel,cv,x,j,fc,vt,xs,b1,b2,b3,b4,b5,b6,b7,b8,b9,yes⟩
 intro p p1 p2 H2 s2 hp hf1 hf2
 have h2:=h1.same s2
 refine⟨_,rfl,(ixT hp rfl ?_)⟩
 refine⟨_,rfl,A.m,CM,A.dx,_,_,rfl,h2.m,RM.cl,RM.n4,l4,_,rfl,A.s,_,_,fs0.length,rfl,rfl,h2.s,JV _ _, ?_⟩
 rw[FG]
 have h3:=h2.setS (gs:=fs0++ [.ref p1])
 have k3:Kq A H2 (upd H2 A.s (.lst (fs0++ [.ref p1]))):=Kq.updO _ (DR A)
 have mo3:=h2.mo k3
 show Q3 _ _ _ [some (.ref A.m),some (.ref fr),some (.ref rw),some (.ref p)] (upd H2 A.s (.lst (fs0++ [.ref p1])))
 generalize upd H2 A.s (.lst (fs0++ [.ref p1]))=H3 at h3 k3 mo3⊢
 refine⟨_,rfl,A.m,CM,A.dx,_,_,rfl,h3.m,RM.cl,RM.n4,l4,.inl ⟨rfl,_,SqL.of h3.s⟩,_,rfl,(ixT (mo3 _ _ hp) rfl ⟨A.s,_,_,rfl,rfl,h3.s,by simp;omega, ?_⟩)⟩
 have k4:Kq A H3 (upd H3 A.s (.lst (fs0++ [.ref p1]++ [.ref p2]))):=Kq.updO _ (DR A)
 have mo4:=h3.mo k4
 obtain⟨a1,a2,a3,a4,a5⟩:=hf1
 obtain⟨b1,b2,b3,b4,b5⟩:=hf2
 exact fin p1 p2 _ (k1.trans ((Kq.of s2).trans (k3.trans k4))) h3.setS ⟨a1,a2,mo4 _ _ (mo3 _ _ a3),mo4 _ _ (mo3 _ _ a4),mo4 _ _ (mo3 _ _ a5)⟩ ⟨b1,b2,mo4 _ _ (mo3 _ _ b3),mo4 _ _ (mo3 _ _ b4),mo4 _ _ (mo3 _ _ b5)⟩
end
noncomputable abbrev s_step:Stmt:=G6 (top 36) 1
abbrev bBZ:List Str:=["self","frame","row"]
theorem sc_step:FnScope bBZ G4 (B0 s_step):=fS
noncomputable def K2:List Str:=["push","none","load","keep","add","sub","mul","div","less","same","cons","head","tail","empty","not","skip","unless","close"]
theorem VV:∀w∈K2,w≠ "back"/\inV (.str w) [.str "call",.str "apply"]=false:=by decide +kernel
theorem b4Z(k:Nat):wd k∈K2:=by
 match k with
 |0=>decide +kernel
 |1=>decide +kernel
 |2=>decide +kernel
 |3=>decide +kernel
 |4=>decide +kernel
 |n+5=>show("div":Str)∈K2;decide +kernel
theorem aeZ(rk:Rk):V6 rk∈K2:=by
 cases rk with
 |push _=>exact(by decide +kernel:("push":Str)∈K2)
 |non=>exact(by decide +kernel:("none":Str)∈K2)
 |load _=>exact(by decide +kernel:("load":Str)∈K2)
 |keep _=>exact(by decide +kernel:("keep":Str)∈K2)
 |two k=>exact b4Z k
 |cons=>exact(by decide +kernel:("cons":Str)∈K2)
 |head=>exact(by decide +kernel:("head":Str)∈K2)
 |tail=>exact(by decide +kernel:("tail":Str)∈K2)
 |empty=>exact(by decide +kernel:("empty":Str)∈K2)
 |not=>exact(by decide +kernel:("not":Str)∈K2)
 |skip _=>exact(by decide +kernel:("skip":Str)∈K2)
 |«unless» _=>exact(by decide +kernel:("unless":Str)∈K2)
 |close _ _=>exact(by decide +kernel:("close":Str)∈K2)
theorem YL(rk:Rk):V6 rk≠ "back"/\inV (.str (V6 rk)) [.str "call",.str "apply"]=false:=VV _ (aeZ rk)
theorem BQ{H:Hp}:∀n:Nat,All2 (VAt H) (List.replicate n (.sc .non)) (List.replicate n .non)
 |0=> .nil
 |n+1=> .cons ⟨rfl,rfl⟩ (BQ n)
theorem MR.bt{CM C:Addr}{H H':Hp}{A:Ad}{bs us us' fs:List V}{most r c:Int}{out:V}(h:MR CM C H A bs us fs most out r c)(b:Bt A.L H H')(hc:CAt C H' A.o A.L us'):MR CM C H' A bs us' fs most out r c:=by
 obtain⟨dx,ho,hL⟩:=h.o
 exact⟨b _ _ h.m (λe=>by have:=h.m;rw[e,hL]at this;cases this),b _ _ h.bl h.nbL,hc,b _ _ h.s (Ne.symm h.nLs),h.nLs,h.nbs,h.nbL⟩
theorem Kq.bt{A:Ad}{H H':Hp}(b:Bt A.L H H'):Kq A H H':=λx o e n=>b x o e λz=>n (by rw[z];exact bkZ A)
theorem FrAt.mo'{H H':Hp}(m:Mo H H'){p:Addr}{k a:Int}{sl st:List V}(h:FrAt H p k a sl st):FrAt H' p k a sl st:=by
 obtain⟨q,e,h1,h2,h3⟩:=h
 exact⟨q,e,m _ _ h1,m _ _ h2,m _ _ h3⟩
section
variable{P:Program}{w:World}{K:FZ}{mg:Str->Option Value}{base:Heap}{CM C:Addr}{gf mf:Str->Addr}{gd md:Str->FuncData}{NT:Addr}{OK:FuncData}
def PX(CM C:Addr):Sp:=λvs H Q _=>∃(A:Ad) (bs:List Bk) (most:Nat) (S:Ms),vs=[.ref A.m]/\MAt CM C H A bs most S/\Small S/\
 ((S.frs=[]/\Q (.bl false) H)\/∃S',bKZ bs most S S'/\∀A' H',New A A' H->Kq A H H'->MAt CM C H' A' bs most S'->Q (.bl true) H')
theorem ok_step(F:Fun K "step" "Machine.step" s_step (gf "step") (gd "step"))(RM:MCls K CM gf gd)
  (ZI:FnOk P w K mg base CX0 2 (gf "leave") (gd "leave") EN (RT CM C))
  (ZE:FnOk P w K mg base CX0 3 (gf "enter") (gd "enter") aQZ (QH CM C))
  (ZJ:FnOk P w K mg base CX0 2 (gf "go_on") (gd "go_on") aCZ (WL CM C))
  (AC:Cn P w K mg base CX0 4 "own_done" UW (biZ C)):
  FnOk P w K mg base CX0 5 (gf "step") (gd "step") G4 (PX CM C):=by
 obtain⟨NT,OK,AC,NO,OE,NW⟩:=AC
 refine F.ok sc_step (λvs H Q E h=> ?_) (λcdv A outer s H vs Q E hr h=> ?_)
 ·obtain⟨A,bs,most,S,rfl,_⟩:=h
  rfl
 obtain⟨A,bs,most,S,rfl,hA,hS,h⟩:=h
 obtain⟨vb,us,vf,out,hM,hB,hC,hF,hO⟩:=hA.ex
 have nd:=sc_step.nd
 have hu:=hr.units0
 have zz:(1000:Nat)<=sizeLine:=by decide
 refine⟨_,(A8 (D8 (XI (K7 (K:=K) (E3 (pv 0) rfl) (λ_=>rfl))) (A9 (C0 V5)) C9)
   (A8 (IV (pv 0) A7 WF)
   (A8 (C4 (i:=1) nd rfl (Or.inl rfl) (ixE K w (E3 (pv 0) rfl) (P5 M3 A7)))
   (A8 (C4 (i:=2) nd rfl (Or.inl rfl) (ixE K w (ixE K w (ixE K w (E3 (pv 0) rfl) (ixE K w (pv 1) A7)) A7) (ixE K w (pv 1) A7)))
   (A8 (G5 (D8 (C7 (kEq (K:=K) hu) (ixE K w (pv 2) A7) B6 rfl) (A9 (G2 (K1 (pv 0) RM.cl RM.m_leave ZI (hr.mono (by omega)) RM.b_leave .nil C2 (A0 (ixE K w (ixE K w (pv 1) A7) (P5 M3 A7)) A6)))) (A9 (G5 (D8 (C7 (kIn (K:=K) (w:=w)) (ixE K w (pv 2) A7) (B4 (A0 B6 (A0 B6 A6))) rfl) (A9 (G2 (K1 (pv 0) RM.cl RM.m_enter ZE (hr.mono (by omega)) RM.b_enter .nil C2 (A0 (pv 1) (A0 (pv 2) A6))))) (A9 (G2 (K1 (pv 0) RM.cl RM.m_go_on ZJ (hr.mono (by omega)) RM.b_go_on .nil C2 (A0 (B9 AC (hr.mono (by omega)) rfl NW OE NO .nil C2 (A0 (E3 (pv 0) rfl) (A0 (pv 1) (A0 (pv 2) A6)))) A6)))))))))
   (A9 (C0 V5))))))), ?_⟩
 refine⟨_,rfl,A.m,CM,A.dx,_,_,rfl,hM.m,RM.cl,RM.n4,l4,_,.inl ⟨_,SqL.of hM.s,rfl⟩, ?_⟩
 rcases h with⟨he,q⟩|⟨S',⟨cs,fs,f,r,c,row,rfl,hrow,hact⟩,q⟩
 ·rw[he]at hF
  cases hF
  exact ifT rfl q
 simp only at hC hF hO hM
 obtain⟨vf0,vfl,rfl,hF0,p0,sl,st,rfl,⟨q0,e0,g1,g2,g3⟩,hsl,hst⟩:=D4 hF
 refine ifF (by simp) ?_
 obtain rfl:=hO
 refine⟨_,rfl,A.m,CM,A.dx,_,_,rfl,hM.m,RM.cl,RM.n6,l6,_,_,rfl,rfl,A.dx,_,hM.m,lf, ?_⟩
 rw[p6]
 have h1:=hM.putM ((r:Nat)+1) (c:Nat) .non
 have k1:Kq A H (upd H A.m (.ins CM A.dx (J3 A (most:Nat) .non ((r:Nat)+1) (c:Nat)))):=Kq.updO _ (BF A)
 have mo1:=hM.mo k1
 have fr1:∀ {x:Addr},upd H A.m (.ins CM A.dx (J3 A (most:Nat) .non ((r:Nat)+1) (c:Nat))) x=none->H x=none:=λ{x} e=>by
  by_cases z:x=A.m
  ·rw[z,upd_same]at e;cases e
  ·rw[B8 z]at e;exact e
 show Q3 _ _ _ [some (.ref A.m),none,none] (upd H A.m (.ins CM A.dx (J3 A (most:Nat) .non ((r:Nat)+1) (c:Nat))))
 generalize upd H A.m (.ins CM A.dx (J3 A (most:Nat) .non ((r:Nat)+1) (c:Nat)))=H1 at h1 k1 mo1 fr1⊢
 have er:((r:Nat):Int)+1=((r+1:Nat):Int):=by omega
 have ec:((c:Nat):Int)+1=((c+1:Nat):Int):=by omega
 rw[er]at h1
 replace g1:=mo1 _ _ g1
 replace g2:=mo1 _ _ g2
 replace g3:=mo1 _ _ g3
 replace hB:=hB.imp λ_ _ z=>BAt.mo mo1 z
 replace hC:=hC.imp λ_ _ z=>ClAt.mo mo1 z
 replace hF0:=hF0.imp λ_ _ z=>FAt.mo mo1 z
 replace hsl:=hsl.imp λ_ _ z=>VAt.mo mo1 z
 replace hst:=hst.imp λ_ _ z=>VAt.mo mo1 z
 have hFr:FrAt H1 p0 (f.k:Nat) (f.at_:Nat) sl st:=⟨q0,e0,g1,g2,g3⟩
 refine⟨_,rfl,A.m,CM,A.dx,_,_,rfl,h1.m,RM.cl,RM.n4,l4,_,rfl,(ixL (v:=.ref p0) h1.s (M4 _ _) ?_)⟩
 obtain⟨bk,hbk,hrw⟩:∃bk,bs[f.k]? =some bk/\bk.rows[f.at_]? =some row:=by
  unfold MK at hrow
  obtain⟨bk,h1,h2⟩:=Option.bind_eq_some_iff.mp hrow
  exact⟨bk,h1,h2⟩
 obtain⟨u,hu1,tb,rs,ur,rfl,hb1,hb2,hb3,hb4⟩:=M0 hB hbk
 obtain⟨v,hv,rwa,rfl,hrwa⟩:=M0 hb3 hrw
 refine⟨_,rfl,A.m,CM,A.dx,_,_,rfl,h1.m,RM.cl,RM.n1,l1,_,rfl,(ixT g1 rfl (ixL (v:=.ref tb) h1.bl (J2 hu1) (ixT hb1 rfl ⟨_,rfl,(ixT g1 rfl (ixT (v:=.ref rwa) hb2 (J2 hv) ?_))⟩)))⟩
 refine⟨λ_ H'=>Q (.bl true) H', ?_,λ_ _ h=>h⟩
 have small:=hS.fr f (by simp)
 have scs:=hS.cs
 have lsl:=hsl.len
 have lst:=hst.len
 have lcs:=hC.len
 have lfs:=hF0.len
 have sfr:=hS.frs
 simp only[length_append,length_singleton]at sfr scs
 have fin:∀ {A':Ad} {H':Hp} {us' fs':List V} {out':V} {S1:Ms},A'.m=A.m->(∀x∈A'.own,x∈A.own\/H1 x=none)->Kq A H1 H'->MR CM C H' A' vb us' fs' (most:Nat) out' (S1.r:Nat) (S1.c:Nat)->All2 (ClAt H') S1.cs us'->All2 (FAt H') S1.frs fs'->OAt H' S1.out out'->(∀A' H',New A A' H->Kq A H H'->MAt CM C H' A' bs most S1->Q (.bl true) H')->Q (.bl true) H':=λ{A' H' us' fs' out' S1} e1 e2 k2 h2 h3 h4 h5 q=>
  q A' H' ⟨e1,λx hx=>(e2 x hx).imp id fr1⟩ (k1.trans k2) ⟨vb,us',fs',out',h2,hB.imp λ_ _ z=>BAt.mo (h1.mo k2) z,h3,h4,h5⟩
 have ownS:∀(s:Addr),H1 s=none->∀x∈({A with s:=s}:Ad).own,x∈A.own\/H1 x=none:=λs hs x hx=>by
  simp only[Ad.own,mem_cons,not_mem_nil,or_false]at hx⊢
  rcases hx with z|z|z|z|z
  ·exact .inl (.inl z)
  ·exact .inl (.inr (.inl z))
  ·exact .inl (.inr (.inr (.inl z)))
  ·exact .inl (.inr (.inr (.inr (.inl z))))
  ·exact .inr (by rw[z];exact hs)
 cases row with
 |own rk=>
  obtain⟨hw1,hw2⟩:=YL rk
  have hE:∃eo,Er cs f.sl rk f.st eo/\(match eo with
   | .fr d sl st=>S'=⟨cs,fs++ [⟨f.k,f.at_+d,sl,st⟩],none,r+1,c⟩
   | .new cl st=>S'=⟨cs++ [cl],fs++ [⟨f.k,f.at_+1,f.sl,st++ [.cell cs.length]⟩],none,r+1,c⟩
   | .rf w=>S'=⟨cs,[],some (.refused w),r+1,c⟩):=by
   cases hact with
   |own h=>exact⟨_,h,rfl⟩
   |new h=>exact⟨_,h,rfl⟩
   |rf h=>exact⟨_,h,rfl⟩
   |dry h _=>rcases h with⟨_,_,h⟩|h<;>cases h
   |deep h _ _=>rcases h with⟨_,_,h⟩|h<;>cases h
  obtain⟨eo,hEr,hpost⟩:=hE
  refine⟨_,rfl,(ixT (v:=.str (V6 rk)) hrwa (WD rk) (.inl ⟨rfl,_,rfl,ifF (λz=>hw1 (V.str.inj (of_decide_eq_true z))) ?_⟩))⟩
  refine⟨λ_ H'=>Q (.bl true) H', ?_,λ_ _ h=>h⟩
  refine⟨_,rfl,(ixT (v:=.str (V6 rk)) hrwa (WD rk) ⟨(by show 2<=sizeLine;omega),λt1 ht1=> .inr (.inl ⟨t1,_,rfl,.inr (SqT.of upd_same),rfl,rfl,_,rfl,ifF (λz=>by rw[show(if false=true then !inV (.str (V6 rk)) [.str "call",.str "apply"]else inV (.str (V6 rk)) [.str "call",.str "apply"])=false from hw2]at z;cases z) ?_⟩)⟩)⟩
  have s2:=A5 ht1 (.tup [.str "call",.str "apply"])
  generalize upd H1 t1 (.tup [.str "call",.str "apply"])=H2 at s2⊢
  have mo2:Mo H1 H2:=B5 s2
  have h2:=h1.same s2
  have hC2:=hC.imp λ_ _ z=>ClAt.mo mo2 z
  have hsl2:=hsl.imp λ_ _ z=>VAt.mo mo2 z
  have hst2:=hst.imp λ_ _ z=>VAt.mo mo2 z
  obtain⟨eo',hEf,hR⟩:=doZ hC2 hsl2 hEr hst2
  refine⟨_,rfl,A.m,A.dx,_,rfl,h2.m,rfl,_,rfl,A.m,CM,A.dx,_,_,rfl,h2.m,RM.cl,RM.n3,l3,_,rfl,_,rfl, ?_⟩
  refine⟨A.o,A.L,us,p0,_,_,sl,st,rwa,rk,eo',rfl,h2.o,by omega,FrAt.mo' mo2 hFr,by omega,by omega,s2 _ _ hrwa,hEf, ?_⟩
  cases hR with
  | @fr d sl1 st1 sl2 st2 hs' ht'=>
   simp only at hpost
   subst hpost
   intro p q1 H3 s3 hp hq
   have s23:=s2.trans s3
   have h3:=h1.same s23
   refine⟨A,vb,us,_,_,_,_,_,p,rfl,h3,.inl ⟨q1,vf0,.ref p0,hp,rfl,λH4 k4 h4=> ?_⟩⟩
   have mo4:=h3.mo k4
   have mo14:Mo H1 H4:=λb xs e=>mo4 _ _ (s23 _ _ e)
   have mo24:Mo H2 H4:=λb xs e=>mo4 _ _ (s3 _ _ e)
   have e:((f.at_+d:Nat):Int)=(f.at_:Nat)+(d:Nat):=by omega
   refine fin rfl (λx hx=> .inl hx) ((Kq.of s23).trans k4) h4 ?_ ?_ ?_ q
   ·exact hC.imp λ_ _ z=>ClAt.mo mo14 z
   ·exact(hF0.imp λ_ _ z=>FAt.mo mo14 z).app (.cons ⟨q1,sl2,st2,rfl,by rw[e];exact FrAt.mo' mo4 hq,hs'.imp λ_ _ z=>VAt.mo mo24 z,ht'.imp λ_ _ z=>VAt.mo mo24 z⟩ .nil)
   ·rfl
  | @rf w=>
   simp only at hpost
   subst hpost
   intro p H3 s3 hp
   have s23:=s2.trans s3
   have h3:=h1.same s23
   refine⟨A,vb,us,_,_,_,_,_,p,rfl,h3,.inr ⟨w,hp,λs4 H4 hs4 k4 h4=> ?_⟩⟩
   have mo4:=h3.mo k4
   have mo14:Mo H1 H4:=λb xs e=>mo4 _ _ (s23 _ _ e)
   refine fin (A':={A with s:=s4}) rfl (ownS s4 (s23.free hs4)) ((Kq.of s23).trans k4) h4 ?_ ?_ ?_ q
   ·exact hC.imp λ_ _ z=>ClAt.mo mo14 z
   ·exact .nil
   ·exact⟨p,rfl,mo4 _ _ hp⟩
  | @pair x y st1 x' y' st2 hx hy ht'=>
   simp only at hpost
   subst hpost
   intro p q1 cc cv H3 b3 hc3 hcc hcv hp hq
   have h3:=h2.bt b3 hc3
   have k23:Kq A H1 H3:=(Kq.of s2).trans (Kq.bt b3)
   refine⟨A,vb,_,_,_,_,_,_,p,rfl,h3,.inl ⟨q1,vf0,.ref p0,hp,rfl,λH4 k4 h4=> ?_⟩⟩
   have mo4:=h3.mo k4
   have mo14:Mo H1 H4:=h1.mo (k23.trans k4)
   have mo24:Mo H2 H4:=h2.mo ((Kq.bt b3).trans k4)
   have e:((f.at_+1:Nat):Int)=(f.at_:Nat)+1:=by omega
   refine fin rfl (λx hx=> .inl hx) (k23.trans k4) h4 ?_ ?_ ?_ q
   ·exact(hC.imp λ_ _ z=>ClAt.mo mo14 z).app (.cons ⟨cc,x',y',rfl,mo4 _ _ hcc,hx.mo mo24,hy.mo mo24⟩ .nil)
   ·exact(hF0.imp λ_ _ z=>FAt.mo mo14 z).app (.cons ⟨q1,sl,st2++ [.ref cv],rfl,by rw[e];exact FrAt.mo' mo4 hq,hsl.imp λ_ _ z=>VAt.mo mo14 z,(ht'.imp λ_ _ z=>VAt.mo mo24 z).app (.cons ⟨cv,rfl,by rw[lcs];exact mo4 _ _ hcv⟩ .nil)⟩ .nil)
   ·rfl
  | @fn b xs st1 xs' st2 hxs hx10 ht'=>
   simp only at hpost
   subst hpost
   intro p q1 cc cv vt H3 b3 hc3 hcc hvt hcv hp hq
   have h3:=h2.bt b3 hc3
   have k23:Kq A H1 H3:=(Kq.of s2).trans (Kq.bt b3)
   refine⟨A,vb,_,_,_,_,_,_,p,rfl,h3,.inl ⟨q1,vf0,.ref p0,hp,rfl,λH4 k4 h4=> ?_⟩⟩
   have mo4:=h3.mo k4
   have mo14:Mo H1 H4:=h1.mo (k23.trans k4)
   have mo24:Mo H2 H4:=h2.mo ((Kq.bt b3).trans k4)
   have e:((f.at_+1:Nat):Int)=(f.at_:Nat)+1:=by omega
   refine fin rfl (λx hx=> .inl hx) (k23.trans k4) h4 ?_ ?_ ?_ q
   ·exact(hC.imp λ_ _ z=>ClAt.mo mo14 z).app (.cons ⟨cc,vt,xs',rfl,mo4 _ _ hcc,mo4 _ _ hvt,hxs.imp λ_ _ z=>VAt.mo mo24 z,hx10⟩ .nil)
   ·exact(hF0.imp λ_ _ z=>FAt.mo mo14 z).app (.cons ⟨q1,sl,st2++ [.ref cv],rfl,by rw[e];exact FrAt.mo' mo4 hq,hsl.imp λ_ _ z=>VAt.mo mo14 z,(ht'.imp λ_ _ z=>VAt.mo mo24 z).app (.cons ⟨cv,rfl,by rw[lcs];exact mo4 _ _ hcv⟩ .nil)⟩ .nil)
   ·rfl
 |back=>
  refine⟨_,rfl,(ixT hrwa rfl (.inl ⟨rfl,_,rfl,ifT rfl ?_⟩))⟩
  have hv:∃ds d x st0,st=ds++ [d]/\f.st=st0++ [x]/\VAt H1 x d:=by
   cases hact with
   |last _ h=>rw[h]at hst;obtain⟨ds,d,e,_,h2⟩:=D4 hst;exact⟨ds,d,_,_,e,h,h2⟩
   |back _ h=>rw[h]at hst;obtain⟨ds,d,e,_,h2⟩:=D4 hst;exact⟨ds,d,_,_,e,h,h2⟩
   |dry h _=>rcases h with⟨_,_,h⟩|h<;>cases h
   |deep h _ _=>rcases h with⟨_,_,h⟩|h<;>cases h
  obtain⟨ds,d,x,st0,rfl,hst0,hxd⟩:=hv
  refine⟨_,rfl,A.m,A.dx,_,rfl,h1.m,rfl,_,rfl,(ixT g1 rfl ⟨_,rfl,(ixT (v:=d) g3 (M4 _ _) ?_)⟩)⟩
  refine⟨A,vb,us,_,_,_,_,_,d,rfl,h1, ?_⟩
  cases hact with
  |last hfs h=>
   rw[h]at hst0
   obtain⟨_,hvx⟩:=List.append_inj' hst0 rfl
   cases hvx
   subst hfs
   cases hF0
   refine .inl ⟨.ref p0,rfl,λs4 p H4 hs4 k4 h4 hp4=> ?_⟩
   have mo4:=h1.mo k4
   refine fin (A':={A with s:=s4}) rfl (ownS s4 hs4) k4 h4 ?_ ?_ ?_ q
   ·exact hC.imp λ_ _ z=>ClAt.mo mo4 z
   ·exact .nil
   ·exact⟨p,d,rfl,hp4,hxd.mo mo4⟩
  | @back gs g v st1 hfs h=>
   rw[h]at hst0
   obtain⟨_,hvx⟩:=List.append_inj' hst0 rfl
   cases hvx
   subst hfs
   obtain⟨vg,u,rfl,hG0,pg,gsl,gst,rfl,hFg,hgsl,hgst⟩:=D4 hF0
   have sg:=hS.fr g (by simp)
   have lgst:=hgst.len
   refine .inr ⟨vg,pg,.ref p0,_,_,gsl,gst,rfl,hFg,by omega,λg' H4 k4 h4 hf4=> ?_⟩
   have mo4:=h1.mo k4
   refine fin rfl (λx hx=> .inl hx) k4 h4 ?_ ?_ ?_ q
   ·exact hC.imp λ_ _ z=>ClAt.mo mo4 z
   ·exact(hG0.imp λ_ _ z=>FAt.mo mo4 z).app (.cons ⟨g',gsl,gst++ [d],rfl,hf4,hgsl.imp λ_ _ z=>VAt.mo mo4 z,(hgst.imp λ_ _ z=>VAt.mo mo4 z).app (.cons (hxd.mo mo4) .nil)⟩ .nil)
   ·rfl
  |dry h _=>rcases h with⟨_,_,h⟩|h<;>cases h
  |deep h _ _=>rcases h with⟨_,_,h⟩|h<;>cases h
 |call b m=>
  refine⟨_,rfl,(ixT hrwa rfl (.inl ⟨rfl,_,rfl,ifF (by decide) ?_⟩))⟩
  refine⟨λ_ H'=>Q (.bl true) H', ?_,λ_ _ h=>h⟩
  refine⟨_,rfl,(ixT hrwa rfl ⟨(by show 2<=sizeLine;omega),λt1 ht1=> .inr (.inl ⟨t1,_,rfl,.inr (SqT.of upd_same),rfl,rfl,_,rfl,ifT (by decide) ?_⟩)⟩)⟩
  have s2:=A5 ht1 (.tup [.str "call",.str "apply"])
  generalize upd H1 t1 (.tup [.str "call",.str "apply"])=H2 at s2⊢
  have mo2:Mo H1 H2:=B5 s2
  have h2:=h1.same s2
  refine⟨_,rfl,A.m,A.dx,_,rfl,h2.m,rfl,_,rfl,_,rfl,A,vb,us,vf0,_,_,_,_,p0,rwa,rfl,h2,by omega, ?_⟩
  cases hact with
  |dry _ hmc=>
   refine .inl ⟨by omega,λs4 p H4 hs4 k4 h4 hp4=> ?_⟩
   have mo4:Mo H1 H4:=h1.mo ((Kq.of s2).trans k4)
   refine fin (A':={A with s:=s4}) rfl (ownS s4 (s2.free hs4)) ((Kq.of s2).trans k4) h4 ?_ ?_ ?_ q
   ·exact hC.imp λ_ _ z=>ClAt.mo mo4 z
   ·exact .nil
   ·exact⟨p,rfl,hp4⟩
  |deep _ hmc h60=>
   refine .inr (.inl ⟨by omega,by omega,λs4 p H4 hs4 k4 h4 hp4=> ?_⟩)
   rw[ec]at h4
   have mo4:Mo H1 H4:=h1.mo ((Kq.of s2).trans k4)
   refine fin (A':={A with s:=s4}) rfl (ownS s4 (s2.free hs4)) ((Kq.of s2).trans k4) h4 ?_ ?_ ?_ q
   ·exact hC.imp λ_ _ z=>ClAt.mo mo4 z
   ·exact .nil
   ·exact⟨p,rfl,hp4⟩
  | @call _ bk st1 xs hmc h60 hfst hbk2 hxz=>
   rw[hfst]at hst
   obtain⟨ds,es,rfl,hds,hes⟩:=E4 hst
   have les:=hes.len
   obtain⟨u2,hu2,tb2,rs2,ur2,rfl,hb21,hb22,hb23,hb24⟩:=M0 hB hbk2
   refine .inr (.inr ⟨by omega,by omega,_,_,sl,ds++es,ds,b,es,bk.sz,FrAt.mo' mo2 hFr,by omega,.inl ⟨xs.length,s2 _ _ hrwa,by rw[length_append];omega,⟨tb2,_,_,hu2,s2 _ _ hb21⟩,hxz,by omega, ?_, ?_⟩,λp1 p2 H4 k4 h4 hf1 hf2=> ?_⟩)
   ·rw[length_append,les,Nat.add_sub_cancel,List.take_left]
   ·rw[length_append,les,Nat.add_sub_cancel,List.drop_left]
   rw[ec]at h4
   have mo4:Mo H1 H4:=h1.mo ((Kq.of s2).trans k4)
   have e:((f.at_+1:Nat):Int)=(f.at_:Nat)+1:=by omega
   refine fin rfl (λx hx=> .inl hx) ((Kq.of s2).trans k4) h4 ?_ ?_ ?_ q
   ·exact hC.imp λ_ _ z=>ClAt.mo mo4 z
   ·have n1:FAt H4 ⟨f.k,f.at_+1,f.sl,st1⟩ (.ref p1):=⟨p1,sl,ds,rfl,by rw[e];exact hf1,hsl.imp λ_ _ z=>VAt.mo mo4 z,hds.imp λ_ _ z=>VAt.mo mo4 z⟩
    have n2:FAt H4 (begun b bk.sz xs) (.ref p2):=⟨p2,_,[],rfl,hf2,by
     show All2 (VAt H4) (xs++List.replicate (bk.sz - xs.length) (.sc .non)) _
     rw[les]
     exact(hes.imp λ_ _ z=>VAt.mo mo4 z).app (BQ _),.nil⟩
    exact((hF0.imp λ_ _ z=>FAt.mo mo4 z).app (.cons n1 .nil)).app (.cons n2 .nil)
   ·rfl
 |apply=>
  refine⟨_,rfl,(ixT hrwa rfl (.inl ⟨rfl,_,rfl,ifF (by decide) ?_⟩))⟩
  refine⟨λ_ H'=>Q (.bl true) H', ?_,λ_ _ h=>h⟩
  refine⟨_,rfl,(ixT hrwa rfl ⟨(by show 2<=sizeLine;omega),λt1 ht1=> .inr (.inl ⟨t1,_,rfl,.inr (SqT.of upd_same),rfl,rfl,_,rfl,ifT (by decide) ?_⟩)⟩)⟩
  have s2:=A5 ht1 (.tup [.str "call",.str "apply"])
  generalize upd H1 t1 (.tup [.str "call",.str "apply"])=H2 at s2⊢
  have mo2:Mo H1 H2:=B5 s2
  have h2:=h1.same s2
  refine⟨_,rfl,A.m,A.dx,_,rfl,h2.m,rfl,_,rfl,_,rfl,A,vb,us,vf0,_,_,_,_,p0,rwa,rfl,h2,by omega, ?_⟩
  cases hact with
  |dry _ hmc=>
   refine .inl ⟨by omega,λs4 p H4 hs4 k4 h4 hp4=> ?_⟩
   have mo4:Mo H1 H4:=h1.mo ((Kq.of s2).trans k4)
   refine fin (A':={A with s:=s4}) rfl (ownS s4 (s2.free hs4)) ((Kq.of s2).trans k4) h4 ?_ ?_ ?_ q
   ·exact hC.imp λ_ _ z=>ClAt.mo mo4 z
   ·exact .nil
   ·exact⟨p,rfl,hp4⟩
  |deep _ hmc h60=>
   refine .inr (.inl ⟨by omega,by omega,λs4 p H4 hs4 k4 h4 hp4=> ?_⟩)
   rw[ec]at h4
   have mo4:Mo H1 H4:=h1.mo ((Kq.of s2).trans k4)
   refine fin (A':={A with s:=s4}) rfl (ownS s4 (s2.free hs4)) ((Kq.of s2).trans k4) h4 ?_ ?_ ?_ q
   ·exact hC.imp λ_ _ z=>ClAt.mo mo4 z
   ·exact .nil
   ·exact⟨p,rfl,hp4⟩
  | @apply b bk st1 j xs x hmc h60 hfst hcj hbk2 hxz=>
   rw[hfst]at hst
   obtain⟨ds,es,rfl,hds,hes⟩:=E4 hst
   cases hes with
   |cons a1 t3=>
    cases t3 with
    | @cons _ x' _ _ a2 t4=>
     cases t4
     obtain⟨cv,rfl,hcv⟩:=a1
     obtain⟨u2,hu2,tb2,rs2,ur2,rfl,hb21,hb22,hb23,hb24⟩:=M0 hB hbk2
     obtain⟨u3,hu3,fc,vt,xs',rfl,hfc,hvt,hxs,hx10⟩:=M0 hC hcj
     have lxs:=hxs.len
     refine .inr (.inr ⟨by omega,by omega,_,_,sl,ds++ [.ref cv,x'],ds,b,xs'++ [x'],bk.sz,FrAt.mo' mo2 hFr,by omega,.inr ⟨cv,x',j,fc,vt,xs',s2 _ _ hrwa,rfl,s2 _ _ hcv,hu3,s2 _ _ hfc,s2 _ _ hvt,⟨tb2,_,_,hu2,s2 _ _ hb21⟩,by omega,by omega,rfl⟩,λp1 p2 H4 k4 h4 hf1 hf2=> ?_⟩)
     rw[ec]at h4
     have mo4:Mo H1 H4:=h1.mo ((Kq.of s2).trans k4)
     have e:((f.at_+1:Nat):Int)=(f.at_:Nat)+1:=by omega
     refine fin rfl (λx hx=> .inl hx) ((Kq.of s2).trans k4) h4 ?_ ?_ ?_ q
     ·exact hC.imp λ_ _ z=>ClAt.mo mo4 z
     ·have n1:FAt H4 ⟨f.k,f.at_+1,f.sl,st1⟩ (.ref p1):=⟨p1,sl,ds,rfl,by rw[e];exact hf1,hsl.imp λ_ _ z=>VAt.mo mo4 z,hds.imp λ_ _ z=>VAt.mo mo4 z⟩
      have n2:FAt H4 (begun b bk.sz (xs++ [x])) (.ref p2):=⟨p2,_,[],rfl,hf2,by
       show All2 (VAt H4) ((xs++ [x])++List.replicate (bk.sz - (xs++ [x]).length) (.sc .non)) _
       rw[length_append,length_append,lxs]
       exact((hxs.imp λ_ _ z=>VAt.mo mo4 z).app (.cons (a2.mo mo4) .nil)).app (BQ _),.nil⟩
      exact((hF0.imp λ_ _ z=>FAt.mo mo4 z).app (.cons n1 .nil)).app (.cons n2 .nil)
     ·rfl
end
noncomputable abbrev s_hung_on:Stmt:=G6 (top 36) 7
noncomputable abbrev s_hang_on:Stmt:=G6 (top 36) 8
abbrev TY:List Str:=["self","found","frame"]
theorem sc_hung_on:FnScope TY G4 (B0 s_hung_on):=fS
abbrev SS:List Str:=["self","values","at","frames","frame","stack_at","end"]
theorem sc_hang_on:FnScope SS aRZ (B0 s_hang_on):=fS
noncomputable def N9:Option Ou->List Fr->List Vl
 |some (.value v),_=> [v]
 |_,fs=>fs.flatMap λf=>f.sl++f.st
noncomputable def mvF(g:Vl->Vl)(f:Fr):Fr:=⟨f.k,f.at_,f.sl.map g,f.st.map g⟩
noncomputable def mvO(g:Vl->Vl):Ou->Ou
 | .value v=> .value (g v)
 |o=>o
theorem YU{o:Option Ou}(h:V3 o=false)(fs:List Fr):N9 o fs=fs.flatMap λf=>f.sl++f.st:=by
 cases o with
 |none=>rfl
 |some o=>cases o<;>first|rfl|cases h
section
variable{P:Program}{w:World}{K:FZ}{mg:Str->Option Value}{base:Heap}{CM C:Addr}{gf mf:Str->Addr}{gd md:Str->FuncData}
def YH(CM C:Addr):Sp:=λvs H Q _=>∃(A:Ad) (bs us fs:List V) (most:Int) (out:V) (r c:Int) (o:Option Ou) (frs:List Fr),vs=[.ref A.m]/\MR CM C H A bs us fs most out r c/\OAt H o out/\All2 (FAt H) frs fs/\(N9 o frs).length<=1000/\
 ∀l xs H',Same H H'->H l=none->H' l=some (.lst xs)->All2 (VAt H') (N9 o frs) xs->Q (.ref l) H'
theorem ok_hung_on(F:Fun K "hung_on" "Machine.hung_on" s_hung_on (gf "hung_on") (gd "hung_on"))(RM:MCls K CM gf gd)
  (O8:FnOk P w K mg base CX0 1 (gf "has_value") (gd "has_value") G4 (KG CM)):FnOk P w K mg base CX0 2 (gf "hung_on") (gd "hung_on") G4 (YH CM C):=by
 refine F.ok sc_hung_on (λvs H Q E h=> ?_) (λcdv A outer s H vs Q E hr h=> ?_)
 ·obtain⟨A,bs,us,fs,most,out,r,c,o,frs,rfl,_⟩:=h
  rfl
 obtain⟨A,bs,us,fs,most,out,r,c,o,frs,rfl,hM,hO,hF,hlen,q⟩:=h
 have nd:=sc_hung_on.nd
 have hu:=hr.units0
 have zz:(4000:Nat)<=sizeLine:=by decide
 refine⟨_,(A8 (D8 (K7 (K:=K) (G0 (pv 0) RM.cl RM.m_has_value O8 (hr.mono (by omega)) RM.b_has_value .nil C2) (λ_=>rfl)) (A9 (C0 (J8 (A0 (ixE K w (E3 (pv 0) rfl) A7) A6)))) C9)
   (A8 (C4 (i:=1) nd rfl (Or.inl rfl) (J8 A6))
   (A8 (G5 (X2 PassesOwn.never rfl (Z2 (K:=K) (E3 (pv 0) rfl)) (M5 (i:=2) nd rfl (Or.inl rfl)) (A9 (G2 (HP (K:=K) PySem.F.plainAttrs_list PySem.F.slot_list_extend PySem.F.type_list_extend (IP (K:=K)) (pv 1) (A0 (C3 (N2 (K:=K)) (ixE K w (pv 2) A7) (ixE K w (pv 2) A7)) A6))))))
   (A9 (C0 (pv 1)))))), ?_⟩
 refine⟨_,rfl,A.m,A.dx,_,rfl,hM.m,rfl,A,most,out,r,c,V3 o,rfl,hM.m,hO.ov,_,rfl, ?_⟩
 cases hv:V3 o with
 |true=>
  obtain⟨x,rfl⟩:∃x,o=some (.value x):=by
   cases o with
   |none=>cases hv
   |some o=>cases o<;>first|exact⟨_,rfl⟩|cases hv
  obtain⟨p,v,rfl,hp,hxv⟩:=hO
  refine ifT rfl ⟨_,rfl,A.m,CM,A.dx,_,_,rfl,hM.m,RM.cl,RM.n5,l5,(ixT hp rfl ⟨(by show 1<=sizeLine;omega),λl hl=> ?_⟩)⟩
  have t:=A5 hl (.lst [v])
  exact q l [v] _ t hl upd_same (.cons (hxv.mo (B5 t)) .nil)
 |false=>
 rw[YU hv]at hlen q
 refine ifF nZ ?_
 refine⟨(by show 0<=sizeLine;omega),λfl hfl=> ?_⟩
 have t1:=A5 hfl (.lst [])
 have hfl1:upd H fl (.lst []) fl=some (.lst []):=upd_same
 have nfl:fl≠A.s:=λe=>by have:=hM.s;rw[<-e,hfl]at this;cases this
 show Q3 _ _ _ [some (.ref A.m),some (.ref fl),none] (upd H fl (.lst []))
 generalize upd H fl (.lst [])=H1 at t1 hfl1⊢
 have h1:=hM.same t1
 have wf:∀(Hx:Hp) (ob:HO),Same H Hx->Same H (upd Hx fl ob):=λHx ob a x u h=>by rw[B8 (λe=>by rw[e,hfl]at h;cases h)];exact a _ _ h
 have hfsl:=hF.len
 refine⟨fun σ H'=>∃y xs,σ=[some (.ref A.m),some (.ref fl),y]/\Same H H'/\H' fl=some (.lst xs)/\All2 (VAt H') (frs.flatMap λf=>f.sl++f.st) xs, ?_, ?_⟩
 ·refine⟨_,rfl,A.m,CM,A.dx,_,_,rfl,h1.m,RM.cl,RM.n4,l4,A.s,rfl,⟨_,SqL.of h1.s⟩,BB (xs:=fs) (λi σ H'=>∃y xs,σ=[some (.ref A.m),some (.ref fl),y]/\Same H H'/\H' fl=some (.lst xs)/\All2 (VAt H') ((frs.take i).flatMap λf=>f.sl++f.st) xs) ⟨none,[],rfl,t1,hfl1,.nil⟩ ?_ ?_ ?_⟩
  ·rintro i σ H' _ ⟨y,xs,rfl,s2,_⟩
   exact SqL.of (s2 _ _ hM.s)
  ·rintro i v σ H' hv ⟨y,xs,rfl,s2,hx,hA⟩
   obtain⟨f,hfi,p0,sl,st,rfl,⟨q0,e0,g1,g2,g3⟩,hsl,hst⟩:=hF.get hv
   have hle:((frs.take (i+1)).flatMap λf=>f.sl++f.st).length<=1000:=by
    have e:(frs.flatMap λf=>f.sl++f.st).length=((frs.take (i+1)).flatMap λf=>f.sl++f.st).length+((frs.drop (i+1)).flatMap λf=>f.sl++f.st).length:=by
     rw[<-length_append,<-flatMap_append,List.take_append_drop]
    omega
   have et:(frs.take (i+1)).flatMap (λf=>f.sl++f.st)=(frs.take i).flatMap (λf=>f.sl++f.st)++(f.sl++f.st):=by
    rw[take_succ,hfi,flatMap_append]
    simp
   rw[et,length_append,length_append]at hle
   have l1':=hA.len
   have l2':=hsl.len
   have l3':=hst.len
   refine⟨_,rfl,.inl ⟨rfl,_,SqL.of hx⟩,_,rfl,(ixT (s2 _ _ g1) rfl ⟨_,rfl,(ixT (s2 _ _ g1) rfl (.inr (.inr (J5 (s2 _ _ g2) (s2 _ _ g3) (by omega) λrr H2 s3 hr2=> ?_))))⟩)⟩
   refine⟨fl,rr,xs,sl++st,rfl,rfl,s3 _ _ hx,SqT.of hr2,by rw[length_append];omega, ?_⟩
   have m4:Mo H2 (upd H2 fl (.lst (xs++(sl++st)))):=λb zs e=>by
    have:b≠fl:=λz=>by rw[z,s3 _ _ hx]at e;cases e
    rw[B8 this];exact e
   have m24:Mo H' (upd H2 fl (.lst (xs++(sl++st)))):=λb zs e=>m4 _ _ (s3 _ _ e)
   have mH4:Mo H (upd H2 fl (.lst (xs++(sl++st)))):=λb zs e=>m24 _ _ (s2 _ _ e)
   refine⟨_,xs++(sl++st),rfl,wf _ _ (s2.trans s3),upd_same, ?_⟩
   rw[et]
   exact(hA.imp λ_ _ z=>VAt.mo m24 z).app ((hsl.imp λ_ _ z=>VAt.mo mH4 z).app (hst.imp λ_ _ z=>VAt.mo mH4 z))
  ·rintro σ H' ⟨y,xs,rfl,s2,hx,hA⟩
   rw[<-hfsl,take_length]at hA
   exact⟨y,xs,rfl,s2,hx,hA⟩
 ·rintro σ H' ⟨y,xs,rfl,s2,hx,hA⟩
  exact⟨_,rfl,q fl xs _ s2 hfl hx hA⟩
def WM(CM C:Addr):Sp:=λvs H Q _=>∃(A:Ad) (bs us fs:List V) (most:Int) (out:V) (r c:Int) (o:Option Ou) (frs:List Fr) (g:Vl->Vl) (l:Addr) (ys:List V),vs=[.ref A.m,.ref l]/\MR CM C H A bs us fs most out r c/\OAt H o out/\All2 (FAt H) frs fs/\(o≠none->frs=[])/\frs.length<=60/\H l=some (.lst ys)/\l∉A.own/\All2 (VAt H) ((N9 o frs).map g) ys/\ys.length<=1000/\
 ∀s fs' out' H',H s=none->Kq A H H'->MR CM C H' {A with s:=s} bs us fs' most out' r c->All2 (FAt H') (frs.map (mvF g)) fs'->OAt H' (o.map (mvO g)) out'->Q .non H'
theorem MY{α:Type}{a b c:List α}{n m:Nat}(h:a.length=n)(h':b.length=m):((a++b++c).drop n).take m=b:=by
 subst h h'
 rw[List.append_assoc,List.drop_left,List.take_left]
theorem ok_hang_on(F:Fun K "hang_on" "Machine.hang_on" s_hang_on (gf "hang_on") (gd "hang_on"))(B:NoG mg)(RM:MCls K CM gf gd)
  (O8:FnOk P w K mg base CX0 1 (gf "has_value") (gd "has_value") G4 (KG CM)):FnOk P w K mg base CX0 2 (gf "hang_on") (gd "hang_on") aRZ (WM CM C):=by
 refine F.ok sc_hang_on (λvs H Q E h=> ?_) (λcdv A outer s H vs Q E hr h=> ?_)
 ·obtain⟨A,bs,us,fs,most,out,r,c,o,frs,g,l,ys,rfl,_⟩:=h
  rfl
 obtain⟨A,bs,us,fs,most,out,r,c,o,frs,g,l,ys,rfl,hM,hO,hF,hE,hfr,hl,nl,hY,hyl,q⟩:=h
 have nd:=sc_hang_on.nd
 have hu:=hr.units0
 have zz:(4000:Nat)<=sizeLine:=by decide
 have hfl:=hF.len
 refine⟨_,(A8 (G5 (D8 (K7 (K:=K) (G0 (pv 0) RM.cl RM.m_has_value O8 (hr.mono (by omega)) RM.b_has_value .nil C2) (λ_=>rfl)) (A9 (O6 (pv 0) (B4 (A0 B6 (A0 (ixE K w (pv 1) A7) A6))) rfl)) C9))
   (A8 (C4 (i:=2) nd rfl (Or.inl rfl) A7)
   (A8 (C4 (i:=3) nd rfl (Or.inl rfl) (J8 A6))
   (A8 (G5 (X2 PassesOwn.never rfl (Z2 (K:=K) (E3 (pv 0) rfl)) (M5 (i:=4) nd rfl (Or.inl rfl)) (A8 (C4 (i:=5) nd rfl (Or.inl rfl) (C3 (N2 (K:=K)) (pv 2) (C8 (P4 (K:=K)) rfl B.len_ L9 (A0 (ixE K w (pv 4) A7) A6))))
   (A8 (C4 (i:=6) nd rfl (Or.inl rfl) (C3 (N2 (K:=K)) (pv 5) (C8 (P4 (K:=K)) rfl B.len_ L9 (A0 (ixE K w (pv 4) A7) A6))))
   (A8 (G2 (HP (K:=K) PySem.F.plainAttrs_list PySem.F.slot_list_append PySem.F.type_list_append O5 (pv 3) (A0 (B4 (A0 (ixE K w (pv 4) A7) (A0 (ixE K w (pv 4) A7) (A0 (G3 (EW (K:=K)) rfl B.tuple_ N5 (A0 (J1 (AM (K:=K)) (pv 1) (J0 (pv 2)) (J0 (pv 5))) A6)) (A0 (G3 (EW (K:=K)) rfl B.tuple_ N5 (A0 (J1 (AM (K:=K)) (pv 1) (J0 (pv 5)) (J0 (pv 6))) A6)) A6))))) A6)))
   (A9 (C4 (i:=2) nd rfl (Or.inl rfl) (pv 6))))))))
   (A9 (O6 (pv 0) (pv 3) rfl)))))), ?_⟩
 refine⟨fun σ H'=>∃out',σ=[some (.ref A.m),some (.ref l),none,none,none,none,none]/\Kq A H H'/\MR CM C H' A bs us fs most out' r c/\OAt H' (o.map (mvO g)) out', ?_, ?_⟩
 ·refine⟨_,rfl,A.m,A.dx,_,rfl,hM.m,rfl,A,most,out,r,c,V3 o,rfl,hM.m,hO.ov,_,rfl, ?_⟩
  cases hv:V3 o with
  |true=>
   obtain⟨x,rfl⟩:∃x,o=some (.value x):=by
    cases o with
    |none=>cases hv
    |some o=>cases o<;>first|exact⟨_,rfl⟩|cases hv
   obtain⟨y,ys',rfl,hy,hys⟩:∃y ys',ys=y::ys'/\VAt H (g x) y/\ys'=[]:=by
    cases hY with
    |cons h1 h2=>cases h2;exact⟨_,_,rfl,h1,rfl⟩
   subst hys
   refine ifT rfl ⟨_,rfl,(ixL (v:=y) hl rfl ⟨(by show 2<=sizeLine;omega),λp hp=> ?_⟩)⟩
   have t:=A5 hp (.tup [.str "value",y])
   have h1:=hM.same t
   refine⟨_,rfl,A.m,CM,A.dx,_,rfl,h1.m,RM.cl,RM.n5,lf, ?_⟩
   rw[p5]
   have k1:Kq A (upd H p (.tup [.str "value",y])) (upd (upd H p (.tup [.str "value",y])) A.m (.ins CM A.dx (J3 A most (.ref p) r c))):=Kq.updO _ (BF A)
   have mo:=h1.mo k1
   exact⟨.ref p,rfl,(Kq.of t).trans k1,h1.putM r c (.ref p),p,y,rfl,mo _ _ upd_same,(hy.mo (B5 t)).mo mo⟩
  |false=>
   have e:o.map (mvO g)=o:=by
    cases o with
    |none=>rfl
    |some o=>cases o<;>first|rfl|cases hv
   refine ifF nZ ⟨out,rfl,Kq.refl A H,hM, ?_⟩
   rw[e];exact hO
 rintro σ H1 ⟨out',rfl,k1,h1,hO1⟩
 have mo1:=hM.mo k1
 refine⟨(by show 0<=sizeLine;omega),λgl hgl=> ?_⟩
 have t2:=A5 hgl (.lst [])
 have hgl2:upd H1 gl (.lst []) gl=some (.lst []):=upd_same
 have h2:=h1.same t2
 have hl2:=t2 _ _ (k1 _ _ hl nl)
 have nlg:l≠gl:=λe=>by rw[<-e,k1 _ _ hl nl]at hgl;cases hgl
 show Q3 _ _ _ [some (.ref A.m),some (.ref l),some (.int 0),some (.ref gl),none,none,none] (upd H1 gl (.lst []))
 generalize upd H1 gl (.lst [])=H2 at t2 hgl2 h2 hl2⊢
 have hgl0:H gl=none:=by
  cases e:H gl with
  |none=>rfl
  |some ob=>
   by_cases z:gl∈A.own
   ·obtain⟨dx,ho,hL⟩:=h1.o
    simp only[Ad.own,mem_cons,not_mem_nil,or_false]at z
    rcases z with z|z|z|z|z<;>rw[z]at hgl
    ·rw[h1.m]at hgl;cases hgl
    ·rw[h1.bl]at hgl;cases hgl
    ·rw[ho]at hgl;cases hgl
    ·rw[hL]at hgl;cases hgl
    ·rw[h1.s]at hgl;cases hgl
   ·rw[k1 _ _ e z]at hgl;cases hgl
 have hF2:=hF.imp λ_ _ z=>FAt.mo (λb xs e=>t2 _ _ (mo1 _ _ e)) z
 have hY2:=hY.imp λ_ _ z=>VAt.mo (λb xs e=>t2 _ _ (mo1 _ _ e)) z
 have pre:∀i,((frs.take i).flatMap λf=>f.sl++f.st).length=((frs.take i).flatMap λf=>(f.sl++f.st).map g).length:=λi=>by
  rw[List.length_flatMap,List.length_flatMap]
  simp
 refine⟨fun σ H'=>∃y2 y4 y5 y6 zs,σ=[some (.ref A.m),some (.ref l),y2,some (.ref gl),y4,y5,y6]/\(∀b ob,H2 b=some ob->b≠gl->H' b=some ob)/\H' gl=some (.lst zs)/\All2 (FAt H') (frs.map (mvF g)) zs, ?_, ?_⟩
 ·refine⟨_,rfl,A.m,CM,A.dx,_,_,rfl,h2.m,RM.cl,RM.n4,l4,A.s,rfl,⟨_,SqL.of h2.s⟩,BB (xs:=fs) (λi σ H'=>∃y4 y5 y6 zs,σ=[some (.ref A.m),some (.ref l),some (.int (((frs.take i).flatMap λf=>f.sl++f.st).length:Nat)),some (.ref gl),y4,y5,y6]/\(∀b ob,H2 b=some ob->b≠gl->H' b=some ob)/\H' gl=some (.lst zs)/\All2 (FAt H') ((frs.take i).map (mvF g)) zs) ⟨_,_,_,[],rfl,λ_ _ e _=>e,hgl2,.nil⟩ ?_ ?_ ?_⟩
  ·rintro i σ H' _ ⟨y4,y5,y6,zs,rfl,k3,_⟩
   exact SqL.of (k3 _ _ h2.s λe=>by have:=h1.s;rw[e,hgl]at this;cases this)
  ·rintro i v σ H' hv ⟨y4,y5,y6,zs,rfl,k3,hg3,hZ⟩
   obtain⟨f,hfi,p0,sl,st,rfl,⟨q0,e0,g1,g2,g3⟩,hsl,hst⟩:=hF2.get hv
   have hon:o=none:=by
    cases o with
    |none=>rfl
    |some o=>rw[hE (by intro z;cases z)]at hfi;cases hfi
   subst hon
   have ngT:∀ {b:Addr} {xs:List V},H2 b=some (.tup xs)->b≠gl:=λ{b xs} e z=>by rw[z,hgl2]at e;cases e
   have g1':=k3 _ _ g1 (ngT g1)
   have g2':=k3 _ _ g2 (ngT g2)
   have g3':=k3 _ _ g3 (ngT g3)
   have hl3:=k3 _ _ hl2 nlg
   have hi:i<fs.length:=(List.getElem?_eq_some_iff.mp hv).1
   have ew:(N9 none frs).map g=((frs.take i).flatMap λf=>f.sl++f.st).map g++f.sl.map g++f.st.map g++((frs.drop (i+1)).flatMap λf=>f.sl++f.st).map g:=by
    show(frs.flatMap λf=>f.sl++f.st).map g=_
    conv=>lhs;rw[<-List.take_append_drop (i+1) frs,take_succ,hfi]
    simp[flatMap_append]
   rw[ew]at hY2
   obtain⟨y3,yd,e3,hY3,hYd⟩:=E4 hY2
   obtain⟨y2',yc,e2,hY2',hYc⟩:=E4 hY3
   obtain⟨ya,yb,e1,hYa,hYb⟩:=E4 hY2'
   subst e1 e2
   have la:=hYa.len
   have lb:=hYb.len
   have lc:=hYc.len
   have l2':=hsl.len
   have l3':=hst.len
   rw[length_map]at la lb lc
   have et:((frs.take (i+1)).flatMap λf=>f.sl++f.st).length=((frs.take i).flatMap λf=>f.sl++f.st).length+(sl.length+st.length):=by
    rw[take_succ,hfi,flatMap_append,length_append]
    simp[l2',l3']
   generalize((frs.take i).flatMap λf=>f.sl++f.st).length=n at la et⊢
   refine⟨_,rfl,_,rfl,(ixT g1' rfl ⟨_,_,rfl,.inr ⟨_,SqT.of g2',rfl⟩,.inl ⟨_,_,rfl,rfl, ?_⟩⟩)⟩
   refine⟨_,rfl,_,rfl,(ixT g1' rfl ⟨_,_,rfl,.inr ⟨_,SqT.of g3',rfl⟩,.inl ⟨_,_,rfl,rfl, ?_⟩⟩)⟩
   refine⟨_,rfl,.inl ⟨rfl,_,SqL.of hg3⟩,_,rfl,(ixT g1' rfl ⟨_,rfl,(ixT g1' rfl ?_)⟩)⟩
   have ec1:K9 ys (some ((n:Nat):Int)) (some (((n:Nat):Int)+((sl.length:Nat):Int)))=yb:=by
    rw[show((n:Nat):Int)+((sl.length:Nat):Int)=((n+sl.length:Nat):Int) by omega,NK,e3,List.append_assoc,Nat.add_sub_cancel_left]
    exact MY la.symm (by omega)
   have ec2:K9 ys (some (((n:Nat):Int)+((sl.length:Nat):Int))) (some (((n:Nat):Int)+((sl.length:Nat):Int)+((st.length:Nat):Int)))=yc:=by
    rw[show((n:Nat):Int)+((sl.length:Nat):Int)+((st.length:Nat):Int)=((n+sl.length+st.length:Nat):Int) by omega,show((n:Nat):Int)+((sl.length:Nat):Int)=((n+sl.length:Nat):Int) by omega,NK,e3,Nat.add_sub_cancel_left]
    exact MY (by rw[length_append];omega) (by omega)
   refine⟨_,rfl,_,rfl,_,rfl,_,rfl,_,rfl,.inl (.inl ⟨l,_,rfl,SqL.of hl3,λc1 hc1=> ?_⟩)⟩
   have s4:=A5 hc1 (.lst (K9 ys (some ((n:Nat):Int)) (some (((n:Nat):Int)+((sl.length:Nat):Int)))))
   refine⟨c1,_,rfl,.inl ⟨SqL.of upd_same,λt1 ht1=> ?_⟩⟩
   rw[ec1]
   have s5:=A5 ht1 (.tup yb)
   rw[ec1]at s4
   rw[ec1]at ht1
   rw[ec1]at s5
   refine⟨_,rfl,_,rfl,_,rfl,_,rfl,_,rfl,.inl (.inl ⟨l,_,rfl,SqL.of (s5 _ _ (s4 _ _ hl3)),λc2 hc2=> ?_⟩)⟩
   rw[ec2]
   have s6:=A5 hc2 (.lst yc)
   refine⟨c2,_,rfl,.inl ⟨SqL.of upd_same,λt2 ht2=> ?_⟩⟩
   have s7:=A5 ht2 (.tup yc)
   refine⟨(by show 4<=sizeLine;omega),λpp hpp=> ?_⟩
   have s8:=A5 hpp (.tup [.int ((f.k:Nat):Int),.int ((f.at_:Nat):Int),.ref t1,.ref t2])
   have s48:=s4.trans (s5.trans (s6.trans (s7.trans s8)))
   have hzl:=hZ.len
   rw[length_map,length_take]at hzl
   refine⟨gl,zs,_,rfl,rfl,s48 _ _ hg3,by omega, ?_⟩
   have ht19:=(s6.trans (s7.trans s8)) _ _ (show upd _ t1 (.tup yb) t1=some (.tup yb)from upd_same)
   have ht29:=s8 _ _ (show upd _ t2 (.tup yc) t2=some (.tup yc)from upd_same)
   have hg9:=s48 _ _ hg3
   have ee:((n:Nat):Int)+((sl.length:Nat):Int)+((st.length:Nat):Int)=((((frs.take (i+1)).flatMap λf=>f.sl++f.st).length:Nat):Int):=by rw[et];omega
   refine⟨_,rfl, ?_⟩
   refine⟨_,_,_,zs++ [.ref pp],by rw[<-ee];rfl,λb ob e nb=>SW.upd_at (s48 _ _ (k3 _ _ e nb)) nb,upd_same, ?_⟩
   have m9:Mo (upd (upd (upd (upd (upd H' c1 (.lst yb)) t1 (.tup yb)) c2 (.lst yc)) t2 (.tup yc)) pp (.tup [.int ((f.k:Nat):Int),.int ((f.at_:Nat):Int),.ref t1,.ref t2])) (upd (upd (upd (upd (upd (upd H' c1 (.lst yb)) t1 (.tup yb)) c2 (.lst yc)) t2 (.tup yc)) pp (.tup [.int ((f.k:Nat):Int),.int ((f.at_:Nat):Int),.ref t1,.ref t2])) gl (.lst (zs++ [.ref pp]))):=λb xs e=>by
    have:b≠gl:=λz=>by rw[z,hg9]at e;cases e
    rw[B8 this];exact e
   have m29:Mo H2 (upd (upd (upd (upd (upd (upd H' c1 (.lst yb)) t1 (.tup yb)) c2 (.lst yc)) t2 (.tup yc)) pp (.tup [.int ((f.k:Nat):Int),.int ((f.at_:Nat):Int),.ref t1,.ref t2])) gl (.lst (zs++ [.ref pp]))):=λb xs e=>m9 _ _ (s48 _ _ (k3 _ _ e (ngT e)))
   have m39:Mo H' (upd (upd (upd (upd (upd (upd H' c1 (.lst yb)) t1 (.tup yb)) c2 (.lst yc)) t2 (.tup yc)) pp (.tup [.int ((f.k:Nat):Int),.int ((f.at_:Nat):Int),.ref t1,.ref t2])) gl (.lst (zs++ [.ref pp]))):=λb xs e=>m9 _ _ (s48 _ _ e)
   rw[take_succ,hfi,map_append]
   refine(hZ.imp λ_ _ z=>FAt.mo m39 z).app (.cons ?_ .nil)
   exact⟨pp,yb,yc,rfl,⟨t1,t2,m9 _ _ upd_same,m9 _ _ ht19,m9 _ _ ht29⟩,hYb.imp λ_ _ z=>VAt.mo m29 z,hYc.imp λ_ _ z=>VAt.mo m29 z⟩
  ·rintro σ H' ⟨y4,y5,y6,zs,rfl,k3,hg3,hZ⟩
   rw[<-hfl,take_length]at hZ
   exact⟨_,y4,y5,y6,zs,rfl,k3,hg3,hZ⟩
 rintro σ H3 ⟨y2,y4,y5,y6,zs,rfl,k3,hg3,hZ⟩
 have nm:A.m≠gl:=λe=>by have:=h1.m;rw[e,hgl]at this;cases this
 have h3m:=k3 _ _ h2.m nm
 refine⟨_,rfl,_,rfl,A.m,CM,A.dx,_,rfl,h3m,RM.cl,RM.n4,lf, ?_⟩
 rw[p4]
 obtain⟨dx,ho,hL⟩:=h2.o
 have ngl:∀ {x:Addr} {ob:HO},H1 x=some ob->x≠gl:=λ{x ob} e z=>by rw[z,hgl]at e;cases e
 obtain⟨dx',ho1,hL1⟩:=h1.o
 have n1:A.bl≠A.m:=λe=>by have:=h1.bl;rw[e,h1.m]at this;cases this
 have n3:A.L≠A.m:=λe=>by rw[e,h1.m]at hL1;cases hL1
 have k4:Kq A H (upd H3 A.m (.ins CM A.dx (J3 {A with s:=gl} most out' r c))):=λb ob e n=>by
  have:b≠A.m:=λz=>n (by rw[z];exact BF A)
  rw[B8 this]
  exact k3 _ _ (t2 _ _ (k1 _ _ e n)) (C6 e hgl0)
 have mo34:Mo H3 (upd H3 A.m (.ins CM A.dx (J3 {A with s:=gl} most out' r c))):=λb xs e=>by
  have:b≠A.m:=λz=>by rw[z,h3m]at e;cases e
  rw[B8 this];exact e
 have mo14:Mo H1 (upd H3 A.m (.ins CM A.dx (J3 {A with s:=gl} most out' r c))):=λb xs e=>mo34 _ _ (k3 _ _ (t2 _ _ e) (ngl e))
 refine q gl zs out' _ hgl0 k4 ⟨upd_same, ?_,⟨dx', ?_, ?_⟩, ?_, ?_, ?_,h1.nbL⟩ (hZ.imp λ_ _ z=>FAt.mo mo34 z) (hO1.mo mo14)
 ·rw[B8 n1];exact k3 _ _ h2.bl (ngl h1.bl)
 ·rw[B8 h1.om];exact k3 _ _ (t2 _ _ ho1) (ngl ho1)
 ·rw[B8 n3];exact k3 _ _ (t2 _ _ hL1) (ngl hL1)
 ·rw[B8 (Ne.symm nm)];exact hg3
 ·exact ngl hL1
 ·exact ngl h1.bl
end
noncomputable abbrev s_collect:Stmt:=G6 (top 36) 6
noncomputable abbrev s_answer:Stmt:=G6 (top 36) 10
noncomputable abbrev s_minit:Stmt:=G6 (top 36) 0
abbrev UA:List Str:=["self","ahead","told"]
theorem sc_collect:FnScope UA G4 (B0 s_collect):=fS
abbrev VJ:List Str:=["self"]
theorem sc_answer:FnScope VJ G4 (B0 s_answer):=fS
abbrev aYZ:List Str:=["self","blocks","main","numbers","most"]
theorem sc_minit:FnScope aYZ SZ (B0 s_minit):=fS
noncomputable def swS(ks:List Nat)(S:Ms):Ms:=⟨ks.map λk=>mvc ks (M9 S.cs k),S.frs.map (mvF (mv ks)),S.out.map (mvO (mv ks)),S.r,S.c⟩
structure Tidy (S:Ms):Prop where
 end_:S.out≠none->S.frs=[]
 okc:Okc S.cs
 okv:Okv S.cs.length (N9 S.out S.frs)
 few:Few S.cs (N9 S.out S.frs)
 len:(N9 S.out S.frs).length<=1000
def VRa(cs:List Cl):PL.Pv->Vl->Prop
 | .int i,x=>x=.sc (.int i)
 | .bl b,x=>x=.sc (.bl b)
 | .nil,x=>x=.sc .non
 | .cons h t,x=>∃(k:Nat) (a b:Vl),x=.cell k/\cs[k]? =some (.pair a b)/\VRa cs h a/\VRa cs t b
theorem VRa.vr{H:Hp}{cs:List Cl}{us:List V}(hC:All2 (ClAt H) cs us):∀ {t:PL.Pv} {x:Vl} {v:V},VRa cs t x->VAt H x v->PL.VR H us t v
 | .int _,_,_,e,h=>by subst e;exact h.1
 | .bl _,_,_,e,h=>by subst e;exact h.1
 | .nil,_,_,e,h=>by subst e;exact h.1
 | .cons _ _,_,_,⟨k,a,b,e,hk,h1,h2⟩,h=>by
  subst e
  obtain⟨p,rfl,hp⟩:=h
  obtain⟨u,hu,c,y,z,rfl,hc,hy,hz⟩:=M0 hC hk
  exact⟨p,k,c,y,z,rfl,hp,hu,hc,VRa.vr hC h1 hy,VRa.vr hC h2 hz⟩
section
variable{P:Program}{w:World}{K:FZ}{mg:Str->Option Value}{base:Heap}{CM C Pt:Addr}{gf mf:Str->Addr}{gd md:Str->FuncData}{fi ZK ZG Y6 fim:Addr}{di ZA ZH Y4 dim:FuncData}
theorem MR.putO{H:Hp}{A:Ad}{bs us us' fs:List V}{most r c:Int}{out:V}(h:MR CM C H A bs us fs most out r c){o L:Addr}(hc:CAt C H o L us')(nL:L≠A.s)(nb:A.bl≠L)(no:o≠A.m):MR CM C (upd H A.m (.ins CM A.dx (J3 {A with o:=o,L:=L} most out r c))) {A with o:=o,L:=L} bs us' fs most out r c:=by
 obtain⟨dx,ho,hL⟩:=hc
 have hm:=h.m
 have n1:A.bl≠A.m:=λe=>by have:=h.bl;rw[e,hm]at this;cases this
 have n3:L≠A.m:=λe=>by rw[e,hm]at hL;cases hL
 have n4:A.s≠A.m:=λe=>by have:=h.s;rw[e,hm]at this;cases this
 exact⟨upd_same,by rw[B8 n1];exact h.bl,⟨dx,by rw[B8 no];exact ho,by rw[B8 n3];exact hL⟩,by rw[B8 n4];exact h.s,nL,h.nbs,nb⟩
def DA(CM C:Addr):Sp:=λvs H Q _=>∃(A:Ad) (bs:List Bk) (most:Nat) (S:Ms),vs=[.ref A.m]/\MAt CM C H A bs most S/\S.frs.length<=60/\Tidy S/\
 ∀n A' ks H',New A A' H->Kq A H H'->Kept S.cs (N9 S.out S.frs) ks->MAt CM C H' A' bs most (swS ks S)->Q (.int n) H'
theorem ok_collect(F:Fun K "collect" "Machine.collect" s_collect (gf "collect") (gd "collect"))(RM:MCls K CM gf gd)(RC:RCls K C mf md)
  (VD:FnOk P w K mg base CX0 1 (mf "many") (md "many") G4 (XJ C))
  (SE:FnOk P w K mg base CX0 2 (gf "hung_on") (gd "hung_on") G4 (YH CM C))
  (SF:FnOk P w K mg base CX0 2 (gf "hang_on") (gd "hang_on") aRZ (WM CM C))
  (JB:Cn P w K mg base CX0 4 "swept" TL (QM C)):
  FnOk P w K mg base CX0 5 (gf "collect") (gd "collect") G4 (DA CM C):=by
 obtain⟨ZK,ZA,JB,YY,YZ,ZB⟩:=JB
 refine F.ok sc_collect (λvs H Q E h=> ?_) (λcdv A outer s H vs Q E hr h=> ?_)
 ·obtain⟨A,bs,most,S,rfl,_⟩:=h
  rfl
 obtain⟨A,bs,most,S,rfl,hA,hfr,hT,q⟩:=h
 obtain⟨vb,us,vf,out,hM,hB,hC,hF,hO⟩:=hA.ex
 obtain⟨dx,ho,hL⟩:=id hM.o
 have nd:=sc_collect.nd
 have hu:=hr.units0
 refine⟨_,(A8 (C4 (i:=1) nd rfl (Or.inl rfl) (G0 (E3 (pv 0) rfl) RC.cl RC.m_many VD (hr.mono (by omega)) RC.b_many .nil C2))
   (A8 (C4 (i:=2) nd rfl (Or.inl rfl) (B9 JB (hr.mono (by omega)) rfl ZB YZ YY .nil C2 (A0 (E3 (pv 0) rfl) (A0 (G0 (pv 0) RM.cl RM.m_hung_on SE (hr.mono (by omega)) RM.b_hung_on .nil C2) A6))))
   (A8 (O6 (pv 0) (ixE K w (pv 2) A7) rfl)
   (A8 (G2 (K1 (pv 0) RM.cl RM.m_hang_on SF (hr.mono (by omega)) RM.b_hang_on .nil C2 (A0 (ixE K w (pv 2) A7) A6)))
   (A9 (C0 (C3 N6 (pv 1) (G0 (E3 (pv 0) rfl) RC.cl RC.m_many VD (hr.mono (by omega)) RC.b_many .nil C2)))))))), ?_⟩
 refine⟨_,rfl,A.m,CM,A.dx,_,_,rfl,hM.m,RM.cl,RM.n3,l3,A.o,dx,_,rfl,ho,rfl,A.o,A.L,us,rfl,hM.o, ?_⟩
 refine⟨_,rfl,A.m,CM,A.dx,_,_,rfl,hM.m,RM.cl,RM.n3,l3,_,rfl,A.m,A.dx,_,rfl,hM.m,rfl,A,vb,us,vf,_,out,_,_,S.out,S.frs,rfl,hM,hO,hF,hT.len,λhl xs H1 s1 hl0 hl1 hX=> ?_⟩
 have hxl:=hX.len
 have hlen:=hT.len
 have h1:=hM.same s1
 refine⟨A.o,A.L,hl,us,xs,S.cs,N9 S.out S.frs,rfl,h1.o,hC.imp λ_ _ z=>ClAt.mo (B5 s1) z,hl1,hX,hT.okc,hT.okv,hT.few,by omega,λt o' L' l us' ys ks H2 s2 hK ht hc2 hC2 hl2 hY no' nL' nl0 nlL=> ?_⟩
 have h2:=h1.same s2
 have fr2:∀ {x:Addr},H1 x=none->H x=none:=λe=>s1.free e
 have notown:∀ {x:Addr},H1 x=none->x∉A.own:=λ{x} e hm=>by
  obtain⟨dx1,ho1,hL1⟩:=h1.o
  simp only[Ad.own,mem_cons,not_mem_nil,or_false]at hm
  rcases hm with z|z|z|z|z<;>rw[z]at e
  ·rw[h1.m]at e;cases e
  ·rw[h1.bl]at e;cases e
  ·rw[ho1]at e;cases e
  ·rw[hL1]at e;cases e
  ·rw[h1.s]at e;cases e
 have no:=notown no'
 have nLo:=notown nL'
 have nlo:=notown nl0
 have o1:o'≠A.m:=λe=>no (by rw[e];exact BF A)
 have o2:L'≠A.s:=λe=>nLo (by rw[e];exact DR A)
 have o3:A.bl≠L':=λe=>nLo (by rw[<-e];simp[Ad.own])
 refine⟨_,rfl,(ixT ht rfl ?_)⟩
 refine⟨_,rfl,A.m,CM,A.dx,_,rfl,h2.m,RM.cl,RM.n3,lf, ?_⟩
 rw[p3 o' L']
 have h3:=h2.putO (us':=us') hc2 o2 o3 o1
 have k3:Kq A H2 (upd H2 A.m (.ins CM A.dx (J3 {A with o:=o',L:=L'} (most:Nat) out (S.r:Nat) (S.c:Nat)))):=Kq.updO _ (BF A)
 have mo3:=h2.mo k3
 show Q3 _ _ _ [some (.ref A.m),some (.int (us.length:Nat)),some (.ref t)] (upd H2 A.m (.ins CM A.dx (J3 {A with o:=o',L:=L'} (most:Nat) out (S.r:Nat) (S.c:Nat))))
 have hl3:=k3 _ _ hl2 nlo
 obtain⟨dxo,hoo,hLL⟩:=id h2.o
 have ho3:upd H2 A.m (.ins CM A.dx (J3 {A with o:=o',L:=L'} (most:Nat) out (S.r:Nat) (S.c:Nat))) A.o=some (.ins C dxo [("in_order",.ref A.L)]):=by rw[B8 h2.om];exact hoo
 have hL3:upd H2 A.m (.ins CM A.dx (J3 {A with o:=o',L:=L'} (most:Nat) out (S.r:Nat) (S.c:Nat))) A.L=some (.lst us):=by rw[B8 (λe=>by have:=h2.m;rw[<-e,hLL]at this;cases this)];exact hLL
 generalize upd H2 A.m (.ins CM A.dx (J3 {A with o:=o',L:=L'} (most:Nat) out (S.r:Nat) (S.c:Nat)))=H3 at h3 k3 mo3 hl3 ho3 hL3⊢
 have moH3:Mo H H3:=λb zs e=>mo3 _ _ (s2 _ _ (s1 _ _ e))
 have nl3:l∉({A with o:=o',L:=L'}:Ad).own:=λhm=>by
  simp only[Ad.own,mem_cons,not_mem_nil,or_false]at hm nlo
  rcases hm with z|z|z|z|z
  ·exact nlo (.inl z)
  ·exact nlo (.inr (.inl z))
  ·obtain⟨_,hoo,_⟩:=hc2
   rw[z,hoo]at hl2;cases hl2
  ·exact nlL z
  ·exact nlo (.inr (.inr (.inr (.inr z))))
 have hyl:=hY.len
 rw[length_map]at hyl
 refine⟨_,rfl,A.m,A.dx,_,rfl,h3.m,rfl,_,rfl,(ixT (mo3 _ _ ht) rfl ?_)⟩
 refine⟨{A with o:=o',L:=L'},vb,us',vf,_,out,_,_,S.out,S.frs,mv ks,l,ys,rfl,h3,hO.mo moH3,hF.imp λ_ _ z=>FAt.mo moH3 z,hT.end_,hfr,hl3,nl3,hY.imp λ_ _ z=>VAt.mo mo3 z,by omega,λs4 fs' out' H4 hs4 k4 h4 hF4 hO4=> ?_⟩
 obtain⟨dx4,ho4,hL4⟩:=id h4.o
 have mo4:=h3.mo k4
 refine⟨_,rfl,_,rfl,A.m,CM,A.dx,_,_,rfl,h4.m,RM.cl,RM.n3,l3,o',dx4,_,rfl,ho4,rfl,o',L',us',rfl,h4.o,_,_,rfl,rfl, ?_⟩
 have frk:∀ {x:Addr},H3 x=none->H x=none:=λ{x} e=>by
  cases e':H x with
  |none=>rfl
  |some ob=>
   by_cases z:x∈A.own
   ·exfalso
    simp only[Ad.own,mem_cons,not_mem_nil,or_false]at z
    rcases z with z|z|z|z|z<;>rw[z]at e
    ·rw[h3.m]at e;cases e
    ·rw[h3.bl]at e;cases e
    ·rw[ho3]at e;cases e
    ·rw[hL3]at e;cases e
    ·rw[h3.s]at e;cases e
   ·rw[k3 _ _ (s2 _ _ (s1 _ _ e')) z]at e;cases e
 have kq:Kq A H H4:=λb ob e n=>by
  have e1:=s1 _ _ e
  refine k4 _ _ (k3 _ _ (s2 _ _ e1) n) λhm=> ?_
  simp only[Ad.own,mem_cons,not_mem_nil,or_false]at hm n
  rcases hm with z|z|z|z|z
  ·exact n (.inl z)
  ·exact n (.inr (.inl z))
  ·rw[z,no']at e1;cases e1
  ·rw[z,nL']at e1;cases e1
  ·exact n (.inr (.inr (.inr (.inr z))))
 have moH4:=hM.mo kq
 refine q _ {A with o:=o',L:=L',s:=s4} ks H4 ⟨rfl,λx hx=> ?_⟩ kq hK ⟨vb,us',fs',out',h4,hB.imp λ_ _ z=>BAt.mo moH4 z,hC2.imp λ_ _ z=>ClAt.mo (λb zs e=>mo4 _ _ (mo3 _ _ e)) z,hF4,hO4⟩
 simp only[Ad.own,mem_cons,not_mem_nil,or_false]at hx⊢
 rcases hx with z|z|z|z|z
 ·exact .inl (.inl z)
 ·exact .inl (.inr (.inl z))
 ·exact .inr (by rw[z];exact fr2 no')
 ·exact .inr (by rw[z];exact fr2 nL')
 ·exact .inr (by rw[z];exact frk hs4)
def X1(CM C Pt:Addr):Sp:=λvs H Q _=>∃(A:Ad) (bs:List Bk) (most:Nat) (S:Ms),vs=[.ref A.m]/\MAt CM C H A bs most S/\
 ((∃x t,S.out=some (.value x)/\VRa S.cs t x/\PL.size t<=400000/\FH H Pt PL.lamAt PL.lamQ/\∀p r H1 H',(∀b ob,H b=some ob->b≠Pt->H1 b=some ob)->FH H1 Pt PL.lamAt PL.lamQ->(PL.R (λa=>H a=none) H1 t).1 r->H1 p=none->H'=upd H1 p (.tup [.str "value",r])->Q (.ref p) H')\/
  (V3 S.out=false/\∀u,OAt H S.out u->Q u H))
theorem ok_answer(F:Fun K "answer" "Machine.answer" s_answer (gf "answer") (gd "answer"))(RM:MCls K CM gf gd)
  (O8:FnOk P w K mg base CX0 1 (gf "has_value") (gd "has_value") G4 (KG CM))
  (AT:Cn P w K mg base CX0 5 "plain" MJ (PL.spPlain C Pt)):
  FnOk P w K mg base CX0 6 (gf "answer") (gd "answer") G4 (X1 CM C Pt):=by
 obtain⟨ZG,ZH,AT,YW,ZL,ZD⟩:=AT
 refine F.ok sc_answer (λvs H Q E h=> ?_) (λcdv A outer s H vs Q E hr h=> ?_)
 ·obtain⟨A,bs,most,S,rfl,_⟩:=h
  rfl
 obtain⟨A,bs,most,S,rfl,hA,h⟩:=h
 obtain⟨vb,us,vf,out,hM,hB,hC,hF,hO⟩:=hA.ex
 have nd:=sc_answer.nd
 have hu:=hr.units0
 refine⟨_,(A8 (D8 (K7 (K:=K) (G0 (pv 0) RM.cl RM.m_has_value O8 (hr.mono (by omega)) RM.b_has_value .nil C2) (λ_=>rfl)) (A9 (C0 (B4 (A0 B6 (A0 (B9 AT (hr.mono (by omega)) rfl ZD ZL YW .nil C2 (A0 (E3 (pv 0) rfl) (A0 (ixE K w (E3 (pv 0) rfl) A7) A6))) A6))))) C9)
   (A9 (C0 (E3 (pv 0) rfl)))), ?_⟩
 refine⟨_,rfl,A.m,A.dx,_,rfl,hM.m,rfl,A,_,out,_,_,V3 S.out,rfl,hM.m,hO.ov,_,rfl, ?_⟩
 rcases h with⟨x,t,ho,hx,hsz,hT,fin⟩|⟨hv,fin⟩
 ·rw[ho]at hO⊢
  obtain⟨p,v,rfl,hp,hxv⟩:=hO
  refine ifT rfl ⟨_,rfl,A.m,CM,A.dx,_,_,rfl,hM.m,RM.cl,RM.n3,l3,_,rfl,A.m,CM,A.dx,_,_,rfl,hM.m,RM.cl,RM.n5,l5,(ixT hp rfl ?_)⟩
  refine⟨A.o,A.L,us,t,v,rfl,hM.o,VRa.vr hC hx hxv,hsz,hT,λr H1 k1 hT1 hR=>⟨(by show 2<=sizeLine;decide),λp1 hp1=> ?_⟩⟩
  exact fin p1 r H1 _ k1 hT1 hR hp1 rfl
 ·rw[hv]
  exact ifF nZ ⟨_,rfl,A.m,CM,A.dx,_,_,rfl,hM.m,RM.cl,RM.n5,l5,fin out hO⟩
def JY(CM C:Addr):Sp:=λvs H Q _=>∃(x dx bl num:Addr) (vb xs:List V) (main most:Nat) (bs:List Bk) (bk:Bk) (ws:List Vl),vs=[.ref x,.ref bl,.int (main:Nat),.ref num,.int (most:Nat)]/\H x=some (.ins CM dx [])/\H bl=some (.lst vb)/\All2 (BAt H) bs vb/\bs[main]? =some bk/\H num=some (.lst xs)/\All2 (VAt H) ws xs/\ws.length<=bk.sz/\
 ∀A H',A.m=x->(∀b ob,H b=some ob->b≠x->H' b=some ob)->(∀y∈A.own,y=x\/H y=none)->MAt CM C H' A bs most ⟨[],[begun main bk.sz ws],none,0,0⟩->Q .non H'
theorem ok_minit(F:Fun K "__init__" "Machine.__init__" s_minit fim dim)(B:NoG mg)(RM:MCls K CM gf gd)(M_Cells:Mk K C fi)(m_Cells:mg "Cells"=some (.ref C))
  (G___init__:FnOk P w K mg base CX0 1 fi di G4 (OO C))(b___init__:Binds K di G4 [])
  (N0:Cn P w K mg base CX0 1 "entered" ZX WO):
  FnOk P w K mg base CX0 3 fim dim SZ (JY CM C):=by
 obtain⟨Y6,Y4,N0,Y0,Y3,Y5⟩:=N0
 refine F.ok sc_minit (λvs H Q E h=> ?_) (λcdv A outer s H vs Q E hr h=> ?_)
 ·obtain⟨x,dx,bl,num,vb,xs,main,most,bs,bk,ws,rfl,_⟩:=h
  rfl
 obtain⟨x,dx,bl,num,vb,xs,main,most,bs,bk,ws,rfl,hx,hbl,hB,hbk,hnum,hW,hwz,q⟩:=h
 have nd:=sc_minit.nd
 have hu:=hr.units0
 have zz:(1000:Nat)<=sizeLine:=by decide
 refine⟨_,(A8 (O6 (pv 0) (G3 (X3 (K:=K)) rfl B.list_ M2 (A0 (pv 1) A6)) rfl)
   (A8 (O6 (pv 0) (pv 4) rfl)
   (A8 (O6 (pv 0) (MG M_Cells G___init__ (hr.mono (by omega)) rfl m_Cells b___init__ .nil C2) rfl)
   (A8 (O6 (pv 0) (J8 (A0 (B9 N0 (hr.mono (by omega)) rfl Y5 Y3 Y0 .nil C2 (A0 (pv 1) (A0 (pv 2) (A0 (pv 3) A6)))) A6)) rfl)
   (A8 (O6 (pv 0) S0 rfl)
   (A8 (O6 (pv 0) A7 rfl)
   (A9 (O6 (pv 0) A7 rfl)))))))), ?_⟩
 refine⟨_,rfl,bl,vb,rfl,.inl (SqL.of hbl),λnb hnb=> ?_⟩
 have t1:=A5 hnb (.lst vb)
 refine⟨_,rfl,x,CM,dx,_,rfl,t1 _ _ hx,RM.cl,RM.n1,(by decide), ?_⟩
 have nx1:nb≠x:=λe=>by rw[e,hx]at hnb;cases hnb
 have k1:∀b ob,H b=some ob->b≠x->upd (upd H nb (.lst vb)) x (.ins CM dx [("blocks",.ref nb)]) b=some ob:=λb ob e n=>by rw[B8 n];exact t1 _ _ e
 have hnb1:upd (upd H nb (.lst vb)) x (.ins CM dx [("blocks",.ref nb)]) nb=some (.lst vb):=by rw[B8 nx1];exact upd_same
 have hx1:upd (upd H nb (.lst vb)) x (.ins CM dx [("blocks",.ref nb)]) x=some (.ins CM dx [("blocks",.ref nb)]):=upd_same
 show Q3 _ _ _ _ (upd (upd H nb (.lst vb)) x (.ins CM dx [("blocks",.ref nb)]))
 generalize upd (upd H nb (.lst vb)) x (.ins CM dx [("blocks",.ref nb)])=H1 at k1 hnb1 hx1⊢
 refine⟨_,rfl,_,rfl,x,CM,dx,_,rfl,hx1,RM.cl,RM.n2,(by show 1<1000;decide), ?_⟩
 have k2:∀b ob,H1 b=some ob->b≠x->upd H1 x (.ins CM dx [("blocks",.ref nb),("most",.int (most:Nat))]) b=some ob:=λb ob e n=>by rw[B8 n];exact e
 have hx2:upd H1 x (.ins CM dx [("blocks",.ref nb),("most",.int (most:Nat))]) x=some (.ins CM dx [("blocks",.ref nb),("most",.int (most:Nat))]):=upd_same
 show Q3 _ _ _ _ (upd H1 x (.ins CM dx [("blocks",.ref nb),("most",.int (most:Nat))]))
 generalize upd H1 x (.ins CM dx [("blocks",.ref nb),("most",.int (most:Nat))])=H2 at k2 hx2⊢
 have nbx:∀ {b:Addr} {ob:HO},H b=some ob->(∀c d e,ob≠ .ins c d e)->b≠x:=λ{b ob} e n z=>by rw[z,hx]at e;exact n _ _ _ (Option.some.inj e).symm
 refine λo2 d2 ho2 hd2 hn2=>⟨o2,d2,rfl,upd_same,λL2 hL2=>⟨rfl, ?_⟩⟩
 obtain⟨s3,hC3,hL20⟩:=QZ (C:=C) ho2 hd2 hn2 hL2
 generalize upd (upd (upd (upd H2 d2 (.own o2)) o2 (.ins C d2 [])) L2 (.lst [])) o2 (.ins C d2 [("in_order",.ref L2)])=H3 at s3 hC3⊢
 refine⟨_,rfl,x,CM,dx,_,rfl,s3 _ _ hx2,RM.cl,RM.n3,(by show 2<1000;decide), ?_⟩
 obtain⟨dxo,hoo,hLL⟩:=id hC3
 have n2x:o2≠x:=λe=>by rw[e,hx2]at ho2;cases ho2
 have nLx:L2≠x:=λe=>by rw[e,hx2]at hL20;cases hL20
 have k4:∀b ob,H3 b=some ob->b≠x->upd H3 x (.ins CM dx [("blocks",.ref nb),("most",.int (most:Nat)),("store",.ref o2)]) b=some ob:=λb ob e n=>by rw[B8 n];exact e
 have hx4:upd H3 x (.ins CM dx [("blocks",.ref nb),("most",.int (most:Nat)),("store",.ref o2)]) x=some (.ins CM dx [("blocks",.ref nb),("most",.int (most:Nat)),("store",.ref o2)]):=upd_same
 show Q3 _ _ _ _ (upd H3 x (.ins CM dx [("blocks",.ref nb),("most",.int (most:Nat)),("store",.ref o2)]))
 generalize upd H3 x (.ins CM dx [("blocks",.ref nb),("most",.int (most:Nat)),("store",.ref o2)])=H4 at k4 hx4⊢
 have kk:∀b ob,H b=some ob->b≠x->H4 b=some ob:=λb ob e n=>k4 _ _ (s3 _ _ (k2 _ _ (k1 _ _ e n) n)) n
 have mo:Mo H H4:=λb zs e=>kk _ _ e (nbx e λc d f z=>nomatch z)
 obtain⟨u2,hu2,tb2,rs2,ur2,rfl,hb21,hb22,hb23,hb24⟩:=M0 hB hbk
 have lws:=hW.len
 refine⟨_,rfl,_,rfl,_,rfl,bl,vb,main,bk.sz,num,xs,rfl,kk _ _ hbl (nbx hbl λc d f z=>nomatch z),⟨tb2,_,_,hu2,mo _ _ hb21⟩,.inl (kk _ _ hnum (nbx hnum λc d f z=>nomatch z)),by omega,by omega,λp H5 s5 hF5=>⟨(by show 1<=sizeLine;omega),λsl hsl=> ?_⟩⟩
 have t6:=A5 hsl (.lst [.ref p])
 have hx6:=t6 _ _ (s5 _ _ hx4)
 refine⟨_,rfl,x,CM,dx,_,rfl,hx6,RM.cl,RM.n4,(by show 3<1000;decide), ?_⟩
 have nsx:sl≠x:=λe=>by rw[e,s5 _ _ hx4]at hsl;cases hsl
 have k7:∀b ob,upd H5 sl (.lst [.ref p]) b=some ob->b≠x->upd (upd H5 sl (.lst [.ref p])) x (.ins CM dx [("blocks",.ref nb),("most",.int (most:Nat)),("store",.ref o2),("standing",.ref sl)]) b=some ob:=λb ob e n=>by rw[B8 n];exact e
 have hx7:upd (upd H5 sl (.lst [.ref p])) x (.ins CM dx [("blocks",.ref nb),("most",.int (most:Nat)),("store",.ref o2),("standing",.ref sl)]) x=some (.ins CM dx [("blocks",.ref nb),("most",.int (most:Nat)),("store",.ref o2),("standing",.ref sl)]):=upd_same
 have hsl7:upd (upd H5 sl (.lst [.ref p])) x (.ins CM dx [("blocks",.ref nb),("most",.int (most:Nat)),("store",.ref o2),("standing",.ref sl)]) sl=some (.lst [.ref p]):=by rw[B8 nsx];exact upd_same
 show Q3 _ _ _ _ (upd (upd H5 sl (.lst [.ref p])) x (.ins CM dx [("blocks",.ref nb),("most",.int (most:Nat)),("store",.ref o2),("standing",.ref sl)]))
 generalize upd (upd H5 sl (.lst [.ref p])) x (.ins CM dx [("blocks",.ref nb),("most",.int (most:Nat)),("store",.ref o2),("standing",.ref sl)])=H7 at k7 hx7 hsl7⊢
 refine⟨_,rfl,x,CM,dx,_,rfl,hx7,RM.cl,RM.n5,(by show 4<1000;decide), ?_⟩
 refine⟨_,rfl,x,CM,dx,_,rfl,upd_same,RM.cl,RM.n6,(by show 5<1000;decide), ?_⟩
 refine⟨_,rfl,x,CM,dx,_,rfl,upd_same,RM.cl,RM.n7,(by show 6<1000;decide), ?_⟩
 have k8:∀b ob,H7 b=some ob->b≠x->upd (upd (upd H7 x (.ins CM dx [("blocks",.ref nb),("most",.int (most:Nat)),("store",.ref o2),("standing",.ref sl),("outcome",.non)])) x (.ins CM dx [("blocks",.ref nb),("most",.int (most:Nat)),("store",.ref o2),("standing",.ref sl),("outcome",.non),("rows_so_far",.int 0)])) x (.ins CM dx (J3 ⟨x,dx,nb,o2,L2,sl⟩ (most:Nat) .non 0 0)) b=some ob:=λb ob e n=>by rw[B8 n,B8 n,B8 n];exact e
 have h47:∀b ob,H4 b=some ob->b≠x->H7 b=some ob:=λb ob e n=>k7 _ _ (t6 _ _ (s5 _ _ e)) n
 have moA:Mo H (upd (upd (upd H7 x (.ins CM dx [("blocks",.ref nb),("most",.int (most:Nat)),("store",.ref o2),("standing",.ref sl),("outcome",.non)])) x (.ins CM dx [("blocks",.ref nb),("most",.int (most:Nat)),("store",.ref o2),("standing",.ref sl),("outcome",.non),("rows_so_far",.int 0)])) x (.ins CM dx (J3 ⟨x,dx,nb,o2,L2,sl⟩ (most:Nat) .non 0 0))):=λb zs e=>k8 _ _ (h47 _ _ (mo _ _ e) (nbx e λc d f z=>nomatch z)) (nbx e λc d f z=>nomatch z)
 have hxT:∀ {b:Addr} {zs:List V},H5 b=some (.tup zs)->b≠x:=λ{b zs} e z=>by rw[z,s5 _ _ hx4]at e;cases e
 have mo5:Mo H5 (upd (upd (upd H7 x (.ins CM dx [("blocks",.ref nb),("most",.int (most:Nat)),("store",.ref o2),("standing",.ref sl),("outcome",.non)])) x (.ins CM dx [("blocks",.ref nb),("most",.int (most:Nat)),("store",.ref o2),("standing",.ref sl),("outcome",.non),("rows_so_far",.int 0)])) x (.ins CM dx (J3 ⟨x,dx,nb,o2,L2,sl⟩ (most:Nat) .non 0 0))):=λb zs e=>k8 _ _ (k7 _ _ (t6 _ _ e) (hxT e)) (hxT e)
 have fr:∀ {y:Addr},H2 y=none->H y=none:=λ{y} e=>by
  cases e':H y with
  |none=>rfl
  |some ob=>
   by_cases z:y=x
   ·rw[z,hx2]at e;cases e
   ·rw[k2 _ _ (k1 _ _ e' z) z]at e;cases e
 have hsl0:H sl=none:=by
  cases e':H sl with
  |none=>rfl
  |some ob=>rw[s5 _ _ (kk _ _ e' nsx)]at hsl;cases hsl
 have hnb4:H4 nb=some (.lst vb):=k4 _ _ (s3 _ _ (k2 _ _ hnb1 nx1)) nx1
 have hL4:H4 L2=some (.lst []):=k4 _ _ hLL nLx
 refine q ⟨x,dx,nb,o2,L2,sl⟩ _ rfl (λb ob e n=>k8 _ _ (h47 _ _ (kk _ _ e n) n) n) (λy hy=> ?_) ⟨vb,[],[.ref p],.non,⟨upd_same,k8 _ _ (h47 _ _ hnb4 nx1) nx1,⟨dxo,k8 _ _ (h47 _ _ (k4 _ _ hoo n2x) n2x) n2x,k8 _ _ (h47 _ _ hL4 nLx) nLx⟩,k8 _ _ hsl7 nsx, ?_, ?_, ?_⟩,hB.imp λ_ _ z=>BAt.mo moA z,.nil,.cons ⟨p,_,[],rfl,FrAt.mo' mo5 hF5, ?_,.nil⟩ .nil,rfl⟩
 ·simp only[Ad.own,mem_cons,not_mem_nil,or_false]at hy
  rcases hy with z|z|z|z|z
  ·exact .inl z
  ·exact .inr (by rw[z];exact hnb)
  ·exact .inr (by rw[z];exact fr ho2)
  ·exact .inr (by rw[z];exact fr hL20)
  ·exact .inr (by rw[z];exact hsl0)
 ·exact λ(e:L2=sl)=>by rw[<-e,s5 _ _ hL4]at hsl;cases hsl
 ·exact λ(e:nb=sl)=>by rw[<-e,s5 _ _ hnb4]at hsl;cases hsl
 ·exact λ(e:nb=L2)=>by
   have:H2 nb=some (.lst vb):=k2 _ _ hnb1 nx1
   rw[e,hL20]at this;cases this
 ·show All2 _ (ws++List.replicate (bk.sz - ws.length) (.sc .non)) _
  rw[lws]
  exact(hW.imp λ_ _ z=>VAt.mo moA z).app (BQ _)
end
noncomputable abbrev s_ended:Stmt:=CL.top 38
noncomputable abbrev s_run:Stmt:=CL.top 37
abbrev QG:List Str:=["blocks","main","numbers","most","rounds","machine","asked"]
theorem sc_ended:FnScope QG SX (B0 s_ended):=fS
abbrev c9Z:List Str:=["blocks","main","numbers","most","rounds"]
theorem sc_run:FnScope c9Z SX (B0 s_run):=fS
structure NoD (mg:Str->Option Value):Prop extends NoG mg where
 dict_:mg "dict"=none
structure Rn (bs:List Bk) (most:Nat) (I:Ms->Prop) (mu:Ms->Nat):Prop where
 go:∀S,I S->S.out=none->Small S/\Tidy S/\(∀ks,Kept S.cs (N9 S.out S.frs) ks->I (swS ks S)/\mu (swS ks S)<=mu S)/\∃S',bKZ bs most S S'/\I S'/\mu S'<mu S
 val:∀S x,I S->S.out=some (.value x)->∃t,VRa S.cs t x/\PL.size t<=400000
abbrev Tb(H:Hp)(Pt:Addr):Prop:=FH H Pt PL.lamAt PL.lamQ
section
variable{CM C Pt:Addr}
theorem MR.ntbl{H:Hp}{A:Ad}{bs us fs:List V}{most r c:Int}{out:V}(h:MR CM C H A bs us fs most out r c){b:Addr}{ob:HO}(e:H b=some ob)(n1:∀x y z,ob≠ .ins x y z)(n2:∀x,ob≠ .lst x):b∉A.own:=λhm=>by
 obtain⟨dx,ho,hL⟩:=h.o
 simp only[Ad.own,mem_cons,not_mem_nil,or_false]at hm
 rcases hm with z|z|z|z|z<;>rw[z]at e
 ·rw[h.m]at e;exact n1 _ _ _ (Option.some.inj e).symm
 ·rw[h.bl]at e;exact n2 _ (Option.some.inj e).symm
 ·rw[ho]at e;exact n1 _ _ _ (Option.some.inj e).symm
 ·rw[hL]at e;exact n2 _ (Option.some.inj e).symm
 ·rw[h.s]at e;exact n2 _ (Option.some.inj e).symm
theorem MAt.tab{H H':Hp}{A:Ad}{bs:List Bk}{most:Nat}{S:Ms}(h:MAt CM C H A bs most S)(k:Kq A H H')(hT:Tb H Pt):Tb H' Pt:=by
 obtain⟨vb,us,fs,out,hM,_⟩:=h.ex
 obtain⟨qs,e1,e2,e3⟩:=hT
 refine⟨qs,k _ _ e1 (hM.ntbl e1 (λ_ _ _ z=>nomatch z) λ_ z=>nomatch z),e2, ?_⟩
 rcases e3 with e3|⟨c2,e3,e4⟩
 ·exact .inl e3
 ·exact .inr ⟨c2,e3,k _ _ e4 (hM.ntbl e4 (λ_ _ _ z=>nomatch z) λ_ z=>nomatch z)⟩
theorem MAt.ptn{H:Hp}{A:Ad}{bs:List Bk}{most:Nat}{S:Ms}(h:MAt CM C H A bs most S)(hT:Tb H Pt):Pt∉A.own:=by
 obtain⟨vb,us,fs,out,hM,_⟩:=h.ex
 obtain⟨qs,e1,_⟩:=hT
 exact hM.ntbl e1 (λ_ _ _ z=>nomatch z) λ_ z=>nomatch z
theorem MAt.pt{H H':Hp}{A:Ad}{bs:List Bk}{most:Nat}{S:Ms}(h:MAt CM C H A bs most S)(hT:Tb H Pt)(k:∀b ob,H b=some ob->b≠Pt->H' b=some ob):MAt CM C H' A bs most S:=by
 have hp:=h.ptn hT
 obtain⟨vb,us,fs,out,hM,hB,hC,hF,hO⟩:=h.ex
 obtain⟨qs,e1,_⟩:=hT
 have m:Mo H H':=λb xs e=>k _ _ e λz=>by rw[z,e1]at e;cases e
 have kk:∀ {b:Addr} {ob:HO},b∈A.own->H b=some ob->H' b=some ob:=λ{b ob} hb e=>k _ _ e λz=>hp (z▸hb)
 obtain⟨dx,ho,hL⟩:=hM.o
 exact⟨vb,us,fs,out,⟨kk (BF A) hM.m,kk (by simp[Ad.own]) hM.bl,⟨dx,kk (by simp[Ad.own]) ho,kk (bkZ A) hL⟩,kk (DR A) hM.s,hM.nLs,hM.nbs,hM.nbL⟩,hB.imp λ_ _ z=>BAt.mo m z,hC.imp λ_ _ z=>ClAt.mo m z,hF.imp λ_ _ z=>FAt.mo m z,hO.mo m⟩
theorem MZ{H:Hp}(v:V):∀(ss:List Int) (ys:List V),All2 (λ(i:Int) y=>∃p:Addr,y=.ref p/\H p=some (.tup [.int i,v])) ss ys->PrV H ys (ss.map λi=>((.inl i:Key),v))
 | [],_,h=>by cases h;rfl
 |i::ss,_,h=>by
  cases h with
  |cons h1 h2=>
   obtain⟨p,e,hp⟩:=h1
   exact⟨p,.inl i,v,_,e,hp,rfl,MZ v ss _ h2⟩
variable{P:Program}{w:World}{K:FZ}{mg:Str->Option Value}{base:Heap}{gf mf:Str->Addr}{gd md:Str->FuncData}{f fim ZO:Addr}{fd dim ZN:FuncData}
def QJ(CM C Pt:Addr):Sp:=λvs H Q _=>∃(bl num rd:Addr) (vb xs:List V) (main most:Nat) (bs:List Bk) (bk:Bk) (ws:List Vl) (rs:List Int) (I:Ms->Prop) (mu:Ms->Nat),vs=[.ref bl,.int (main:Nat),.ref num,.int (most:Nat),.ref rd]/\H bl=some (.lst vb)/\All2 (BAt H) bs vb/\bs[main]? =some bk/\H num=some (.lst xs)/\All2 (VAt H) ws xs/\ws.length<=bk.sz/\H rd=some (.lst (rs.map V.int))/\rs.length<=1000/\Tb H Pt/\Rn bs most I mu/\I ⟨[],[begun main bk.sz ws],none,0,0⟩/\
 ∀A S H',(∀b ob,H b=some ob->b≠Pt->H' b=some ob)->Tb H' Pt->(∀y∈A.own,H y=none)->MAt CM C H' A bs most S->I S->S.out≠none->Q (.ref A.m) H'
theorem ok_ended(F:Fun K "ended" "ended" s_ended f fd)(B:NoD mg)(RM:MCls K CM gf gd)(M_Machine:Mk K CM fim)(m_Machine:mg "Machine"=some (.ref CM))
  (GMachine___init__:FnOk P w K mg base CX0 3 fim dim SZ (JY CM C))(bMachine___init__:Binds K dim SZ [])
  (Q1:FnOk P w K mg base CX0 6 (gf "answer") (gd "answer") G4 (X1 CM C Pt))
  (W1:FnOk P w K mg base CX0 1 (gf "rows_done") (gd "rows_done") G4 (GU CM C true))
  (CK:FnOk P w K mg base CX0 5 (gf "collect") (gd "collect") G4 (DA CM C))
  (JG:FnOk P w K mg base CX0 5 (gf "step") (gd "step") G4 (PX CM C)):
  FnOk P w K mg base CX0 7 f fd SX (QJ CM C Pt):=by
 refine F.ok sc_ended (λvs H Q E h=> ?_) (λcdv A outer s H vs Q E hr h=> ?_)
 ·obtain⟨bl,num,rd,vb,xs,main,most,bs,bk,ws,rs,I,mu,rfl,_⟩:=h
  rfl
 obtain⟨bl,num,rd,vb,xs,main,most,bs,bk,ws,rs,I,mu,rfl,hbl,hB,hbk,hnum,hW,hwz,hrd,hrl,hT,hR,hI,q⟩:=h
 have nd:=sc_ended.nd
 have hu:=hr.units0
 have zz:(4000:Nat)<=sizeLine:=by decide
 refine⟨_,(A8 (C4 (i:=5) nd rfl (Or.inl rfl) (RF M_Machine GMachine___init__ (hr.mono (by omega)) rfl m_Machine bMachine___init__ .nil C2 (A0 (pv 0) (A0 (pv 1) (A0 (pv 2) (A0 (pv 3) A6))))))
   (A8 (C4 (i:=6) nd rfl (Or.inl rfl) (G3 (afZ (K:=K) rfl) rfl B.dict_ aPZ (A0 (KM (cS (N:=QG) (sc:=B0 s_ended) (caps:=[]) (ns:=[])) rfl rfl rfl (Z2 (K:=K) (pv 4)) (λ_ _ _ _ _=>Z0) (λ_ _ _ _ _=>(B4 (A0 (pv 0) (A0 V5 A6))))) A6)))
   (A8 (G5 (BG PassesOwn.never (C7 KS (G0 (pv 5) RM.cl RM.m_answer Q1 (hr.mono (by omega)) RM.b_answer .nil C2) S0 rfl) (A8 (G5 (D8 (C7 (dzZ hr.units) (G0 (pv 5) RM.cl RM.m_rows_done W1 (hr.mono (by omega)) RM.b_rows_done .nil C2) (pv 6) rfl) (A9 (G2 (G0 (pv 5) RM.cl RM.m_collect CK (hr.mono (by omega)) RM.b_collect .nil C2))) C9))
   (A9 (G2 (G0 (pv 5) RM.cl RM.m_step JG (hr.mono (by omega)) RM.b_step .nil C2))))))
   (A9 (C0 (pv 5)))))), ?_⟩
 refine⟨_,rfl,_,rfl,_,rfl,_,rfl,λx dx hx hdx hn=> ?_⟩
 have t0:Same H (upd (upd H dx (.own x)) x (.ins CM dx [])):=λb ob e=>by rw[B8 (C6 e hx),B8 (C6 e hdx)];exact e
 have mo0:Mo H (upd (upd H dx (.own x)) x (.ins CM dx [])):=B5 t0
 refine⟨x,dx,bl,num,vb,xs,main,most,bs,bk,ws,rfl,upd_same,t0 _ _ hbl,hB.imp λ_ _ z=>BAt.mo mo0 z,hbk,t0 _ _ hnum,hW.imp λ_ _ z=>VAt.mo mo0 z,hwz,λA1 H1 eA k1 nw hA1=>⟨rfl, ?_⟩⟩
 have kH1:Same H H1:=λb ob e=>k1 _ _ (t0 _ _ e) (C6 e hx)
 have own1:∀y∈A1.own,H y=none:=λy hy=>by
  rcases nw y hy with z|z
  ·rw[z];exact hx
  ·exact t0.free z
 subst eA
 show Q3 _ _ _ [some (.ref bl),some (.int (main:Nat)),some (.ref num),some (.int (most:Nat)),some (.ref rd),some (.ref A1.m),none] H1
 clear k1 nw hdx hn t0 mo0
 refine⟨_,rfl,rd,rfl,⟨_,SqL.of (kH1 _ _ hrd)⟩,CV (xs:=rs.map V.int) (λi zs H'=>Same H1 H'/\zs.length=i/\All2 (λ(i:Int) y=>∃p:Addr,y=.ref p/\H' p=some (.tup [.int i,.bl true])) (rs.take i) zs) ⟨Same.refl _,rfl,.nil⟩ ?_ ?_ ?_⟩
 ·rintro i zs H' hi ⟨sm,hz,_⟩
  rw[length_map]at hi
  exact⟨SqL.of (sm _ _ (kH1 _ _ hrd)),by omega⟩
 ·rintro i v zs H' hv ⟨sm,hz,hZ⟩
  rw[getElem?_map]at hv
  obtain⟨n,hn,rfl⟩:=map_eq_some_iff.mp hv
  refine CZ ⟨_,rfl,(by show 2<=sizeLine;omega),λp hp=> ?_⟩
  have t1:=A5 hp (.tup [.int n,.bl true])
  refine⟨sm.trans t1,by rw[length_append,hz];rfl, ?_⟩
  rw[take_succ,hn]
  exact(hZ.imp λ_ _ ⟨p,e,h⟩=>⟨p,e,t1 _ _ h⟩).app (.cons ⟨p,rfl,upd_same⟩ .nil)
 rintro zs H2 ⟨sm2,hz,hZ⟩ D hD
 rw[length_map,take_length]at hZ
 have t2:=A5 hD (.lst zs)
 refine⟨D,zs,_,rfl,SqL.of upd_same,MZ (.bl true) rs zs (hZ.imp λ_ _ ⟨p,e,h⟩=>⟨p,e,t2 _ _ h⟩),λd hd=> ?_⟩
 generalize DI [] (rs.map λi=>((.inl i:Key),V.bl true))=kvs
 have t3:=sm2.trans (t2.trans (A5 hd (.dK kvs)))
 have hd3:upd (upd H2 D (.lst zs)) d (.dK kvs) d=some (.dK kvs):=upd_same
 show Q3 _ _ _ [some (.ref bl),some (.int (main:Nat)),some (.ref num),some (.int (most:Nat)),some (.ref rd),some (.ref A1.m),some (.ref d)] (upd (upd H2 D (.lst zs)) d (.dK kvs))
 generalize upd (upd H2 D (.lst zs)) d (.dK kvs)=H3 at t3 hd3⊢
 have hA3:=hA1.same t3
 have kH3:Same H H3:=kH1.trans t3
 have hT3:Tb H3 Pt:=by
  obtain⟨qs,e1,e2,e3⟩:=hT
  refine⟨qs,kH3 _ _ e1,e2, ?_⟩
  rcases e3 with e3|⟨c2,e3,e4⟩
  ·exact .inl e3
  ·exact .inr ⟨c2,e3,kH3 _ _ e4⟩
 refine⟨fun σ H'=>∃A2 S,σ=[some (.ref bl),some (.int (main:Nat)),some (.ref num),some (.int (most:Nat)),some (.ref rd),some (.ref A2.m),some (.ref d)]/\(∀b ob,H b=some ob->b≠Pt->H' b=some ob)/\Tb H' Pt/\(∀y∈A2.own,H y=none)/\MAt CM C H' A2 bs most S/\I S/\S.out≠none, ?_, ?_⟩
 ·refine⟨λm σ H'=>∃A2 S,σ=[some (.ref bl),some (.int (main:Nat)),some (.ref num),some (.int (most:Nat)),some (.ref rd),some (.ref A2.m),some (.ref d)]/\(∀b ob,H b=some ob->b≠Pt->H' b=some ob)/\Tb H' Pt/\(∀y∈A2.own,H y=none)/\MAt CM C H' A2 bs most S/\I S/\H' d=some (.dK kvs)/\m=mu S,⟨_,A1,_,rfl,λb ob e _=>kH3 _ _ e,hT3,own1,hA3,hI,hd3,rfl⟩, ?_⟩
  rintro m σ H4 ⟨A2,S,rfl,k4,hT4,own4,hA4,hI4,hd4,rfl⟩
  obtain⟨vb2,us2,fs2,out2,hM2,_⟩:=id hA4.ex
  refine⟨_,rfl,A2.m,A2.dx,_,rfl,hM2.m,rfl,A2,bs,most,S,rfl,hA4, ?_⟩
  cases ho:S.out with
  |some o=>
   have hne:S.out≠none:=by rw[ho];intro z;cases z
   by_cases hv:V3 S.out=true
   ·obtain⟨x,hx⟩:∃x,S.out=some (.value x):=by
     rw[ho]at hv⊢
     cases o<;>first|exact⟨_,rfl⟩|cases hv
    obtain⟨t,ht,hsz⟩:=hR.val S x hI4 hx
    rw[ho]at hx
    refine .inl ⟨x,t,hx,ht,hsz,hT4,λp r H5 H6 k5 hT5 _ hp5 e6=> ?_⟩
    subst e6
    have t6:=A5 hp5 (.tup [.str "value",r])
    refine⟨rfl,_,rfl,ifF (by simp) ?_⟩
    refine⟨A2,S,rfl,λb ob e n=>t6 _ _ (k5 _ _ (k4 _ _ e n) n), ?_,own4,(hA4.pt hT4 k5).same t6,hI4,hne⟩
    obtain⟨qs,e1,e2,e3⟩:=hT5
    refine⟨qs,t6 _ _ e1,e2, ?_⟩
    rcases e3 with e3|⟨c2,e3,e4⟩
    ·exact .inl e3
    ·exact .inr ⟨c2,e3,t6 _ _ e4⟩
   ·rw[ho]at hv
    refine .inr ⟨Bool.eq_false_iff.mpr hv,λu hu=> ?_⟩
    obtain⟨p,rfl⟩:∃p,u=.ref p:=by
     cases o with
     |value x=>exact absurd rfl hv
     |refused w=>obtain⟨p,e,_⟩:=hu;exact⟨p,e⟩
     |dry=>obtain⟨p,e,_⟩:=hu;exact⟨p,e⟩
     |deep=>obtain⟨p,e,_⟩:=hu;exact⟨p,e⟩
    exact⟨rfl,_,rfl,ifF (by simp) ⟨A2,S,rfl,k4,hT4,own4,hA4,hI4,hne⟩⟩
  |none=>
  refine .inr ⟨rfl,λu hu=> ?_⟩
  obtain rfl:=hu
  refine⟨rfl,_,rfl,ifT (by simp) ?_⟩
  obtain⟨hSm,hTi,hCo,_⟩:=hR.go S hI4 ho
  refine⟨fun σ H5=>∃m',m'<mu S/\∃A2 S,σ=[some (.ref bl),some (.int (main:Nat)),some (.ref num),some (.int (most:Nat)),some (.ref rd),some (.ref A2.m),some (.ref d)]/\(∀b ob,H b=some ob->b≠Pt->H5 b=some ob)/\Tb H5 Pt/\(∀y∈A2.own,H y=none)/\MAt CM C H5 A2 bs most S/\I S/\H5 d=some (.dK kvs)/\m'=mu S,λ_ _ h=>h, ?_⟩
  have dno:∀ {A':Ad} {H':Hp} {S':Ms},MAt CM C H' A' bs most S'->H' d=some (.dK kvs)->d∉A'.own:=λ{A' H' S'} h e=>by
   obtain⟨_,_,_,_,hM',_⟩:=h.ex
   exact hM'.ntbl e (λ_ _ _ z=>nomatch z) λ_ z=>nomatch z
  have kH:∀ {A':Ad} {H' H'':Hp},(∀y∈A'.own,H y=none)->(∀b ob,H b=some ob->b≠Pt->H' b=some ob)->Kq A' H' H''->∀b ob,H b=some ob->b≠Pt->H'' b=some ob:=λ{A' H' H''} o1 k kk b ob e n=>kk _ _ (k _ _ e n) λz=>by rw[o1 b z]at e;cases e
  have nwH:∀ {A' A'':Ad} {H':Hp},(∀y∈A'.own,H y=none)->(∀b ob,H b=some ob->b≠Pt->H' b=some ob)->Tb H' Pt->New A' A'' H'->∀y∈A''.own,H y=none:=λ{A' A'' H'} o1 k hT' nw y hy=>by
   rcases nw.2 y hy with z|z
   ·exact o1 y z
   ·cases e:H y with
    |none=>rfl
    |some ob=>
     by_cases n:y=Pt
     ·obtain⟨qs,e1,_⟩:=hT'
      rw[n,e1]at z;cases z
     ·rw[k _ _ e n]at z;cases z
  refine⟨fun σ H5=>∃A2 S3,σ=[some (.ref bl),some (.int (main:Nat)),some (.ref num),some (.int (most:Nat)),some (.ref rd),some (.ref A2.m),some (.ref d)]/\(∀b ob,H b=some ob->b≠Pt->H5 b=some ob)/\Tb H5 Pt/\(∀y∈A2.own,H y=none)/\MAt CM C H5 A2 bs most S3/\I S3/\H5 d=some (.dK kvs)/\S3.out=none/\mu S3<=mu S, ?_, ?_⟩
  ·refine⟨_,rfl,A2.m,A2.dx,_,rfl,hM2.m,rfl,A2,_,out2,_,_,rfl,hM2.m,_,rfl,d,_,rfl,DGet.k (k:=.inl (S.r:Nat)) hd4,_,rfl,HB (λ_=> ?_) (λ_=>⟨A2,S,rfl,k4,hT4,own4,hA4,hI4,hd4,ho,Nat.le_refl _⟩)⟩
   refine⟨_,rfl,A2.m,A2.dx,_,rfl,hM2.m,rfl,A2,bs,most,S,rfl,hA4,hSm.frs,hTi,λn A3 ks H5 nw k5 hK hA5=> ?_⟩
   obtain⟨hI5,hmu⟩:=hCo ks hK
   refine⟨A3,swS ks S,by rw[nw.1],kH own4 k4 k5,hA4.tab k5 hT4,nwH own4 k4 hT4 nw,hA5,hI5,k5 _ _ hd4 (dno hA4 hd4), ?_,hmu⟩
   show S.out.map _=none
   rw[ho];rfl
  ·rintro σ H5 ⟨A3,S3,rfl,k5,hT5,own5,hA5,hI5,hd5,ho5,hmu⟩
   obtain⟨hSm3,_,_,S4,hSt,hI6,hlt⟩:=hR.go S3 hI5 ho5
   obtain⟨vb3,us3,fs3,out3,hM3,_⟩:=id hA5.ex
   refine⟨_,rfl,A3.m,A3.dx,_,rfl,hM3.m,rfl,A3,bs,most,S3,rfl,hA5,hSm3,.inr ⟨S4,hSt,λA4 H6 nw k6 hA6=> ?_⟩⟩
   exact⟨_,lt_of_lt_of_le hlt hmu,A4,S4,by rw[nw.1],kH own5 k5 k6,hA5.tab k6 hT5,nwH own5 k5 hT5 nw,hA6,hI6,k6 _ _ hd5 (dno hA5 hd5),rfl⟩
 ·rintro σ H4 ⟨A2,S,rfl,k4,hT4,own4,hA4,hI4,ho⟩
  exact⟨_,rfl,q A2 S H4 k4 hT4 own4 hA4 hI4 ho⟩
def a4Z(CM C Pt:Addr):Sp:=λvs H Q _=>∃(bl num rd:Addr) (vb xs:List V) (main most:Nat) (bs:List Bk) (bk:Bk) (ws:List Vl) (rs:List Int) (I:Ms->Prop) (mu:Ms->Nat),vs=[.ref bl,.int (main:Nat),.ref num,.int (most:Nat),.ref rd]/\H bl=some (.lst vb)/\All2 (BAt H) bs vb/\bs[main]? =some bk/\H num=some (.lst xs)/\All2 (VAt H) ws xs/\ws.length<=bk.sz/\H rd=some (.lst (rs.map V.int))/\rs.length<=1000/\Tb H Pt/\Rn bs most I mu/\I ⟨[],[begun main bk.sz ws],none,0,0⟩/\
 ∀S u H',(∀b ob,H b=some ob->b≠Pt->H' b=some ob)->Tb H' Pt->I S->S.out≠none->((∃x t p r,S.out=some (.value x)/\VRa S.cs t x/\u=.ref p/\H' p=some (.tup [.str "value",r])/\(PL.R (λa=>H a=none) H' t).1 r)\/(V3 S.out=false/\OAt H' S.out u))->Q u H'
theorem ok_run(F:Fun K "run" "run" s_run f fd)(RM:MCls K CM gf gd)
  (Q1:FnOk P w K mg base CX0 6 (gf "answer") (gd "answer") G4 (X1 CM C Pt))
  (JC:Cn P w K mg base CX0 7 "ended" SX (QJ CM C Pt)):
  FnOk P w K mg base CX0 8 f fd SX (a4Z CM C Pt):=by
 obtain⟨ZO,ZN,JC,ZM,ZF,YX⟩:=JC
 refine F.ok sc_run (λvs H Q E h=> ?_) (λcdv A outer s H vs Q E hr h=> ?_)
 ·obtain⟨bl,num,rd,vb,xs,main,most,bs,bk,ws,rs,I,mu,rfl,_⟩:=h
  rfl
 obtain⟨bl,num,rd,vb,xs,main,most,bs,bk,ws,rs,I,mu,rfl,hbl,hB,hbk,hnum,hW,hwz,hrd,hrl,hT,hR,hI,q⟩:=h
 have nd:=sc_run.nd
 have hu:=hr.units0
 refine⟨_,(A9 (C0 (G0 (B9 JC (hr.mono (by omega)) rfl YX ZF ZM .nil C2 (A0 (pv 0) (A0 (pv 1) (A0 (pv 2) (A0 (pv 3) (A0 (pv 4) A6)))))) RM.cl RM.m_answer Q1 (hr.mono (by omega)) RM.b_answer .nil C2))), ?_⟩
 refine⟨_,rfl,_,rfl,_,rfl,_,rfl,_,rfl,bl,num,rd,vb,xs,main,most,bs,bk,ws,rs,I,mu,rfl,hbl,hB,hbk,hnum,hW,hwz,hrd,hrl,hT,hR,hI,λA1 S H1 k1 hT1 own1 hA1 hI1 hne=> ?_⟩
 obtain⟨vb2,us2,fs2,out2,hM2,_⟩:=id hA1.ex
 refine⟨A1.m,A1.dx,_,rfl,hM2.m,rfl,A1,bs,most,S,rfl,hA1, ?_⟩
 by_cases hv:V3 S.out=true
 ·obtain⟨x,hx⟩:∃x,S.out=some (.value x):=by
   cases ho:S.out with
   |none=>rw[ho]at hv;cases hv
   |some o=>rw[ho]at hv;cases o<;>first|exact⟨_,rfl⟩|cases hv
  obtain⟨t,ht,hsz⟩:=hR.val S x hI1 hx
  refine .inl ⟨x,t,hx,ht,hsz,hT1,λp r H5 H6 k5 hT5 hRr hp5 e6=> ?_⟩
  subst e6
  have t6:=A5 hp5 (.tup [.str "value",r])
  refine q S _ _ (λb ob e n=>t6 _ _ (k5 _ _ (k1 _ _ e n) n)) ?_ hI1 hne (.inl ⟨x,t,p,r,hx,ht,rfl,upd_same, ?_⟩)
  ·obtain⟨qs,e1,e2,e3⟩:=hT5
   refine⟨qs,t6 _ _ e1,e2, ?_⟩
   rcases e3 with e3|⟨c2,e3,e4⟩
   ·exact .inl e3
   ·exact .inr ⟨c2,e3,t6 _ _ e4⟩
  ·refine(PL.R.mono λa zs ha e=>⟨t6 _ _ e, ?_⟩).1 hRr
   cases e':H a with
   |none=>rfl
   |some ob=>
    by_cases n:a=Pt
    ·obtain⟨qs,e1,_⟩:=hT1
     rw[n,e1]at ha;cases ha
    ·rw[k1 _ _ e' n]at ha;cases ha
 ·exact .inr ⟨Bool.eq_false_iff.mpr hv,λu hu=>q S u H1 k1 hT1 hI1 hne (.inr ⟨Bool.eq_false_iff.mpr hv,hu⟩)⟩
end
end MC
namespace MT
open PySem L2 CL SW MC
open BV hiding ifT ifF NoG top
inductive Tv where
 |sc (v:V)|pair (h t:Tv)|fn (b:Nat) (xs:Tv)|nil|cons (x xs:Tv)
noncomputable def Tv.nodes:Tv->Nat
 | .sc _=>0
 | .pair h t=>h.nodes+t.nodes+1
 | .fn _ xs=>xs.nodes+1
 | .nil=>0
 | .cons x xs=>x.nodes+xs.nodes
noncomputable def tl:List Tv->Tv
 | []=> .nil
 |x::xs=> .cons x (tl xs)
noncomputable def VT(cs:List Cl):Tv->(Vl->Prop)×(List Vl->Prop)
 | .sc v=>(λx=>x=.sc v,λ_=>False)
 | .pair h t=>(λx=>∃k a b,x=.cell k/\cs[k]? =some (.pair a b)/\(VT cs h).1 a/\(VT cs t).1 b,λ_=>False)
 | .fn b xs=>(λx=>∃k vs,x=.cell k/\cs[k]? =some (.fn (b:Nat) vs)/\(VT cs xs).2 vs,λ_=>False)
 | .nil=>(λ_=>False,λvs=>vs=[])
 | .cons x r=>(λ_=>False,λvs=>∃v w,vs=v::w/\(VT cs x).1 v/\(VT cs r).2 w)
abbrev V1(cs:List Cl)(t:Tv)(x:Vl):Prop:=(VT cs t).1 x
theorem bnZ{cs:List Cl}:∀ {ts:List Tv} {vs:List Vl},All2 (V1 cs) ts vs->(VT cs (tl ts)).2 vs
 | [],_,h=>by cases h;rfl
 |_::_,_,h=>by cases h with|cons h1 h2=>exact⟨_,_,rfl,h1,bnZ h2⟩
theorem a3Z{cs:List Cl}:∀ {ts:List Tv} {vs:List Vl},(VT cs (tl ts)).2 vs->All2 (V1 cs) ts vs
 | [],_,h=>by cases h;exact .nil
 |_::_,_,⟨_,_,e,h1,h2⟩=>by subst e;exact .cons h1 (a3Z h2)
theorem VT.more{cs cs':List Cl}(m:∀(k:Nat) c,cs[k]? =some c->cs'[k]? =some c):∀t:Tv,(∀ {x:Vl},(VT cs t).1 x->(VT cs' t).1 x)/\∀ {vs:List Vl},(VT cs t).2 vs->(VT cs' t).2 vs
 | .sc _=>⟨λh=>h,λh=>h⟩
 | .pair h t=>⟨λ⟨k,a,b,e,hk,h1,h2⟩=>⟨k,a,b,e,m _ _ hk,(VT.more m h).1 h1,(VT.more m t).1 h2⟩,λh=>h⟩
 | .fn b xs=>⟨λ⟨k,vs,e,hk,h1⟩=>⟨k,vs,e,m _ _ hk,(VT.more m xs).2 h1⟩,λh=>h⟩
 | .nil=>⟨λh=>h,λh=>h⟩
 | .cons x xs=>⟨λh=>h,λ⟨v,w,e,h1,h2⟩=>⟨v,w,e,(VT.more m x).1 h1,(VT.more m xs).2 h2⟩⟩
theorem V1.app{cs:List Cl}{t:Tv}{x:Vl}(c:Cl)(h:V1 cs t x):V1 (cs++ [c]) t x:=
 (VT.more (λk d e=>by rw[getElem?_append_left (List.getElem?_eq_some_iff.mp e).1];exact e) t).1 h
theorem V1.lt{cs:List Cl}{t:Tv}{k:Nat}(h:V1 cs t (.cell k)):k<cs.length:=by
 cases t with
 |sc v=>cases h
 |pair a b=>obtain⟨j,_,_,e,hj,_⟩:=h;cases e;exact(List.getElem?_eq_some_iff.mp hj).1
 |fn b xs=>obtain⟨j,_,e,hj,_⟩:=h;cases e;exact(List.getElem?_eq_some_iff.mp hj).1
 |nil=>cases h
 |cons a b=>cases h
theorem bjZ{cs:List Cl}{ws:List Vl}{ks:List Nat}(hK:Kept cs ws ks){k:Nat}{c:Cl}(hr:Rc cs ws k)(hc:cs[k]? =some c):(ks.map λk=>mvc ks (M9 cs k))[ks.idxOf k]? =some (mvc ks c):=by
 have hm:=(hK.is k).mpr hr
 have hlt:ks.idxOf k<ks.length:=List.idxOf_lt_length_of_mem hm
 rw[getElem?_map,List.getElem?_eq_getElem hlt,List.getElem_idxOf hlt,map_some,DE hc]
theorem VT.sw{cs:List Cl}{ws:List Vl}{ks:List Nat}(hK:Kept cs ws ks):∀t:Tv,(∀ {x:Vl},(VT cs t).1 x->(∀k,x=.cell k->Rc cs ws k)->(VT (ks.map λk=>mvc ks (M9 cs k)) t).1 (mv ks x))/\∀ {vs:List Vl},(VT cs t).2 vs->(∀k,Vl.cell k∈vs->Rc cs ws k)->(VT (ks.map λk=>mvc ks (M9 cs k)) t).2 (vs.map (mv ks))
 | .sc _=>⟨λh _=>by cases h;rfl,λh=>h.elim⟩
 | .pair h t=>⟨λ⟨k,a,b,e,hk,h1,h2⟩ hr=>by
   subst e
   have hrk:=hr k rfl
   refine⟨ks.idxOf k,mv ks a,mv ks b,rfl,bjZ hK hrk hk,(VT.sw hK h).1 h1 λj e=> ?_,(VT.sw hK t).1 h2 λj e=> ?_⟩
   ·exact .step hrk hk (by rw[<-e];simp[vin])
   ·exact .step hrk hk (by rw[<-e];simp[vin]),λh=>h.elim⟩
 | .fn b xs=>⟨λ⟨k,vs,e,hk,h1⟩ hr=>by
   subst e
   have hrk:=hr k rfl
   exact⟨ks.idxOf k,vs.map (mv ks),rfl,bjZ hK hrk hk,(VT.sw hK xs).2 h1 λj e=> .step hrk hk e⟩,λh=>h.elim⟩
 | .nil=>⟨λh=>h.elim,λh _=>by cases h;rfl⟩
 | .cons x xs=>⟨λh=>h.elim,λ⟨v,w,e,h1,h2⟩ hr=>by
   subst e
   exact⟨mv ks v,w.map (mv ks),rfl,(VT.sw hK x).1 h1 λj e=>hr j (by rw[<-e];exact mem_cons_self ..),(VT.sw hK xs).2 h2 λj e=>hr j (mem_cons_of_mem _ e)⟩⟩
theorem RO{cs:List Cl}{k:Nat}{c:Cl}(hc:cs[k]? =some c){j:Nat}(r:Rc cs [.cell k] j):j=k\/Rc cs (vin c) j:=by
 induction r with
 |root h=>rw[mem_singleton]at h;cases h;exact .inl rfl
 |step _ h1 h2 ih=>
  rcases ih with e|ih
  ·subst e
   rw[hc]at h1;cases h1
   exact .inr (.root h2)
  ·exact .inr (.step ih h1 h2)
theorem PP{cs:List Cl}{us vs:List Vl}{j:Nat}(r:Rc cs (us++vs) j):Rc cs us j\/Rc cs vs j:=by
 induction r with
 |root h=>
  rcases mem_append.mp h with h|h
  ·exact .inl (.root h)
  ·exact .inr (.root h)
 |step _ h1 h2 ih=>
  rcases ih with ih|ih
  ·exact .inl (.step ih h1 h2)
  ·exact .inr (.step ih h1 h2)
theorem WU{cs:List Cl}{j:Nat}(r:Rc cs [] j):False:=by
 induction r with
 |root h=>cases h
 |step _ _ _ ih=>exact ih
theorem diZ{cs:List Cl}{v:V}{j:Nat}(r:Rc cs [.sc v] j):False:=by
 induction r with
 |root h=>rw[mem_singleton]at h;cases h
 |step _ _ _ ih=>exact ih
theorem VT.cover{cs:List Cl}:∀t:Tv,(∀ {x:Vl},(VT cs t).1 x->∃L:List Nat,L.length=t.nodes/\∀j,Rc cs [x] j->j∈L)/\∀ {vs:List Vl},(VT cs t).2 vs->∃L:List Nat,L.length=t.nodes/\∀j,Rc cs vs j->j∈L
 | .sc _=>⟨λh=>by cases h;exact⟨[],rfl,λj r=>(diZ r).elim⟩,λh=>h.elim⟩
 | .pair h t=>⟨λ⟨k,a,b,e,hk,h1,h2⟩=>by
   subst e
   obtain⟨L1,l1,c1⟩:=(VT.cover h).1 h1
   obtain⟨L2,l2,c2⟩:=(VT.cover t).1 h2
   refine⟨k::(L1++L2),by simp[Tv.nodes,l1,l2],λj r=> ?_⟩
   rcases RO hk r with e|r
   ·rw[e];exact mem_cons_self ..
   ·refine mem_cons_of_mem _ (mem_append.mpr ?_)
    rcases PP (us:=[a]) (vs:=[b]) r with r|r
    ·exact .inl (c1 j r)
    ·exact .inr (c2 j r),λh=>h.elim⟩
 | .fn b xs=>⟨λ⟨k,vs,e,hk,h1⟩=>by
   subst e
   obtain⟨L1,l1,c1⟩:=(VT.cover xs).2 h1
   refine⟨k::L1,by simp[Tv.nodes,l1],λj r=> ?_⟩
   rcases RO hk r with e|r
   ·rw[e];exact mem_cons_self ..
   ·exact mem_cons_of_mem _ (c1 j r),λh=>h.elim⟩
 | .nil=>⟨λh=>h.elim,λh=>by cases h;exact⟨[],rfl,λj r=>(WU r).elim⟩⟩
 | .cons x xs=>⟨λh=>h.elim,λ⟨v,w,e,h1,h2⟩=>by
   subst e
   obtain⟨L1,l1,c1⟩:=(VT.cover x).1 h1
   obtain⟨L2,l2,c2⟩:=(VT.cover xs).2 h2
   refine⟨L1++L2,by simp[Tv.nodes,l1,l2],λj r=>mem_append.mpr ?_⟩
   rcases PP (us:=[v]) (vs:=w) r with r|r
   ·exact .inl (c1 j r)
   ·exact .inr (c2 j r)⟩
theorem HY{cs:List Cl}:∀ {ts:List Tv} {vs:List Vl},All2 (V1 cs) ts vs->∃L:List Nat,L.length=(ts.map Tv.nodes).sum/\∀j,Rc cs vs j->j∈L
 | [],_,h=>by cases h;exact⟨[],rfl,λj r=>(WU r).elim⟩
 |t::ts,_,h=>by
  cases h with
  | @cons _ v _ vs h1 h2=>
   obtain⟨L1,l1,c1⟩:=(VT.cover t).1 h1
   obtain⟨L2,l2,c2⟩:=HY h2
   refine⟨L1++L2,by simp[l1,l2],λj r=>mem_append.mpr ?_⟩
   rcases PP (us:=[v]) (vs:=vs) r with r|r
   ·exact .inl (c1 j r)
   ·exact .inr (c2 j r)
theorem WC:∀(ks L:List Nat),ks.Nodup->(∀k∈ks,k∈L)->ks.length<=L.length
 | [],L,_,_=>zero_le _
 |k::ks,L,hn,h=>by
  rw[nodup_cons]at hn
  have h1:=WC ks (L.erase k) hn.2 λj hj=>by
   refine(List.mem_erase_of_ne λ(e:j=k)=>hn.1 (by rw[<-e];exact hj)).mpr (h j (mem_cons_of_mem _ hj))
  have h2:(L.erase k).length=L.length - 1:=List.length_erase_of_mem (h k (mem_cons_self ..))
  have h3:0<L.length:=List.length_pos_of_mem (h k (mem_cons_self ..))
  simp only[length_cons]
  omega
theorem YB{cs:List Cl}{ts:List Tv}{vs:List Vl}(h:All2 (V1 cs) ts vs)(hn:(ts.map Tv.nodes).sum<=63):Few cs vs:=λks hnd hr=>by
 obtain⟨L,l,c⟩:=HY h
 have:=WC ks L hnd λk hk=>c k (hr k hk)
 omega
structure Tf where
 k:Nat
 at_:Nat
 sl:List Tv
 st:List Tv
inductive To where
 |value (t:Tv)|refused (w:Str)|dry|deep
structure Tm where
 frs:List Tf
 out:Option To
 r:Nat
 c:Nat
 n:Nat
inductive Eo3 where
 |fr (d:Nat) (sl st:List Tv)|rf (w:Str)|new (t:Tv) (st:List Tv)
inductive Et (sl:List Tv):Rk->List Tv->Eo3->Prop
 |push {v st}:scV v=true->Et sl (.push v) st (.fr 1 sl (st++ [.sc v]))
 |non {st}:Et sl .non st (.fr 1 sl (st++ [.sc .non]))
 |load {j v st}:sl[j]? =some v->Et sl (.load j) st (.fr 1 sl (st++ [v]))
 |keep {j v st}:j<sl.length->Et sl (.keep j) (st++ [v]) (.fr 1 (sl.take j++ [v]++sl.drop (j+1)) st)
 |twoV {k a b v st}:k<6->Bd a->Bd b->NM.tw k a b=[.str "value",v]->scV v=true->Et sl (.two k) (st++ [.sc (.int a),.sc (.int b)]) (.fr 1 sl (st++ [.sc v]))
 |twoR {k a b w st}:k<6->Bd a->Bd b->NM.tw k a b=[.str "refused",.str w]->Et sl (.two k) (st++ [.sc (.int a),.sc (.int b)]) (.rf w)
 |cons {x y st}:Et sl .cons (st++ [x,y]) (.new (.pair x y) st)
 |headN {st}:Et sl .head (st++ [.sc .non]) (.rf "head")
 |tailN {st}:Et sl .tail (st++ [.sc .non]) (.rf "tail")
 |head {h t st}:Et sl .head (st++ [.pair h t]) (.fr 1 sl (st++ [h]))
 |tail {h t st}:Et sl .tail (st++ [.pair h t]) (.fr 1 sl (st++ [t]))
 |emptyN {st}:Et sl .empty (st++ [.sc .non]) (.fr 1 sl (st++ [.sc (.bl true)]))
 |empty {h t st}:Et sl .empty (st++ [.pair h t]) (.fr 1 sl (st++ [.sc (.bl false)]))
 |not {b st}:Et sl .not (st++ [.sc (.bl b)]) (.fr 1 sl (st++ [.sc (.bl (!b))]))
 |skip {n st}:Et sl (.skip n) st (.fr (1+n) sl st)
 |unless {n b st}:Et sl (.unless n) (st++ [.sc (.bl b)]) (.fr (1+if b=true then 0 else n) sl st)
 |close {b n st xs}:xs.length=n->n<=10->Et sl (.close b n) (st++xs) (.new (.fn b (tl xs)) st)
def U7(bs:List Bk)(f:Tf):Option Rw:=(bs[f.k]?).bind λb=>b.rows[f.at_]?
def R9(n sz:Nat)(vs:List Tv):Tf:=⟨n,0,vs++List.replicate (sz - vs.length) (.sc .non),[]⟩
inductive ActT (bs:List Bk) (most:Nat) (fs:List Tf) (f:Tf) (r c n:Nat):Rw->Tm->Prop
 |own {rk d sl st}:Et f.sl rk f.st (.fr d sl st)->ActT bs most fs f r c n (.own rk) ⟨fs++ [⟨f.k,f.at_+d,sl,st⟩],none,r+1,c,n⟩
 |new {rk t st}:Et f.sl rk f.st (.new t st)->ActT bs most fs f r c n (.own rk) ⟨fs++ [⟨f.k,f.at_+1,f.sl,st++ [t]⟩],none,r+1,c,n+1⟩
 |rf {rk w}:Et f.sl rk f.st (.rf w)->ActT bs most fs f r c n (.own rk) ⟨[],some (.refused w),r+1,c,n⟩
 |last {v st}:fs=[]->f.st=st++ [v]->ActT bs most fs f r c n .back ⟨[],some (.value v),r+1,c,n⟩
 |back {gs g v st}:fs=gs++ [g]->f.st=st++ [v]->ActT bs most fs f r c n .back ⟨gs++ [⟨g.k,g.at_,g.sl,g.st++ [v]⟩],none,r+1,c,n⟩
 |dry {w}:FK w->most<=c->ActT bs most fs f r c n w ⟨[],some .dry,r+1,c,n⟩
 |deep {w}:FK w->c<most->60<=fs.length+1->ActT bs most fs f r c n w ⟨[],some .deep,r+1,c+1,n⟩
 |call {b bk st xs}:c<most->fs.length+1<60->f.st=st++xs->bs[b]? =some bk->xs.length<=bk.sz->ActT bs most fs f r c n (.call b xs.length) ⟨fs++ [⟨f.k,f.at_+1,f.sl,st⟩]++ [R9 b bk.sz xs],none,r+1,c+1,n⟩
 |apply {b bk st xs x}:c<most->fs.length+1<60->f.st=st++ [.fn b (tl xs),x]->bs[b]? =some bk->xs.length+1<=bk.sz->
  ActT bs most fs f r c n .apply ⟨fs++ [⟨f.k,f.at_+1,f.sl,st⟩]++ [R9 b bk.sz (xs++ [x])],none,r+1,c+1,n⟩
def QY(bs:List Bk)(most:Nat)(T T':Tm):Prop:=∃fs f r c n w,T=⟨fs++ [f],none,r,c,n⟩/\U7 bs f=some w/\ActT bs most fs f r c n w T'
structure SimF (cs:List Cl) (t:Tf) (f:Fr):Prop where
 k:f.k=t.k
 at_:f.at_=t.at_
 sl:All2 (V1 cs) t.sl f.sl
 st:All2 (V1 cs) t.st f.st
def cPZ(cs:List Cl):Option To->Option Ou->Prop
 |none,o=>o=none
 |some (.value t),o=>∃x,o=some (.value x)/\V1 cs t x
 |some (.refused w),o=>o=some (.refused w)
 |some .dry,o=>o=some .dry
 |some .deep,o=>o=some .deep
structure Sim (S:Ms) (T:Tm):Prop where
 frs:All2 (SimF S.cs) T.frs S.frs
 out:cPZ S.cs T.out S.out
 r:S.r=T.r
 c:S.c=T.c
 n:S.cs.length<=T.n
 okc:Okc S.cs
theorem BU{cs:List Cl}(c:Cl){ts:List Tv}{vs:List Vl}(h:All2 (V1 cs) ts vs):All2 (V1 (cs++ [c])) ts vs:=h.imp λ_ _ z=>V1.app c z
theorem SimF.app{cs:List Cl}(c:Cl){t:Tf}{f:Fr}(h:SimF cs t f):SimF (cs++ [c]) t f:=⟨h.k,h.at_,BU c h.sl,BU c h.st⟩
theorem ZQ{cs:List Cl}(h:Okc cs){c:Cl}(hc:∀j,Vl.cell j∈vin c->j<cs.length):Okc (cs++ [c]):=λk j d hk hj=>by
 rw[length_append]
 rcases Nat.lt_or_ge k cs.length with hl|hl
 ·rw[getElem?_append_left hl]at hk
  exact lt_of_lt_of_le (h k j d hk hj) (Nat.le_add_right _ _)
 ·rw[getElem?_append_right hl]at hk
  have:k - cs.length=0:=by
   cases e:k - cs.length with
   |zero=>rfl
   |succ n=>rw[e]at hk;simp at hk
  rw[this]at hk
  cases hk
  exact lt_of_lt_of_le (hc j hj) (Nat.le_add_right _ _)
theorem GG{cs:List Cl}{ts:List Tv}{vs:List Vl}(h:All2 (V1 cs) ts vs):∀j,Vl.cell j∈vs->j<cs.length:=λj hj=>by
 obtain⟨i,hi⟩:=getElem?_of_mem hj
 obtain⟨t,_,ht⟩:=h.get hi
 exact V1.lt ht
theorem XH{cs:List Cl}{sl:List Tv}{sl':List Vl}(hs:All2 (V1 cs) sl sl'){rk:Rk}{st:List Tv}{eo:Eo3}(h:Et sl rk st eo):∀ {st':List Vl},All2 (V1 cs) st st'->
  (match eo with
   | .fr d sl1 st1=>∃sl2 st2,Er cs sl' rk st' (.fr d sl2 st2)/\All2 (V1 cs) sl1 sl2/\All2 (V1 cs) st1 st2
   | .rf w=>Er cs sl' rk st' (.rf w)
   | .new t st1=>∃c st2,Er cs sl' rk st' (.new c st2)/\All2 (V1 cs) st1 st2/\V1 (cs++ [c]) t (.cell cs.length)/\∀j,Vl.cell j∈vin c->j<cs.length):=by
 have n1:∀ {v:V},V1 cs (.sc v) (.sc v):=rfl
 cases h with
 |push h=>exact λ{st'} ht=>⟨_,_,.push h,hs,ht.app (.cons n1 .nil)⟩
 |non=>exact λ{st'} ht=>⟨_,_,.non,hs,ht.app (.cons n1 .nil)⟩
 |load h=>
  intro st' ht
  obtain⟨v',hv,hR⟩:=M0 hs h
  exact⟨_,_,.load hv,hs,ht.app (.cons hR .nil)⟩
 |keep h=>
  intro st' ht
  obtain⟨ds,d,rfl,h1,h2⟩:=D4 ht
  exact⟨_,_,.keep (by rw[<-hs.len];exact h),((IQ hs _).app (.cons h2 .nil)).app (MC.all2_drop hs _),h1⟩
 |twoV h1 h2 h3 h4 h5=>
  intro st' ht
  obtain⟨ds,es,rfl,t1,t2⟩:=E4 ht
  cases t2 with
  |cons a1 t3=>
   cases t3 with
   |cons a2 t4=>
    cases t4
    cases a1
    cases a2
    exact⟨_,_,.twoV h1 h2 h3 h4 h5,hs,t1.app (.cons n1 .nil)⟩
 |twoR h1 h2 h3 h4=>
  intro st' ht
  obtain⟨ds,es,rfl,t1,t2⟩:=E4 ht
  cases t2 with
  |cons a1 t3=>
   cases t3 with
   |cons a2 t4=>
    cases t4
    cases a1
    cases a2
    exact .twoR h1 h2 h3 h4
 |cons=>
  intro st' ht
  obtain⟨ds,es,rfl,t1,t2⟩:=E4 ht
  cases t2 with
  | @cons _ x' _ _ a1 t3=>
   cases t3 with
   | @cons _ y' _ _ a2 t4=>
    cases t4
    refine⟨.pair x' y',ds,.cons,t1,⟨cs.length,x',y',rfl,by simp,V1.app _ a1,V1.app _ a2⟩,λj hj=> ?_⟩
    exact GG (vs:=[x',y']) (.cons a1 (.cons a2 .nil)) j hj
 |headN=>
  intro st' ht
  obtain⟨ds,d,rfl,h1,h2⟩:=D4 ht
  cases h2
  exact .headN
 |tailN=>
  intro st' ht
  obtain⟨ds,d,rfl,h1,h2⟩:=D4 ht
  cases h2
  exact .tailN
 |head=>
  intro st' ht
  obtain⟨ds,d,rfl,h1,k,a,b,rfl,hk,ha,hb⟩:=D4 ht
  exact⟨_,_,.head hk,hs,h1.app (.cons ha .nil)⟩
 |tail=>
  intro st' ht
  obtain⟨ds,d,rfl,h1,k,a,b,rfl,hk,ha,hb⟩:=D4 ht
  exact⟨_,_,.tail hk,hs,h1.app (.cons hb .nil)⟩
 |emptyN=>
  intro st' ht
  obtain⟨ds,d,rfl,h1,h2⟩:=D4 ht
  cases h2
  exact⟨_,_,.emptyN,hs,h1.app (.cons n1 .nil)⟩
 |empty=>
  intro st' ht
  obtain⟨ds,d,rfl,h1,k,a,b,rfl,hk,ha,hb⟩:=D4 ht
  exact⟨_,_,.empty,hs,h1.app (.cons n1 .nil)⟩
 |not=>
  intro st' ht
  obtain⟨ds,d,rfl,h1,h2⟩:=D4 ht
  cases h2
  exact⟨_,_,.not,hs,h1.app (.cons n1 .nil)⟩
 |skip=>exact λ{st'} ht=>⟨_,_,.skip,hs,ht⟩
 |«unless»=>
  intro st' ht
  obtain⟨ds,d,rfl,h1,h2⟩:=D4 ht
  cases h2
  exact⟨_,_,.unless,hs,h1⟩
 | @close b n st1 xs h h'=>
  intro st' ht
  obtain⟨ds,es,rfl,t1,t2⟩:=E4 ht
  refine⟨.fn b es,ds,.close (by rw[<-t2.len];exact h) h',t1,⟨cs.length,es,rfl,by simp, ?_⟩,GG t2⟩
  exact bnZ (BU _ t2)
theorem abZ{bs:List Bk}{cs:List Cl}{t:Tf}{f:Fr}(h:SimF cs t f):MK bs f=U7 bs t:=by
 unfold MK U7
 rw[h.k,h.at_]
theorem YR{cs:List Cl}:∀n:Nat,All2 (V1 cs) (List.replicate n (.sc .non)) (List.replicate n (.sc .non))
 |0=> .nil
 |n+1=> .cons rfl (YR n)
theorem CY{cs:List Cl}{n sz:Nat}{ts:List Tv}{vs:List Vl}(h:All2 (V1 cs) ts vs):SimF cs (R9 n sz ts) (begun n sz vs):=by
 refine⟨rfl,rfl, ?_,.nil⟩
 show All2 _ (ts++List.replicate (sz - ts.length) (.sc .non)) (vs++List.replicate (sz - vs.length) (.sc .non))
 rw[h.len]
 exact h.app (YR _)
theorem MQ{bs:List Bk}{most:Nat}{S:Ms}{T T':Tm}(h:Sim S T)(st:QY bs most T T'):∃S',bKZ bs most S S'/\Sim S' T':=by
 obtain⟨fs,f,r,c,n,w,rfl,hw,ha⟩:=st
 obtain⟨cs,frs,out,r',c'⟩:=S
 obtain⟨hF,hO,hr,hc,hn,hk⟩:=h
 simp only at hF hO hr hc hn hk
 subst hr hc
 obtain⟨gs,g,rfl,hG,hg⟩:=D4 hF
 obtain rfl:=hO
 have hrow:MK bs g=some w:=by rw[abZ hg];exact hw
 have lG:=hG.len
 cases ha with
 |own hE=>
  obtain⟨sl2,st2,e1,e2,e3⟩:=XH hg.sl hE hg.st
  exact⟨_,⟨cs,gs,g,_,_,_,rfl,hrow,.own e1⟩,hG.app (.cons ⟨hg.k,by rw[hg.at_],e2,e3⟩ .nil),rfl,rfl,rfl,hn,hk⟩
 |new hE=>
  obtain⟨cl,st2,e1,e2,e3,e4⟩:=XH hg.sl hE hg.st
  refine⟨_,⟨cs,gs,g,_,_,_,rfl,hrow,.new e1⟩, ?_,rfl,rfl,rfl, ?_,ZQ hk e4⟩
  ·exact(hG.imp λ_ _ z=>SimF.app cl z).app (.cons ⟨hg.k,by rw[hg.at_],BU cl hg.sl,(BU cl e2).app (.cons e3 .nil)⟩ .nil)
  ·show(cs++ [cl]).length<=n+1
   rw[length_append]
   exact Nat.add_le_add_right hn 1
 |rf hE=>exact⟨_,⟨cs,gs,g,_,_,_,rfl,hrow,.rf (XH hg.sl hE hg.st)⟩,.nil,rfl,rfl,rfl,hn,hk⟩
 |last hfs hst=>
  subst hfs
  cases hG
  have h1:=hg.st
  rw[hst]at h1
  obtain⟨ds,d,e,h2,h3⟩:=D4 h1
  exact⟨_,⟨cs,[],g,_,_,_,rfl,hrow,.last rfl e⟩,.nil,⟨_,rfl,h3⟩,rfl,rfl,hn,hk⟩
 |back hfs hst=>
  subst hfs
  obtain⟨gs',g',rfl,hG',hg'⟩:=D4 hG
  have h1:=hg.st
  rw[hst]at h1
  obtain⟨ds,d,e,h2,h3⟩:=D4 h1
  exact⟨_,⟨cs,_,g,_,_,_,rfl,hrow,.back rfl e⟩,hG'.app (.cons ⟨hg'.k,hg'.at_,hg'.sl,hg'.st.app (.cons h3 .nil)⟩ .nil),rfl,rfl,rfl,hn,hk⟩
 |dry h1 h2=>exact⟨_,⟨cs,gs,g,_,_,_,rfl,hrow,.dry h1 h2⟩,.nil,rfl,rfl,rfl,hn,hk⟩
 |deep h1 h2 h3=>exact⟨_,⟨cs,gs,g,_,_,_,rfl,hrow,.deep h1 h2 (by omega)⟩,.nil,rfl,rfl,rfl,hn,hk⟩
 | @call b bk st1 xs h1 h2 h3 h4 h5=>
  have h6:=hg.st
  rw[h3]at h6
  obtain⟨ds,es,e,h7,h8⟩:=E4 h6
  have l8:=h8.len
  rw[l8]at hrow
  have n1:SimF cs ⟨f.k,f.at_+1,f.sl,st1⟩ ⟨g.k,g.at_+1,g.sl,ds⟩:=⟨hg.k,congrArg (·+1) hg.at_,hg.sl,h7⟩
  exact⟨_,⟨cs,gs,g,_,_,_,rfl,hrow,.call (xs:=es) h1 (by omega) e h4 (by omega)⟩,(hG.app (.cons n1 .nil)).app (.cons (CY h8) .nil),rfl,rfl,rfl,hn,hk⟩
 | @apply b bk st1 xs x h1 h2 h3 h4 h5=>
  have h6:=hg.st
  rw[h3]at h6
  obtain⟨ds,es,e,h7,h8⟩:=E4 h6
  cases h8 with
  |cons a1 t3=>
   cases t3 with
   |cons a2 t4=>
    cases t4
    obtain⟨k,vs,rfl,hkc,hvs⟩:=a1
    have hx:=a3Z hvs
    have lx:=hx.len
    have n1:SimF cs ⟨f.k,f.at_+1,f.sl,st1⟩ ⟨g.k,g.at_+1,g.sl,ds⟩:=⟨hg.k,congrArg (·+1) hg.at_,hg.sl,h7⟩
    exact⟨_,⟨cs,gs,g,_,_,_,rfl,hrow,.apply h1 (by omega) e hkc h4 (by omega)⟩,(hG.app (.cons n1 .nil)).app (.cons (CY (hx.app (.cons a2 .nil))) .nil),rfl,rfl,rfl,hn,hk⟩
theorem b8Z{cs:List Cl}{ws:List Vl}{ks:List Nat}(h:Okc cs)(hK:Kept cs ws ks):Okc (ks.map λk=>mvc ks (M9 cs k)):=λi j c hi hj=>by
 rw[getElem?_map]at hi
 obtain⟨k,hk,rfl⟩:=map_eq_some_iff.mp hi
 rw[length_map]
 rw[ZU]at hj
 obtain⟨x,hx,e⟩:=mem_map.mp hj
 cases x with
 |sc v=>cases e
 |cell m=>
  cases e
  have hr:=(hK.is k).mp (mem_of_getElem? hk)
  cases hc:cs[k]? with
  |none=>unfold M9 at hx;rw[hc]at hx;simp[vin]at hx
  |some d=>
   rw[DE hc]at hx
   exact List.idxOf_lt_length_of_mem ((hK.is m).mpr (.step hr hc hx))
theorem WG{cs:List Cl}{ws:List Vl}{ks:List Nat}(hK:Kept cs ws ks){ts:List Tv}{vs:List Vl}(h:All2 (V1 cs) ts vs)(hr:∀k,Vl.cell k∈vs->Rc cs ws k):All2 (V1 (ks.map λk=>mvc ks (M9 cs k))) ts (vs.map (mv ks)):=by
 induction h with
 |nil=>exact .nil
 | @cons t v ts vs h1 _ ih=>exact .cons ((VT.sw hK t).1 h1 λk e=>hr k (by rw[<-e];exact mem_cons_self ..)) (ih λk e=>hr k (mem_cons_of_mem _ e))
theorem XA{cs:List Cl}{ws:List Vl}{ks:List Nat}(hK:Kept cs ws ks)(hO:Okc cs)(hV:Okv cs.length ws):ks.length<=cs.length:=CU _ _ hK.nd λk hk=>((hK.is k).mp hk).lt hO hV
theorem WE{S:Ms}{T:Tm}(h:Sim S T)(he:T.out≠none->T.frs=[])(hV:Okv S.cs.length (N9 S.out S.frs)){ks:List Nat}(hK:Kept S.cs (N9 S.out S.frs) ks):Sim (swS ks S) T:=by
 obtain⟨cs,frs,out,r,c⟩:=S
 obtain⟨frs',out',r',c',n⟩:=T
 obtain⟨hF,hO,hr,hc,hn,hk⟩:=h
 simp only at hF hO hr hc hn hk hV hK he
 have hlen:=XA hK hk hV
 refine⟨?_, ?_,hr,hc, ?_,b8Z hk hK⟩
 ·show All2 _ frs' (frs.map (mvF (mv ks)))
  cases ho:out' with
  |some o=>rw[he (by rw[ho];intro z;cases z)]at hF⊢;cases hF;exact .nil
  |none=>
   rw[ho]at hO
   obtain rfl:=hO
   have go:∀ {ts:List Tf} {fs:List Fr},All2 (SimF cs) ts fs->(∀k,Vl.cell k∈fs.flatMap (λf=>f.sl++f.st)->Rc cs (N9 none frs) k)->All2 (SimF (ks.map λk=>mvc ks (M9 cs k))) ts (fs.map (mvF (mv ks))):=λ{ts fs} h=>by
    induction h with
    |nil=>exact λ_=> .nil
    | @cons t f ts fs h1 _ ih=>
     intro hr
     refine .cons ⟨h1.k,h1.at_,WG hK h1.sl λk e=>hr k ?_,WG hK h1.st λk e=>hr k ?_⟩ (ih λk e=>hr k ?_)
     ·simp[e]
     ·simp[e]
     ·rw[flatMap_cons];exact mem_append_right _ e
   exact go hF λk e=> .root e
 ·show cPZ _ out' (out.map (mvO (mv ks)))
  cases out' with
  |none=>obtain rfl:=hO;rfl
  |some o=>
   cases o with
   |value t=>
    obtain⟨x,rfl,hx⟩:=hO
    exact⟨mv ks x,rfl,(VT.sw hK t).1 hx λk e=> .root (by rw[<-e];exact mem_singleton.mpr rfl)⟩
   |refused w=>obtain rfl:=hO;rfl
   |dry=>obtain rfl:=hO;rfl
   |deep=>obtain rfl:=hO;rfl
 ·show(ks.map λk=>mvc ks (M9 cs k)).length<=n
  rw[length_map]
  exact le_trans hlen hn
def Q7:PL.Pv->Tv
 | .int i=> .sc (.int i)
 | .bl b=> .sc (.bl b)
 | .nil=> .sc .non
 | .cons h t=> .pair (Q7 h) (Q7 t)
theorem GF{cs:List Cl}:∀ {p:PL.Pv} {x:Vl},V1 cs (Q7 p) x->VRa cs p x
 | .int _,_,h=>h
 | .bl _,_,h=>h
 | .nil,_,h=>h
 | .cons _ _,_,⟨k,a,b,e,hk,h1,h2⟩=>⟨k,a,b,e,hk,GF h1,GF h2⟩
def RV(T:Tm):List Tv:=T.frs.flatMap λf=>f.sl++f.st
structure GoodT (T:Tm):Prop where
 frs:T.frs.length<=60
 fr:∀f∈T.frs,f.sl.length<=100/\f.st.length<=100
 n:T.n<=500
 len:(RV T).length<=1000
 few:((RV T).map Tv.nodes).sum<=63\/T.n<=63
inductive TR (bs:List Bk) (most:Nat) (E:Tm):Nat->Tm->Prop
 |done:TR bs most E 0 E
 |step {T T' j}:GoodT T->T.out=none->QY bs most T T'->TR bs most E j T'->TR bs most E (j+1) T
theorem czZ{bs:List Bk}{most:Nat}{T T':Tm}(h:QY bs most T T'):T'.r=T.r+1/\T.out=none:=by
 obtain⟨fs,f,r,c,n,w,rfl,_,ha⟩:=h
 cases ha<;>exact⟨rfl,rfl⟩
theorem LV{cs:List Cl}:∀ {ts:List Tf} {fs:List Fr},All2 (SimF cs) ts fs->All2 (V1 cs) (ts.flatMap λf=>f.sl++f.st) (fs.flatMap λf=>f.sl++f.st)
 | [],_,h=>by cases h;exact .nil
 |_::_,_,h=>by
  cases h with
  |cons h1 h2=>
   rw[flatMap_cons,flatMap_cons]
   exact(h1.sl.app h1.st).app (LV h2)
theorem BJ{S:Ms}{T:Tm}(h:Sim S T):S.out=none↔T.out=none:=by
 have ho:=h.out
 cases e:T.out with
 |none=>rw[e]at ho;exact⟨λ_=>rfl,λ_=>ho⟩
 |some o=>
  rw[e]at ho
  refine⟨λz=> ?_,λz=>(nomatch z)⟩
  cases o with
  |value t=>obtain⟨x,hx,_⟩:=ho;rw[hx]at z;cases z
  |refused w=>rw[show S.out=_ from ho]at z;cases z
  |dry=>rw[show S.out=_ from ho]at z;cases z
  |deep=>rw[show S.out=_ from ho]at z;cases z
theorem IW{S:Ms}{T:Tm}(h:Sim S T)(g:GoodT T):Small S:=by
 refine⟨le_trans h.n g.n,by rw[<-h.frs.len];exact g.frs,λf hf=> ?_⟩
 obtain⟨i,hi⟩:=getElem?_of_mem hf
 obtain⟨t,ht,hs⟩:=h.frs.get hi
 have:=g.fr t (mem_of_getElem? ht)
 exact⟨by rw[<-hs.sl.len];exact this.1,by rw[<-hs.st.len];exact this.2⟩
theorem YK{S:Ms}{T:Tm}(h:Sim S T)(g:GoodT T)(ho:S.out=none):Tidy S:=by
 have e:N9 S.out S.frs=S.frs.flatMap λf=>f.sl++f.st:=by rw[ho];rfl
 have hh:=LV h.frs
 refine⟨λz=>absurd ho z,h.okc, ?_, ?_, ?_⟩
 ·rw[e];exact GG hh
 ·rw[e]
  rcases g.few with f|f
  ·exact YB hh f
  ·exact λks nd hr=>le_trans (CU S.cs.length ks nd λk hk=>Rc.lt h.okc (GG hh) (hr k hk)) (le_trans h.n f)
 ·rw[e,<-hh.len];exact g.len
def IR(bs:List Bk)(most:Nat)(E:Tm)(N:Nat)(S:Ms):Prop:=∃T j,Sim S T/\TR bs most E j T/\T.r+j=N
theorem cKZ{bs:List Bk}{most:Nat}{E:Tm}{N:Nat}(hE:E.out≠none)(hv:∀t,E.out=some (.value t)->∃p,t=Q7 p/\PL.size p<=400000):Rn bs most (IR bs most E N) λS=>N - S.r:=by
 refine⟨λS ⟨T,j,hs,ht,hj⟩ ho=> ?_,λS x ⟨T,j,hs,ht,hj⟩ ho=> ?_⟩
 ·cases ht with
  |done=>exact absurd ((BJ hs).mp ho) hE
  | @step _ T' j g hn hst hr=>
   have hT:=YK hs g ho
   obtain⟨S',h1,h2⟩:=MQ hs hst
   have hr1:=(czZ hst).1
   refine⟨IW hs g,hT,λks hK=>⟨⟨T,j+1,WE hs (λz=>absurd hn z) hT.okv hK,.step g hn hst hr,hj⟩,Nat.le_refl _⟩,S',h1,⟨T',j,h2,hr,by omega⟩, ?_⟩
   have e1:=hs.r
   have e2:=h2.r
   show N - S'.r<N - S.r
   omega
 ·cases ht with
  |done=>
   have h1:=hs.out
   cases e:E.out with
   |none=>exact absurd e hE
   |some o=>
    rw[e]at h1
    cases o with
    |value t=>
     obtain⟨y,hy,hV⟩:=h1
     rw[ho]at hy
     cases hy
     obtain⟨p,rfl,hp⟩:=hv t e
     exact⟨p,GF hV,hp⟩
    |refused w=>rw[show S.out=_ from h1]at ho;cases ho
    |dry=>rw[show S.out=_ from h1]at ho;cases ho
    |deep=>rw[show S.out=_ from h1]at ho;cases ho
  |step g hn hst hr=>
   have:=(BJ hs).mpr hn
   rw[this]at ho;cases ho
theorem bZZ{bs:List Bk}{most:Nat}{E:Tm}{N:Nat}{S:Ms}(h:IR bs most E N S)(ho:S.out≠none):Sim S E:=by
 obtain⟨T,j,hs,ht,hj⟩:=h
 cases ht with
 |done=>exact hs
 |step g hn hst hr=>exact absurd ((BJ hs).mpr hn) ho
theorem IG{bk:Bk}{main:Nat}{ts:List Tv}{vs:List Vl}(h:All2 (V1 []) ts vs):Sim ⟨[],[begun main bk.sz vs],none,0,0⟩ ⟨[R9 main bk.sz ts],none,0,0,0⟩:=
 ⟨.cons (CY h) .nil,rfl,rfl,rfl,Nat.le_refl _,λk j c hk=>by simp at hk⟩
theorem TR.cat{bs:List Bk}{most:Nat}{E:Tm}{i j:Nat}{T M:Tm}(h:TR bs most M i T)(h':TR bs most E j M):TR bs most E (i+j) T:=by
 induction h with
 |done=>rw[zero_add];exact h'
 | @step T T' k g hn hst _ ih=>rw[Nat.add_right_comm];exact .step g hn hst ih
end MT
namespace K67
open PySem L2 CL SW MC MT
open BV hiding ifT ifF NoG top
noncomputable abbrev GR:Int:=NM.GR
noncomputable def B7:Nat->Int->List Rw
 |0,n=> [.own (.push (.int n))]
 |1,n=> [.own (.push (.int n)),.own (.push (.int 5)),.own .non,.own .cons,.own .cons]
 |2,n=> [.own (.push (.int n)),.own (.push (.int 0)),.own (.two 5)]
 |3,_=> [.own (.push (.int GR)),.own (.push (.int GR)),.own (.two 0)]
 |4,_=> [.own .non,.own .head]
 |_,_=> [.own .non,.own .tail]
noncomputable def again:Bool->Nat->List Rw
 |true,k=> [.own (.close k 0),.own (.load 0),.own (.push (.int 1)),.own (.two 1),.apply,.back]
 |false,k=> [.own (.load 0),.own (.push (.int 1)),.own (.two 1),.call k 1,.back]
noncomputable def asked(m:Nat):List Rw:=[.own (.load 0),.own (.push (.int 0)),.own (.two 4),.own (.unless (m+1))]
noncomputable def blk(p:List Rw)(fn:Bool)(k:Nat):Bk:=⟨1,1,asked p.length++p++ [.back]++again fn k⟩
def Z8:Nat->List Rw
 |0=> [.back]
 |k+1=> .own (.load 0):: .call 1 1::Z8 k
noncomputable def fnB(kind:Nat)(three:Bool):Bool:=three||decide (kind=1)
noncomputable def nxB(kind:Nat)(three:Bool):Bool:= !three&&decide (kind=2)
noncomputable def nB(three:Bool):Nat:=if three=true then 3 else 1
noncomputable def blocks(way:Nat)(n:Int)(kind often:Nat):List Bk:=
 [⟨1,2,[.own (.push (.int 77)),.back]⟩,blk (B7 way n) (fnB kind false) (nB (nxB kind false)),⟨0,1,[.own .non,.own .head,.back]⟩,blk (B7 way n) (fnB kind true) (nB (nxB kind true)),⟨1,1,Z8 often⟩]
theorem FR{way:Nat}{n:Int}{kind often:Nat}(th:Bool):(blocks way n kind often)[nB th]? =some (blk (B7 way n) (fnB kind th) (nB (nxB kind th))):=by cases th<;>rfl
theorem Z1{way:Nat}{n:Int}{kind often:Nat}(th:Bool){i:Nat}{w:Rw}{sl st:List Tv}(h:(asked (B7 way n).length)[i]? =some w):U7 (blocks way n kind often) ⟨nB th,i,sl,st⟩=some w:=by
 unfold U7
 rw[FR th]
 show(asked (B7 way n).length++B7 way n++ [.back]++again _ _)[i]? =some w
 have hi:=(List.getElem?_eq_some_iff.mp h).1
 rw[List.append_assoc,List.append_assoc,getElem?_append_left hi]
 exact h
theorem G1{way:Nat}{n:Int}{kind often:Nat}(th:Bool){i:Nat}{w:Rw}{sl st:List Tv}(h:(B7 way n++ [.back])[i]? =some w):U7 (blocks way n kind often) ⟨nB th,4+i,sl,st⟩=some w:=by
 unfold U7
 rw[FR th]
 show(asked (B7 way n).length++B7 way n++ [.back]++again _ _)[4+i]? =some w
 have hi:=(List.getElem?_eq_some_iff.mp h).1
 rw[List.append_assoc (asked _),List.append_assoc (asked _),getElem?_append_right (by show 4<=4+i;omega)]
 have e:4+i - (asked (B7 way n).length).length=i:=by show 4+i - 4=i;omega
 rw[e,getElem?_append_left hi]
 exact h
theorem P9{way:Nat}{n:Int}{kind often:Nat}(th:Bool){i:Nat}{w:Rw}{sl st:List Tv}(h:(again (fnB kind th) (nB (nxB kind th)))[i]? =some w):U7 (blocks way n kind often) ⟨nB th,5+(B7 way n).length+i,sl,st⟩=some w:=by
 unfold U7
 rw[FR th]
 show(asked (B7 way n).length++B7 way n++ [.back]++again _ _)[5+(B7 way n).length+i]? =some w
 have l:(asked (B7 way n).length++B7 way n++ [Rw.back]).length=5+(B7 way n).length:=by
  simp only[length_append,length_singleton]
  show 4+(B7 way n).length+1=_
  omega
 rw[getElem?_append_right (by omega),l,Nat.add_sub_cancel_left]
 exact h
structure BaseG (fs:List Tf):Prop where
 len:fs.length<=59
 fr:∀f∈fs,f.sl.length<=1/\f.st.length<=4
 few:((fs.flatMap λf=>f.sl++f.st).map Tv.nodes).sum<=30
theorem LY:∀ {fs:List Tf},(∀f∈fs,f.sl.length<=1/\f.st.length<=4)->(fs.flatMap λf=>f.sl++f.st).length<=5*fs.length
 | [],_=>Nat.le_refl _
 |f::fs,h=>by
  rw[flatMap_cons,length_append,length_append,length_cons]
  have h1:=h f (mem_cons_self ..)
  have h2:=LY (fs:=fs) λg hg=>h g (mem_cons_of_mem _ hg)
  omega
theorem FW{fs:List Tf}(hb:BaseG fs){k a:Nat}{sl st:List Tv}{r c n:Nat}(h1:sl.length<=1)(h2:st.length<=10)(h3:((sl++st).map Tv.nodes).sum<=30)(hn:n<=500):GoodT ⟨fs++ [⟨k,a,sl,st⟩],none,r,c,n⟩:=by
 have l:=LY hb.fr
 have lb:=hb.len
 have e:RV ⟨fs++ [⟨k,a,sl,st⟩],none,r,c,n⟩=(fs.flatMap λf=>f.sl++f.st)++(sl++st):=by
  unfold RV
  simp[flatMap_append]
 refine⟨by simp only[length_append,length_singleton];omega,λf hf=> ?_,hn, ?_, ?_⟩
 ·rcases mem_append.mp hf with hf|hf
  ·have:=hb.fr f hf
   omega
  ·rw[sZ hf]
   show sl.length<=100/\st.length<=100
   omega
 ·rw[e,length_append,length_append];omega
 ·refine .inl ?_
  rw[e,map_append,sum_append]
  have:=hb.few
  omega
section
variable{way:Nat}{n:Int}{kind often most:Nat}{fs:List Tf}{r c m:Nat}{th:Bool}
theorem own1{bs:List Bk}(hb:BaseG fs){k a d:Nat}{sl st sl' st':List Tv}{rk:Rk}(h1:sl.length<=1)(h2:st.length<=10)(h3:((sl++st).map Tv.nodes).sum<=30)(hn:m<=500)(hr:U7 bs ⟨k,a,sl,st⟩=some (.own rk))(he:Et sl rk st (.fr d sl' st')):
  TR bs most ⟨fs++ [⟨k,a+d,sl',st'⟩],none,r+1,c,m⟩ 1 ⟨fs++ [⟨k,a,sl,st⟩],none,r,c,m⟩:=
 .step (FW hb h1 h2 h3 hn) rfl ⟨fs,⟨k,a,sl,st⟩,r,c,m,_,rfl,hr,.own he⟩ .done
theorem bDZ{bs:List Bk}(hb:BaseG fs){k a:Nat}{sl st st':List Tv}{t:Tv}{rk:Rk}(h1:sl.length<=1)(h2:st.length<=10)(h3:((sl++st).map Tv.nodes).sum<=30)(hn:m<=500)(hr:U7 bs ⟨k,a,sl,st⟩=some (.own rk))(he:Et sl rk st (.new t st')):
  TR bs most ⟨fs++ [⟨k,a+1,sl,st'++ [t]⟩],none,r+1,c,m+1⟩ 1 ⟨fs++ [⟨k,a,sl,st⟩],none,r,c,m⟩:=
 .step (FW hb h1 h2 h3 hn) rfl ⟨fs,⟨k,a,sl,st⟩,r,c,m,_,rfl,hr,.new he⟩ .done
theorem rf1{bs:List Bk}(hb:BaseG fs){k a:Nat}{sl st:List Tv}{w:Str}{rk:Rk}(h1:sl.length<=1)(h2:st.length<=10)(h3:((sl++st).map Tv.nodes).sum<=30)(hn:m<=500)(hr:U7 bs ⟨k,a,sl,st⟩=some (.own rk))(he:Et sl rk st (.rf w)):
  TR bs most ⟨[],some (.refused w),r+1,c,m⟩ 1 ⟨fs++ [⟨k,a,sl,st⟩],none,r,c,m⟩:=
 .step (FW hb h1 h2 h3 hn) rfl ⟨fs,⟨k,a,sl,st⟩,r,c,m,_,rfl,hr,.rf he⟩ .done
noncomputable abbrev iv(i:Int):Tv:=.sc (.int i)
theorem bd0:Bd 0:=⟨by decide,by decide⟩
theorem bd1:Bd 1:=⟨by decide,by decide⟩
theorem LW{i:Int}(h:0<=i)(h':i<=1000):Bd i:=by
 have:NM.GR=10000000000000000000000000000000000000000:=rfl
 exact⟨by omega,by omega⟩
theorem ask(hb:BaseG fs)(hn:m<=500)(x:Nat)(hx:x<=1000):
  TR (blocks way n kind often) most ⟨fs++ [⟨nB th,if x=0 then 4 else 5+(B7 way n).length,[iv x],[]⟩],none,r+4,c,m⟩ 4 ⟨fs++ [⟨nB th,0,[iv x],[]⟩],none,r,c,m⟩:=by
 have hbx:Bd (x:Int):=LW (by omega) (by omega)
 have t1:TR (blocks way n kind often) most ⟨fs++ [⟨nB th,1,[iv x],[iv x]⟩],none,r+1,c,m⟩ 1 ⟨fs++ [⟨nB th,0,[iv x],[]⟩],none,r,c,m⟩:=
  own1 hb (by simp) (by simp) (by simp[Tv.nodes]) hn (Z1 th rfl) (.load (j:=0) (st:=[]) rfl)
 have t2:TR (blocks way n kind often) most ⟨fs++ [⟨nB th,2,[iv x],[iv x,iv 0]⟩],none,r+2,c,m⟩ 1 ⟨fs++ [⟨nB th,1,[iv x],[iv x]⟩],none,r+1,c,m⟩:=
  own1 hb (by simp) (by simp) (by simp[Tv.nodes]) hn (Z1 th rfl) (.push (v:=.int 0) (st:=[iv x]) rfl)
 have t3:TR (blocks way n kind often) most ⟨fs++ [⟨nB th,3,[iv x],[.sc (.bl (decide (V.int (x:Int)=V.int 0)))]⟩],none,r+3,c,m⟩ 1 ⟨fs++ [⟨nB th,2,[iv x],[iv x,iv 0]⟩],none,r+2,c,m⟩:=
  own1 (st:=[iv x,iv 0]) hb (by simp) (by simp) (by simp[Tv.nodes]) hn (Z1 th rfl) (.twoV (k:=4) (a:=x) (b:=0) (st:=[]) (by decide) hbx bd0 rfl rfl)
 have t4:TR (blocks way n kind often) most ⟨fs++ [⟨nB th,3+(1+if decide (V.int (x:Int)=V.int 0)=true then 0 else(B7 way n).length+1),[iv x],[]⟩],none,r+4,c,m⟩ 1 ⟨fs++ [⟨nB th,3,[iv x],[.sc (.bl (decide (V.int (x:Int)=V.int 0)))]⟩],none,r+3,c,m⟩:=
  own1 (st:=[.sc (.bl (decide (V.int (x:Int)=V.int 0)))]) hb (by simp) (by simp) (by simp[Tv.nodes]) hn (Z1 th rfl) (.unless (st:=[]))
 have e:(3+(1+if decide (V.int (x:Int)=V.int 0)=true then 0 else(B7 way n).length+1))=if x=0 then 4 else 5+(B7 way n).length:=by
  by_cases hx0:x=0
  ·subst hx0;rfl
  ·rw[if_neg (λz=>by have:=V.int.inj (of_decide_eq_true z);omega),if_neg hx0];omega
 rw[e]at t4
 exact t1.cat (t2.cat (t3.cat t4))
noncomputable def bf(kind:Nat)(th:Bool):Nat:=(fnB kind th).toNat
def GW(way:Nat)(n:Int)(kind:Nat)(th:Bool)(x:Int):Tf:=⟨nB th,5+(B7 way n).length+(4+bf kind th),[iv x],[]⟩
noncomputable def ahead(kind:Nat)(th:Bool):List Tv:=if fnB kind th=true then [.fn (nB (nxB kind th)) .nil]else []
theorem YI{x:Nat}(hx:x<=1000):NM.tw 1 ((x+1:Nat):Int) 1=[.str "value",.int (x:Nat)]:=by
 show NM.bnd (((x+1:Nat):Int) - 1)=_
 rw[show((x+1:Nat):Int) - 1=((x:Nat):Int) by omega]
 unfold NM.bnd
 have hG:NM.GR=10000000000000000000000000000000000000000:=rfl
 rw[if_neg (by omega)]
theorem pre(hb:BaseG fs)(hn:m+1<=500)(x:Nat)(hx:x+1<=1000):
  TR (blocks way n kind often) most ⟨fs++ [⟨nB th,5+(B7 way n).length+(3+bf kind th),[iv ((x+1:Nat):Int)],ahead kind th++ [iv (x:Nat)]⟩],none,r+(7+bf kind th),c,m+bf kind th⟩ (7+bf kind th) ⟨fs++ [⟨nB th,0,[iv ((x+1:Nat):Int)],[]⟩],none,r,c,m⟩:=by
 have t0:=ask (way:=way) (n:=n) (kind:=kind) (often:=often) (most:=most) (r:=r) (c:=c) (th:=th) hb (m:=m) (by omega) (x+1) hx
 rw[if_neg (by omega)]at t0
 have hbx:Bd ((x+1:Nat):Int):=LW (by omega) (by omega)
 cases hf:fnB kind th with
 |false=>
  have e:bf kind th=0:=by unfold bf;rw[hf];rfl
  have ea:ahead kind th=[]:=by unfold ahead;rw[hf];rfl
  have rw_:∀ {i:Nat} {w:Rw} {sl st:List Tv},(again false (nB (nxB kind th)))[i]? =some w->U7 (blocks way n kind often) ⟨nB th,5+(B7 way n).length+i,sl,st⟩=some w:=λh=>P9 th (by rw[hf];exact h)
  rw[e,ea]
  have t1:TR (blocks way n kind often) most ⟨fs++ [⟨nB th,5+(B7 way n).length+1,[iv ((x+1:Nat):Int)],[iv ((x+1:Nat):Int)]⟩],none,r+4+1,c,m⟩ 1 ⟨fs++ [⟨nB th,5+(B7 way n).length,[iv ((x+1:Nat):Int)],[]⟩],none,r+4,c,m⟩:=
   own1 (st:=[]) hb (by simp) (by simp) (by simp[Tv.nodes]) (by omega) (rw_ (i:=0) rfl) (.load (j:=0) (st:=[]) rfl)
  have t2:TR (blocks way n kind often) most ⟨fs++ [⟨nB th,5+(B7 way n).length+1+1,[iv ((x+1:Nat):Int)],[iv ((x+1:Nat):Int),iv 1]⟩],none,r+4+1+1,c,m⟩ 1 ⟨fs++ [⟨nB th,5+(B7 way n).length+1,[iv ((x+1:Nat):Int)],[iv ((x+1:Nat):Int)]⟩],none,r+4+1,c,m⟩:=
   own1 (st:=[iv ((x+1:Nat):Int)]) hb (by simp) (by simp) (by simp[Tv.nodes]) (by omega) (rw_ (i:=1) rfl) (.push (v:=.int 1) (st:=[iv ((x+1:Nat):Int)]) rfl)
  have t3:TR (blocks way n kind often) most ⟨fs++ [⟨nB th,5+(B7 way n).length+1+1+1,[iv ((x+1:Nat):Int)],[iv (x:Nat)]⟩],none,r+4+1+1+1,c,m⟩ 1 ⟨fs++ [⟨nB th,5+(B7 way n).length+1+1,[iv ((x+1:Nat):Int)],[iv ((x+1:Nat):Int),iv 1]⟩],none,r+4+1+1,c,m⟩:=
   own1 (st:=[iv ((x+1:Nat):Int),iv 1]) hb (by simp) (by simp) (by simp[Tv.nodes]) (by omega) (rw_ (i:=2) rfl) (.twoV (k:=1) (a:=((x+1:Nat):Int)) (b:=1) (st:=[]) (by decide) hbx bd1 (YI (by omega)) rfl)
  exact t0.cat (t1.cat (t2.cat t3))
 |true=>
  have e:bf kind th=1:=by unfold bf;rw[hf];rfl
  have ea:ahead kind th=[.fn (nB (nxB kind th)) .nil]:=by unfold ahead;rw[hf];rfl
  have rw_:∀ {i:Nat} {w:Rw} {sl st:List Tv},(again true (nB (nxB kind th)))[i]? =some w->U7 (blocks way n kind often) ⟨nB th,5+(B7 way n).length+i,sl,st⟩=some w:=λh=>P9 th (by rw[hf];exact h)
  rw[e,ea]
  have s1:TR (blocks way n kind often) most ⟨fs++ [⟨nB th,5+(B7 way n).length+1,[iv ((x+1:Nat):Int)],[.fn (nB (nxB kind th)) .nil]⟩],none,r+4+1,c,m+1⟩ 1 ⟨fs++ [⟨nB th,5+(B7 way n).length,[iv ((x+1:Nat):Int)],[]⟩],none,r+4,c,m⟩:=
   bDZ (st:=[]) hb (by simp) (by simp) (by simp[Tv.nodes]) (by omega) (rw_ (i:=0) rfl) (.close (st:=[]) (xs:=[]) rfl (by decide))
  have t1:TR (blocks way n kind often) most ⟨fs++ [⟨nB th,5+(B7 way n).length+1+1,[iv ((x+1:Nat):Int)],[.fn (nB (nxB kind th)) .nil,iv ((x+1:Nat):Int)]⟩],none,r+4+1+1,c,m+1⟩ 1 ⟨fs++ [⟨nB th,5+(B7 way n).length+1,[iv ((x+1:Nat):Int)],[.fn (nB (nxB kind th)) .nil]⟩],none,r+4+1,c,m+1⟩:=
   own1 (st:=[.fn (nB (nxB kind th)) .nil]) hb (by simp) (by simp) (by simp[Tv.nodes]) hn (rw_ (i:=1) rfl) (.load (j:=0) (st:=[.fn (nB (nxB kind th)) .nil]) rfl)
  have t2:TR (blocks way n kind often) most ⟨fs++ [⟨nB th,5+(B7 way n).length+1+1+1,[iv ((x+1:Nat):Int)],[.fn (nB (nxB kind th)) .nil,iv ((x+1:Nat):Int),iv 1]⟩],none,r+4+1+1+1,c,m+1⟩ 1 ⟨fs++ [⟨nB th,5+(B7 way n).length+1+1,[iv ((x+1:Nat):Int)],[.fn (nB (nxB kind th)) .nil,iv ((x+1:Nat):Int)]⟩],none,r+4+1+1,c,m+1⟩:=
   own1 (st:=[.fn (nB (nxB kind th)) .nil,iv ((x+1:Nat):Int)]) hb (by simp) (by simp) (by simp[Tv.nodes]) hn (rw_ (i:=2) rfl) (.push (v:=.int 1) (st:=[.fn (nB (nxB kind th)) .nil,iv ((x+1:Nat):Int)]) rfl)
  have t3:TR (blocks way n kind often) most ⟨fs++ [⟨nB th,5+(B7 way n).length+1+1+1+1,[iv ((x+1:Nat):Int)],[.fn (nB (nxB kind th)) .nil,iv (x:Nat)]⟩],none,r+4+1+1+1+1,c,m+1⟩ 1 ⟨fs++ [⟨nB th,5+(B7 way n).length+1+1+1,[iv ((x+1:Nat):Int)],[.fn (nB (nxB kind th)) .nil,iv ((x+1:Nat):Int),iv 1]⟩],none,r+4+1+1+1,c,m+1⟩:=
   own1 (st:=[.fn (nB (nxB kind th)) .nil,iv ((x+1:Nat):Int),iv 1]) hb (by simp) (by simp) (by simp[Tv.nodes]) hn (rw_ (i:=3) rfl) (.twoV (k:=1) (a:=((x+1:Nat):Int)) (b:=1) (st:=[.fn (nB (nxB kind th)) .nil]) (by decide) hbx bd1 (YI (by omega)) rfl)
  exact t0.cat (s1.cat (t1.cat (t2.cat t3)))
theorem TN(hb:BaseG fs)(hl:fs.length+1<=59)(x:Int):BaseG (fs++ [GW way n kind th x]):=by
 refine⟨by rw[length_append];exact hl,λf hf=> ?_, ?_⟩
 ·rcases mem_append.mp hf with hf|hf
  ·exact hb.fr f hf
  ·rw[sZ hf]
   exact⟨Nat.le_refl _,zero_le _⟩
 ·rw[flatMap_append,map_append,sum_append]
  have:=hb.few
  simp only[GW,flatMap_cons,List.flatMap_nil,append_nil,map_cons,map_nil,sum_cons,sum_nil,Tv.nodes]
  omega
theorem GS(hb:BaseG fs)(x:Nat):∃w,FK w/\U7 (blocks way n kind often) ⟨nB th,5+(B7 way n).length+(3+bf kind th),[iv ((x+1:Nat):Int)],ahead kind th++ [iv (x:Nat)]⟩=some w/\
  ∀ {fs:List Tf} {r c m:Nat},c<most->fs.length+1<60->ActT (blocks way n kind often) most fs ⟨nB th,5+(B7 way n).length+(3+bf kind th),[iv ((x+1:Nat):Int)],ahead kind th++ [iv (x:Nat)]⟩ r c m w ⟨fs++ [GW way n kind th ((x+1:Nat):Int)]++ [⟨nB (nxB kind th),0,[iv (x:Nat)],[]⟩],none,r+1,c+1,m⟩:=by
 have hbk:=FR (way:=way) (n:=n) (kind:=kind) (often:=often) (nxB kind th)
 cases hf:fnB kind th with
 |false=>
  have e:bf kind th=0:=by unfold bf;rw[hf];rfl
  have ea:ahead kind th=[]:=by unfold ahead;rw[hf];rfl
  refine⟨.call (nB (nxB kind th)) 1,.inl ⟨_,_,rfl⟩, ?_,λ{fs' r' c' m'} h1 h2=> ?_⟩
  ·rw[e];exact P9 th (by rw[hf];rfl)
  ·have:=ActT.call (r:=r') (n:=m') (bs:=blocks way n kind often) (most:=most) (f:=⟨nB th,5+(B7 way n).length+(3+bf kind th),[iv ((x+1:Nat):Int)],ahead kind th++ [iv (x:Nat)]⟩) (st:=[]) (xs:=[iv (x:Nat)]) h1 h2 (by rw[ea]) hbk (by show 1<=1;omega)
   unfold GW
   rw[e]at this⊢
   exact this
 |true=>
  have e:bf kind th=1:=by unfold bf;rw[hf];rfl
  have ea:ahead kind th=[.fn (nB (nxB kind th)) .nil]:=by unfold ahead;rw[hf];rfl
  refine⟨.apply,.inr rfl, ?_,λ{fs' r' c' m'} h1 h2=> ?_⟩
  ·rw[e];exact P9 th (by rw[hf];rfl)
  ·have:=ActT.apply (r:=r') (n:=m') (bs:=blocks way n kind often) (most:=most) (f:=⟨nB th,5+(B7 way n).length+(3+bf kind th),[iv ((x+1:Nat):Int)],ahead kind th++ [iv (x:Nat)]⟩) (st:=[]) (xs:=[]) (x:=iv (x:Nat)) h1 h2 (by rw[ea];rfl) hbk (by show 1<=1;omega)
   unfold GW
   rw[e]at this⊢
   exact this
theorem FV(kind:Nat)(th:Bool)(x:Nat)(y:Int):((ahead kind th++ [iv (x:Nat)]).length<=10)/\((([iv y]++(ahead kind th++ [iv (x:Nat)])).map Tv.nodes).sum<=30):=by
 unfold ahead
 cases fnB kind th<;>simp[Tv.nodes]
theorem dHZ(hb:BaseG fs)(hn:m+1<=500)(hc:c<most)(hl:fs.length+1<60)(x:Nat)(hx:x+1<=1000):
  TR (blocks way n kind often) most ⟨fs++ [GW way n kind th ((x+1:Nat):Int)]++ [⟨nB (nxB kind th),0,[iv (x:Nat)],[]⟩],none,r+(8+bf kind th),c+1,m+bf kind th⟩ (8+bf kind th) ⟨fs++ [⟨nB th,0,[iv ((x+1:Nat):Int)],[]⟩],none,r,c,m⟩:=by
 have t:=pre (way:=way) (n:=n) (kind:=kind) (often:=often) (most:=most) (r:=r) (c:=c) (th:=th) hb hn x hx
 obtain⟨w,_,hw,ha⟩:=GS (way:=way) (n:=n) (kind:=kind) (often:=often) (most:=most) (th:=th) hb x
 have hbf:bf kind th<=1:=by unfold bf;cases fnB kind th<;>decide
 obtain⟨a1,a2⟩:=FV kind th x ((x+1:Nat):Int)
 have t2:TR (blocks way n kind often) most _ 1 _:=.step (FW (k:=nB th) (a:=5+(B7 way n).length+(3+bf kind th)) (r:=r+(7+bf kind th)) (c:=c) hb (by simp) a1 a2 (by omega:m+bf kind th<=500)) rfl ⟨fs,_,_,c,_,w,rfl,hw,ha hc hl⟩ .done
 have:=t.cat t2
 rw[show 7+bf kind th+1=8+bf kind th by omega,show r+(7+bf kind th)+1=r+(8+bf kind th) by omega]at this
 exact this
theorem dJZ(hb:BaseG fs)(hn:m+1<=500)(hc:most<=c)(x:Nat)(hx:x+1<=1000):
  TR (blocks way n kind often) most ⟨[],some .dry,r+(8+bf kind th),c,m+bf kind th⟩ (8+bf kind th) ⟨fs++ [⟨nB th,0,[iv ((x+1:Nat):Int)],[]⟩],none,r,c,m⟩:=by
 have t:=pre (way:=way) (n:=n) (kind:=kind) (often:=often) (most:=most) (r:=r) (c:=c) (th:=th) hb hn x hx
 obtain⟨w,hic,hw,_⟩:=GS (way:=way) (n:=n) (kind:=kind) (often:=often) (most:=most) (th:=th) hb x
 have hbf:bf kind th<=1:=by unfold bf;cases fnB kind th<;>decide
 obtain⟨a1,a2⟩:=FV kind th x ((x+1:Nat):Int)
 have t2:TR (blocks way n kind often) most _ 1 _:=.step (FW (k:=nB th) (a:=5+(B7 way n).length+(3+bf kind th)) (r:=r+(7+bf kind th)) (c:=c) hb (by simp) a1 a2 (by omega:m+bf kind th<=500)) rfl ⟨fs,_,_,c,_,w,rfl,hw,.dry hic hc⟩ .done
 have:=t.cat t2
 rw[show 7+bf kind th+1=8+bf kind th by omega,show r+(7+bf kind th)+1=r+(8+bf kind th) by omega]at this
 exact this
theorem cQZ(hb:BaseG fs)(hn:m+1<=500)(hc:c<most)(hl:60<=fs.length+1)(x:Nat)(hx:x+1<=1000):
  TR (blocks way n kind often) most ⟨[],some .deep,r+(8+bf kind th),c+1,m+bf kind th⟩ (8+bf kind th) ⟨fs++ [⟨nB th,0,[iv ((x+1:Nat):Int)],[]⟩],none,r,c,m⟩:=by
 have t:=pre (way:=way) (n:=n) (kind:=kind) (often:=often) (most:=most) (r:=r) (c:=c) (th:=th) hb hn x hx
 obtain⟨w,hic,hw,_⟩:=GS (way:=way) (n:=n) (kind:=kind) (often:=often) (most:=most) (th:=th) hb x
 have hbf:bf kind th<=1:=by unfold bf;cases fnB kind th<;>decide
 obtain⟨a1,a2⟩:=FV kind th x ((x+1:Nat):Int)
 have t2:TR (blocks way n kind often) most _ 1 _:=.step (FW (k:=nB th) (a:=5+(B7 way n).length+(3+bf kind th)) (r:=r+(7+bf kind th)) (c:=c) hb (by simp) a1 a2 (by omega:m+bf kind th<=500)) rfl ⟨fs,_,_,c,_,w,rfl,hw,.deep hic hc hl⟩ .done
 have:=t.cat t2
 rw[show 7+bf kind th+1=8+bf kind th by omega,show r+(7+bf kind th)+1=r+(8+bf kind th) by omega]at this
 exact this
noncomputable def R4(way:Nat)(n:Int):PL.Pv:=if way=0 then .int n else .cons (.int n) (.cons (.int 5) .nil)
noncomputable def rfW(way:Nat):Str:=match way with|2=> "nought"|3=> "great"|4=> "head"|_=> "tail"
def GI(way:Nat):Nat:=if way=1 then 2 else 0
theorem aGZ(hb:BaseG fs)(hw:way<2)(hn:m+2<=500)(hB:Bd n):
  TR (blocks way n kind often) most ⟨fs++ [⟨nB th,4+(B7 way n).length,[iv 0],[Q7 (R4 way n)]⟩],none,r+(B7 way n).length,c,m+GI way⟩ (B7 way n).length ⟨fs++ [⟨nB th,4,[iv 0],[]⟩],none,r,c,m⟩:=by
 have h01:way=0\/way=1:=by omega
 rcases h01 with rfl|rfl
 ·have t1:TR (blocks 0 n kind often) most ⟨fs++ [⟨nB th,5,[iv 0],[iv n]⟩],none,r+1,c,m⟩ 1 ⟨fs++ [⟨nB th,4,[iv 0],[]⟩],none,r,c,m⟩:=
   own1 (st:=[]) hb (by simp) (by simp) (by simp[Tv.nodes]) (by omega) (G1 th (i:=0) rfl) (.push (v:=.int n) (st:=[]) rfl)
  exact t1
 ·have t1:TR (blocks 1 n kind often) most ⟨fs++ [⟨nB th,5,[iv 0],[iv n]⟩],none,r+1,c,m⟩ 1 ⟨fs++ [⟨nB th,4,[iv 0],[]⟩],none,r,c,m⟩:=
   own1 (st:=[]) hb (by simp) (by simp) (by simp[Tv.nodes]) (by omega) (G1 th (i:=0) rfl) (.push (v:=.int n) (st:=[]) rfl)
  have t2:TR (blocks 1 n kind often) most ⟨fs++ [⟨nB th,6,[iv 0],[iv n,iv 5]⟩],none,r+2,c,m⟩ 1 ⟨fs++ [⟨nB th,5,[iv 0],[iv n]⟩],none,r+1,c,m⟩:=
   own1 (st:=[iv n]) hb (by simp) (by simp) (by simp[Tv.nodes]) (by omega) (G1 th (i:=1) rfl) (.push (v:=.int 5) (st:=[iv n]) rfl)
  have t3:TR (blocks 1 n kind often) most ⟨fs++ [⟨nB th,7,[iv 0],[iv n,iv 5,.sc .non]⟩],none,r+3,c,m⟩ 1 ⟨fs++ [⟨nB th,6,[iv 0],[iv n,iv 5]⟩],none,r+2,c,m⟩:=
   own1 (st:=[iv n,iv 5]) hb (by simp) (by simp) (by simp[Tv.nodes]) (by omega) (G1 th (i:=2) rfl) (.non (st:=[iv n,iv 5]))
  have t4:TR (blocks 1 n kind often) most ⟨fs++ [⟨nB th,8,[iv 0],[iv n,.pair (iv 5) (.sc .non)]⟩],none,r+4,c,m+1⟩ 1 ⟨fs++ [⟨nB th,7,[iv 0],[iv n,iv 5,.sc .non]⟩],none,r+3,c,m⟩:=
   bDZ (st:=[iv n,iv 5,.sc .non]) hb (by simp) (by simp) (by simp[Tv.nodes]) (by omega) (G1 th (i:=3) rfl) (.cons (st:=[iv n]))
  have t5:TR (blocks 1 n kind often) most ⟨fs++ [⟨nB th,9,[iv 0],[.pair (iv n) (.pair (iv 5) (.sc .non))]⟩],none,r+5,c,m+2⟩ 1 ⟨fs++ [⟨nB th,8,[iv 0],[iv n,.pair (iv 5) (.sc .non)]⟩],none,r+4,c,m+1⟩:=
   bDZ (st:=[iv n,.pair (iv 5) (.sc .non)]) hb (by simp) (by simp) (by simp[Tv.nodes]) (by omega) (G1 th (i:=4) rfl) (.cons (st:=[]))
  exact t1.cat (t2.cat (t3.cat (t4.cat t5)))
theorem aSZ(hb:BaseG fs)(hw:2<=way)(hw6:way<6)(hn:m+2<=500)(hB:Bd n):
  TR (blocks way n kind often) most ⟨[],some (.refused (rfW way)),r+(B7 way n).length,c,m⟩ (B7 way n).length ⟨fs++ [⟨nB th,4,[iv 0],[]⟩],none,r,c,m⟩:=by
 have h01:way=2\/way=3\/way=4\/way=5:=by omega
 have hG:Bd GR:=⟨by show -NM.GR<=NM.GR;decide,Int.le_refl _⟩
 rcases h01 with rfl|rfl|rfl|rfl
 ·have t1:TR (blocks 2 n kind often) most ⟨fs++ [⟨nB th,5,[iv 0],[iv n]⟩],none,r+1,c,m⟩ 1 ⟨fs++ [⟨nB th,4,[iv 0],[]⟩],none,r,c,m⟩:=
   own1 (st:=[]) hb (by simp) (by simp) (by simp[Tv.nodes]) (by omega) (G1 th (i:=0) rfl) (.push (v:=.int n) (st:=[]) rfl)
  have t2:TR (blocks 2 n kind often) most ⟨fs++ [⟨nB th,6,[iv 0],[iv n,iv 0]⟩],none,r+2,c,m⟩ 1 ⟨fs++ [⟨nB th,5,[iv 0],[iv n]⟩],none,r+1,c,m⟩:=
   own1 (st:=[iv n]) hb (by simp) (by simp) (by simp[Tv.nodes]) (by omega) (G1 th (i:=1) rfl) (.push (v:=.int 0) (st:=[iv n]) rfl)
  have t3:TR (blocks 2 n kind often) most ⟨[],some (.refused "nought"),r+3,c,m⟩ 1 ⟨fs++ [⟨nB th,6,[iv 0],[iv n,iv 0]⟩],none,r+2,c,m⟩:=
   rf1 (st:=[iv n,iv 0]) hb (by simp) (by simp) (by simp[Tv.nodes]) (by omega) (G1 th (i:=2) rfl) (.twoR (k:=5) (a:=n) (b:=0) (st:=[]) (by decide) hB bd0 rfl)
  exact t1.cat (t2.cat t3)
 ·have t1:TR (blocks 3 n kind often) most ⟨fs++ [⟨nB th,5,[iv 0],[iv GR]⟩],none,r+1,c,m⟩ 1 ⟨fs++ [⟨nB th,4,[iv 0],[]⟩],none,r,c,m⟩:=
   own1 (st:=[]) hb (by simp) (by simp) (by simp[Tv.nodes]) (by omega) (G1 th (i:=0) rfl) (.push (v:=.int GR) (st:=[]) rfl)
  have t2:TR (blocks 3 n kind often) most ⟨fs++ [⟨nB th,6,[iv 0],[iv GR,iv GR]⟩],none,r+2,c,m⟩ 1 ⟨fs++ [⟨nB th,5,[iv 0],[iv GR]⟩],none,r+1,c,m⟩:=
   own1 (st:=[iv GR]) hb (by simp) (by simp) (by simp[Tv.nodes]) (by omega) (G1 th (i:=1) rfl) (.push (v:=.int GR) (st:=[iv GR]) rfl)
  have t3:TR (blocks 3 n kind often) most ⟨[],some (.refused "great"),r+3,c,m⟩ 1 ⟨fs++ [⟨nB th,6,[iv 0],[iv GR,iv GR]⟩],none,r+2,c,m⟩:=
   rf1 (st:=[iv GR,iv GR]) hb (by simp) (by simp) (by simp[Tv.nodes]) (by omega) (G1 th (i:=2) rfl) (.twoR (k:=0) (a:=GR) (b:=GR) (st:=[]) (by decide) hG hG (by show NM.bnd (GR+GR)=_;unfold NM.bnd;rw[if_pos (by decide)]))
  exact t1.cat (t2.cat t3)
 ·have t1:TR (blocks 4 n kind often) most ⟨fs++ [⟨nB th,5,[iv 0],[.sc .non]⟩],none,r+1,c,m⟩ 1 ⟨fs++ [⟨nB th,4,[iv 0],[]⟩],none,r,c,m⟩:=
   own1 (st:=[]) hb (by simp) (by simp) (by simp[Tv.nodes]) (by omega) (G1 th (i:=0) rfl) (.non (st:=[]))
  have t3:TR (blocks 4 n kind often) most ⟨[],some (.refused "head"),r+2,c,m⟩ 1 ⟨fs++ [⟨nB th,5,[iv 0],[.sc .non]⟩],none,r+1,c,m⟩:=
   rf1 (st:=[.sc .non]) hb (by simp) (by simp) (by simp[Tv.nodes]) (by omega) (G1 th (i:=1) rfl) (.headN (st:=[]))
  exact t1.cat t3
 ·have t1:TR (blocks 5 n kind often) most ⟨fs++ [⟨nB th,5,[iv 0],[.sc .non]⟩],none,r+1,c,m⟩ 1 ⟨fs++ [⟨nB th,4,[iv 0],[]⟩],none,r,c,m⟩:=
   own1 (st:=[]) hb (by simp) (by simp) (by simp[Tv.nodes]) (by omega) (G1 th (i:=0) rfl) (.non (st:=[]))
  have t3:TR (blocks 5 n kind often) most ⟨[],some (.refused "tail"),r+2,c,m⟩ 1 ⟨fs++ [⟨nB th,5,[iv 0],[.sc .non]⟩],none,r+1,c,m⟩:=
   rf1 (st:=[.sc .non]) hb (by simp) (by simp) (by simp[Tv.nodes]) (by omega) (G1 th (i:=1) rfl) (.tailN (st:=[]))
  exact t1.cat t3
end
structure Rs where
 e:Nat
 rows:Nat
 calls:Nat
 cells:Nat
noncomputable def res(way kind most len:Nat):Nat->Bool->Nat->Nat->Nat->Rs
 |0,_,_,c,m=>⟨if way<2 then 0 else 1,4+len,c,m+GI way⟩
 |x+1,th,d,c,m=>if most<=c then⟨2,8+bf kind th,c,m+bf kind th⟩else if 60<=d+1 then⟨3,8+bf kind th,c+1,m+bf kind th⟩else
  ⟨(res way kind most len x (nxB kind th) (d+1) (c+1) (m+bf kind th)).e,8+bf kind th+(res way kind most len x (nxB kind th) (d+1) (c+1) (m+bf kind th)).rows+(if(res way kind most len x (nxB kind th) (d+1) (c+1) (m+bf kind th)).e=0 then 1 else 0),(res way kind most len x (nxB kind th) (d+1) (c+1) (m+bf kind th)).calls,(res way kind most len x (nxB kind th) (d+1) (c+1) (m+bf kind th)).cells⟩
theorem YE(kind:Nat)(th:Bool):bf kind th<=1:=by unfold bf;cases fnB kind th<;>decide
theorem Y9(way kind most len:Nat):∀(x:Nat) (th:Bool) (d c m:Nat),(res way kind most len x th d c m).cells<=m+x+2
 |0,_,_,_,m=>by
  show m+GI way<=m+0+2
  unfold GI
  split<;>omega
 |x+1,th,d,c,m=>by
  have h:=YE kind th
  have h2:=Y9 way kind most len x (nxB kind th) (d+1) (c+1) (m+bf kind th)
  unfold res
  split
  ·show m+bf kind th<=_;omega
  ·split
   ·show m+bf kind th<=_;omega
   ·show(res way kind most len x (nxB kind th) (d+1) (c+1) (m+bf kind th)).cells<=_;omega
section
variable{way:Nat}{n:Int}{kind often most:Nat}
def dPZ(way:Nat)(n:Int)(kind often:Nat)(fs:List Tf)(R:Rs)(r:Nat)(T:Tm):Prop:=
 (R.e=0/\∃f:Tf,T=⟨fs++ [f],none,r+R.rows,R.calls,R.cells⟩/\f.st=[Q7 (R4 way n)]/\U7 (blocks way n kind often) f=some .back/\f.sl.length<=1/\(f.sl.map Tv.nodes).sum=0)\/
 (R.e=1/\T=⟨[],some (.refused (rfW way)),r+R.rows,R.calls,R.cells⟩)\/(R.e=2/\T=⟨[],some .dry,r+R.rows,R.calls,R.cells⟩)\/(R.e=3/\T=⟨[],some .deep,r+R.rows,R.calls,R.cells⟩)
theorem T2(way:Nat)(n:Int):(Q7 (R4 way n)).nodes<=2:=by
 unfold R4
 split<;>simp[Q7,Tv.nodes]
theorem go(hw6:way<6)(hB:Bd n):∀(x:Nat) (th:Bool) (fs:List Tf) (r c m:Nat),BaseG fs->x<=1000->m+x+2<=500->
  ∃T,dPZ way n kind often fs (res way kind most (B7 way n).length x th fs.length c m) r T/\TR (blocks way n kind often) most T (res way kind most (B7 way n).length x th fs.length c m).rows ⟨fs++ [⟨nB th,0,[iv (x:Nat)],[]⟩],none,r,c,m⟩
 |0,th,fs,r,c,m,hb,hx,hm=>by
  have t0:=ask (way:=way) (n:=n) (kind:=kind) (often:=often) (most:=most) (r:=r) (c:=c) (th:=th) hb (m:=m) (by omega) 0 (by omega)
  rw[if_pos rfl]at t0
  by_cases hw:way<2
  ·have t1:=aGZ (way:=way) (kind:=kind) (often:=often) (most:=most) (r:=r+4) (c:=c) (th:=th) hb hw (m:=m) (by omega) hB
   refine⟨_,.inl ⟨if_pos hw,⟨nB th,4+(B7 way n).length,[iv 0],[Q7 (R4 way n)]⟩,rfl,rfl,G1 th (i:=(B7 way n).length) (by simp),by simp,by simp[Tv.nodes]⟩, ?_⟩
   have:=t0.cat t1
   rw[Nat.add_assoc]at this
   exact this
  ·have t1:=aSZ (way:=way) (kind:=kind) (often:=often) (most:=most) (r:=r+4) (c:=c) (th:=th) hb (by omega) hw6 (m:=m) (by omega) hB
   have em:GI way=0:=by unfold GI;rw[if_neg (by omega)]
   refine⟨⟨[],some (.refused (rfW way)),r+(4+(B7 way n).length),c,m⟩,.inr (.inl ⟨if_neg hw, ?_⟩), ?_⟩
   ·show _=(⟨[],some (.refused (rfW way)),r+(4+(B7 way n).length),c,m+GI way⟩:Tm)
    rw[em];rfl
   ·have:=t0.cat t1
    rw[Nat.add_assoc]at this
    exact this
 |x+1,th,fs,r,c,m,hb,hx,hm=>by
  have hbf:=YE kind th
  by_cases hc:most<=c
  ·have e:res way kind most (B7 way n).length (x+1) th fs.length c m=⟨2,8+bf kind th,c,m+bf kind th⟩:=by unfold res;rw[if_pos hc]
   rw[e]
   exact⟨_,.inr (.inr (.inl ⟨rfl,rfl⟩)),dJZ hb (by omega) hc x (by omega)⟩
  ·by_cases hl:60<=fs.length+1
   ·have e:res way kind most (B7 way n).length (x+1) th fs.length c m=⟨3,8+bf kind th,c+1,m+bf kind th⟩:=by unfold res;rw[if_neg hc,if_pos hl]
    rw[e]
    exact⟨_,.inr (.inr (.inr ⟨rfl,rfl⟩)),cQZ hb (by omega) (by omega) hl x (by omega)⟩
   ·have t1:=dHZ (way:=way) (n:=n) (kind:=kind) (often:=often) (most:=most) (r:=r) (th:=th) hb (m:=m) (by omega) (show c<most by omega) (by omega) x (by omega)
    have hb2:=TN (way:=way) (n:=n) (kind:=kind) (th:=th) hb (by omega) ((x+1:Nat):Int)
    obtain⟨T,hE,hT⟩:=go hw6 hB x (nxB kind th) (fs++ [GW way n kind th ((x+1:Nat):Int)]) (r+(8+bf kind th)) (c+1) (m+bf kind th) hb2 (by omega) (by omega)
    have el:(fs++ [GW way n kind th ((x+1:Nat):Int)]).length=fs.length+1:=by rw[length_append];rfl
    rw[el]at hE hT
    have e:res way kind most (B7 way n).length (x+1) th fs.length c m=⟨(res way kind most (B7 way n).length x (nxB kind th) (fs.length+1) (c+1) (m+bf kind th)).e,8+bf kind th+(res way kind most (B7 way n).length x (nxB kind th) (fs.length+1) (c+1) (m+bf kind th)).rows+(if(res way kind most (B7 way n).length x (nxB kind th) (fs.length+1) (c+1) (m+bf kind th)).e=0 then 1 else 0),(res way kind most (B7 way n).length x (nxB kind th) (fs.length+1) (c+1) (m+bf kind th)).calls,(res way kind most (B7 way n).length x (nxB kind th) (fs.length+1) (c+1) (m+bf kind th)).cells⟩:=by
     conv=>lhs;unfold res
     rw[if_neg hc,if_neg hl]
    have hcl:=Y9 way kind most (B7 way n).length x (nxB kind th) (fs.length+1) (c+1) (m+bf kind th)
    rw[e]
    generalize res way kind most (B7 way n).length x (nxB kind th) (fs.length+1) (c+1) (m+bf kind th)=R at hE hT hcl⊢
    have t2:=t1.cat hT
    rcases hE with⟨he,f,rfl,hst,hrow,h1,h2⟩|⟨he,rfl⟩|⟨he,rfl⟩|⟨he,rfl⟩
    ·have hv:=T2 way n
     have t3:TR (blocks way n kind often) most ⟨fs++ [⟨nB th,5+(B7 way n).length+(4+bf kind th),[iv ((x+1:Nat):Int)],[Q7 (R4 way n)]⟩],none,r+(8+bf kind th)+R.rows+1,R.calls,R.cells⟩ 1 ⟨fs++ [GW way n kind th ((x+1:Nat):Int)]++ [f],none,r+(8+bf kind th)+R.rows,R.calls,R.cells⟩:=by
      refine .step ?_ rfl ⟨fs++ [GW way n kind th ((x+1:Nat):Int)],f,_,_,_,_,rfl,hrow,.back (gs:=fs) (g:=GW way n kind th ((x+1:Nat):Int)) (st:=[]) rfl hst⟩ .done
      obtain⟨fk,fa,fsl,fst⟩:=f
      simp only at hst h1 h2
      subst hst
      exact FW hb2 h1 (by simp) (by rw[map_append,sum_append,h2];simp only[map_cons,map_nil,sum_cons,sum_nil];omega) (by omega)
     refine⟨_,.inl ⟨he,⟨nB th,5+(B7 way n).length+(4+bf kind th),[iv ((x+1:Nat):Int)],[Q7 (R4 way n)]⟩,rfl,rfl, ?_,by simp,by simp[Tv.nodes]⟩, ?_⟩
     ·cases hf:fnB kind th with
      |false=>rw[show bf kind th=0 by unfold bf;rw[hf];rfl];exact P9 th (by rw[hf];rfl)
      |true=>rw[show bf kind th=1 by unfold bf;rw[hf];rfl];exact P9 th (by rw[hf];rfl)
     ·have:=t2.cat t3
      rw[if_pos he]
      rw[show r+(8+bf kind th+R.rows+1)=r+(8+bf kind th)+R.rows+1 by omega]
      exact this
    ·refine⟨_,.inr (.inl ⟨he,rfl⟩), ?_⟩
     rw[if_neg (by omega),add_zero,<-Nat.add_assoc r]
     exact t2
    ·refine⟨_,.inr (.inr (.inl ⟨he,rfl⟩)), ?_⟩
     rw[if_neg (by omega),add_zero,<-Nat.add_assoc r]
     exact t2
    ·refine⟨_,.inr (.inr (.inr ⟨he,rfl⟩)), ?_⟩
     rw[if_neg (by omega),add_zero,<-Nat.add_assoc r]
     exact t2
end
noncomputable def dn(kind:Nat):Nat->Bool->Nat
 |0,_=>0
 |k+1,th=>8+bf kind th+dn kind k (nxB kind th)
theorem GD(way kind most len:Nat):∀(x:Nat) (th:Bool) (d c m:Nat),c<=most->d<=59->
  (most - c+1<=x/\most - c+1<=60 - d->(res way kind most len x th d c m).e=2/\(res way kind most len x th d c m).rows=dn kind (most - c+1) th/\(res way kind most len x th d c m).calls=most)/\
  (60 - d<=x/\60 - d<most - c+1->(res way kind most len x th d c m).e=3/\(res way kind most len x th d c m).rows=dn kind (60 - d) th/\(res way kind most len x th d c m).calls=c+(60 - d))/\
  (x<most - c+1/\x<60 - d->(res way kind most len x th d c m).e=(if way<2 then 0 else 1)/\(res way kind most len x th d c m).rows=dn kind x th+4+len+(if way<2 then x else 0)/\(res way kind most len x th d c m).calls=c+x)
 |0,th,d,c,m,hc,hd=>by
  refine⟨λ⟨h,_⟩=>absurd h (by omega),λ⟨h,_⟩=>absurd h (by omega),λ_=>⟨rfl, ?_,rfl⟩⟩
  show 4+len=dn kind 0 th+4+len+_
  unfold dn
  split<;>omega
 |x+1,th,d,c,m,hc,hd=>by
  by_cases h1:most<=c
  ·have e:res way kind most len (x+1) th d c m=⟨2,8+bf kind th,c,m+bf kind th⟩:=by unfold res;rw[if_pos h1]
   have ec:most - c=0:=by omega
   rw[e,ec]
   refine⟨λ_=>⟨rfl,rfl,by show c=most;omega⟩,λ⟨_,h⟩=>absurd h (by omega),λ⟨h,_⟩=>absurd h (by omega)⟩
  ·by_cases h2:60<=d+1
   ·have e:res way kind most len (x+1) th d c m=⟨3,8+bf kind th,c+1,m+bf kind th⟩:=by unfold res;rw[if_neg h1,if_pos h2]
    have ed:60 - d=1:=by omega
    rw[e,ed]
    refine⟨λ⟨_,h⟩=>absurd h (by omega),λ_=>⟨rfl,rfl,rfl⟩,λ⟨_,h⟩=>absurd h (by omega)⟩
   ·have ih:=GD way kind most len x (nxB kind th) (d+1) (c+1) (m+bf kind th) (by omega) (by omega)
    have e:res way kind most len (x+1) th d c m=⟨(res way kind most len x (nxB kind th) (d+1) (c+1) (m+bf kind th)).e,8+bf kind th+(res way kind most len x (nxB kind th) (d+1) (c+1) (m+bf kind th)).rows+(if(res way kind most len x (nxB kind th) (d+1) (c+1) (m+bf kind th)).e=0 then 1 else 0),(res way kind most len x (nxB kind th) (d+1) (c+1) (m+bf kind th)).calls,(res way kind most len x (nxB kind th) (d+1) (c+1) (m+bf kind th)).cells⟩:=by
     conv=>lhs;unfold res
     rw[if_neg h1,if_neg h2]
    rw[e]
    generalize res way kind most len x (nxB kind th) (d+1) (c+1) (m+bf kind th)=R at ih⊢
    obtain⟨i1,i2,i3⟩:=ih
    obtain⟨mo,hmo⟩:∃mo,most - c=mo+1:=⟨most - c - 1,by omega⟩
    obtain⟨wd,hwd⟩:∃wd,60 - d=wd+1:=⟨60 - d - 1,by omega⟩
    have hmo':most - (c+1)=mo:=by omega
    have hwd':60 - (d+1)=wd:=by omega
    rw[hmo']at i1 i2 i3
    rw[hwd']at i1 i2 i3
    rw[hmo,hwd]
    refine⟨λh=> ?_,λh=> ?_,λh=> ?_⟩
    ·obtain⟨a,b,c'⟩:=i1 (by omega)
     refine⟨a, ?_,c'⟩
     show 8+bf kind th+R.rows+(if R.e=0 then 1 else 0)=8+bf kind th+dn kind (mo+1) (nxB kind th)
     rw[a,b,if_neg (by decide)]
     omega
    ·obtain⟨a,b,c'⟩:=i2 (by omega)
     refine⟨a, ?_,by show R.calls=_;omega⟩
     show 8+bf kind th+R.rows+(if R.e=0 then 1 else 0)=8+bf kind th+dn kind wd (nxB kind th)
     rw[a,b,if_neg (by decide)]
     omega
    ·obtain⟨a,b,c'⟩:=i3 (by omega)
     refine⟨a, ?_,by show R.calls=_;omega⟩
     show 8+bf kind th+R.rows+(if R.e=0 then 1 else 0)=8+bf kind th+dn kind x (nxB kind th)+4+len+(if way<2 then x+1 else 0)
     rw[b]
     by_cases hw:way<2
     ·rw[if_pos hw]at a
      rw[if_pos hw,if_pos hw,if_pos a];omega
     ·rw[if_neg hw]at a
      rw[if_neg hw,if_neg hw,if_neg (by omega)];omega
noncomputable def lev(kind t:Nat):Nat:=8+if kind=1\/(kind=2/\t%2=1)then 1 else 0
theorem bIZ(kind t:Nat):8+bf kind (decide (kind=2/\t%2=1))=lev kind t:=by
 unfold bf lev fnB
 by_cases h1:kind=1
 ·subst h1;simp
 ·by_cases h2:kind=2/\t%2=1
  ·simp[h2]
  ·simp[h1,h2]
theorem csZ(kind t:Nat):nxB kind (decide (kind=2/\t%2=1))=decide (kind=2/\(t+1)%2=1):=by
 unfold nxB
 by_cases h2:kind=2
 ·subst h2
  by_cases h:t%2=1
  ·simp[h];omega
  ·simp[h];omega
 ·simp[h2]
theorem YQ(kind:Nat):∀(k t:Nat),dn kind k (decide (kind=2/\t%2=1))=((List.range k).map λi=>lev kind (t+i)).sum
 |0,t=>rfl
 |k+1,t=>by
  show 8+bf kind _+dn kind k (nxB kind _)=_
  rw[bIZ,csZ,YQ kind k (t+1),List.range_succ_eq_map,map_cons,sum_cons,map_map]
  congr 2
  apply List.map_congr_left
  intro i _
  show lev kind (t+1+i)=lev kind (t+(i+1))
  congr 1
  omega
theorem dn0(kind k:Nat):dn kind k false=((List.range k).map λi=>lev kind i).sum:=by
 have:=YQ kind k 0
 simp only[Nat.zero_mod]at this
 have e:(decide (kind=2/\(0:Nat)=1))=false:=by simp
 rw[e]at this
 rw[this]
 congr 1
 apply List.map_congr_left
 intro i _
 rw[zero_add]
theorem EV:∀(i k j:Nat),(Z8 (k+i))[2*i+j]? =(Z8 k)[j]?
 |0,k,j=>by rw[Nat.mul_zero,zero_add];rfl
 |i+1,k,j=>by
  have e:2*(i+1)+j=2*i+j+1+1:=by omega
  rw[e]
  exact EV i k j
noncomputable def ofn(way kind most len x:Nat):Nat->Nat->Nat->Nat->Rs
 |0,r,c,m=>⟨0,r+1,c,m⟩
 |k+1,r,c,m=>if most<=c then⟨2,r+2,c,m⟩else if(res way kind most len x false 1 (c+1) m).e=0 then ofn way kind most len x k (r+2+(res way kind most len x false 1 (c+1) m).rows+1) (res way kind most len x false 1 (c+1) m).calls (res way kind most len x false 1 (c+1) m).cells
  else⟨(res way kind most len x false 1 (c+1) m).e,r+2+(res way kind most len x false 1 (c+1) m).rows,(res way kind most len x false 1 (c+1) m).calls,(res way kind most len x false 1 (c+1) m).cells⟩
noncomputable def ouT(way:Nat)(n:Int):Nat->To
 |0=> .value (Q7 (R4 way n))
 |1=> .refused (rfW way)
 |2=> .dry
 |_=> .deep
section
variable{way:Nat}{n:Int}{kind often most:Nat}
theorem X7:BaseG []:=⟨zero_le _,λf hf=>(nomatch hf),zero_le _⟩
theorem bSZ(hw6:way<6)(hB:Bd n)(x:Nat)(hx:x<=400):
  ∃e rows calls cells,(e=(res way kind most (B7 way n).length x false 0 0 0).e/\rows=(res way kind most (B7 way n).length x false 0 0 0).rows+(if e=0 then 1 else 0)/\calls=(res way kind most (B7 way n).length x false 0 0 0).calls)/\
   TR (blocks way n kind often) most ⟨[],some (ouT way n e),rows,calls,cells⟩ rows ⟨[R9 1 1 [iv (x:Nat)]],none,0,0,0⟩:=by
 obtain⟨T,hE,hT⟩:=go (way:=way) (n:=n) (kind:=kind) (often:=often) (most:=most) hw6 hB x false [] 0 0 0 X7 (by omega) (by omega)
 have hcl:=Y9 way kind most (B7 way n).length x false 0 0 0
 have es:([]:List Tf).length=0:=rfl
 rw[es]at hE hT
 generalize res way kind most (B7 way n).length x false 0 0 0=R at hE hT hcl⊢
 rcases hE with⟨he,f,rfl,hst,hrow,h1,h2⟩|⟨he,rfl⟩|⟨he,rfl⟩|⟨he,rfl⟩
 ·refine⟨0,R.rows+1,R.calls,R.cells,⟨he.symm,rfl,rfl⟩, ?_⟩
  have hv:=T2 way n
  have t3:TR (blocks way n kind often) most ⟨[],some (ouT way n 0),0+R.rows+1,R.calls,R.cells⟩ 1 ⟨[]++ [f],none,0+R.rows,R.calls,R.cells⟩:=by
   refine .step ?_ rfl ⟨[],f,_,_,_,_,rfl,hrow,.last (st:=[]) rfl hst⟩ .done
   obtain⟨fk,fa,fsl,fst⟩:=f
   simp only at hst h1 h2
   subst hst
   exact FW X7 h1 (by simp) (by rw[map_append,sum_append,h2];simp only[map_cons,map_nil,sum_cons,sum_nil];omega) (by omega)
  have:=hT.cat t3
  rw[zero_add]at this
  exact this
 ·refine⟨1,R.rows,R.calls,R.cells,⟨he.symm,rfl,rfl⟩, ?_⟩
  rw[zero_add]at hT;exact hT
 ·refine⟨2,R.rows,R.calls,R.cells,⟨he.symm,rfl,rfl⟩, ?_⟩
  rw[zero_add]at hT;exact hT
 ·refine⟨3,R.rows,R.calls,R.cells,⟨he.symm,rfl,rfl⟩, ?_⟩
  rw[zero_add]at hT;exact hT
theorem UC{k:Nat}{x:Int}{vs:List Tv}(h1:vs.length<=4)(h2:(vs.map Tv.nodes).sum<=30):BaseG [⟨4,k,[iv x],vs⟩]:=by
 refine⟨by show 1<=59;omega,λf hf=> ?_, ?_⟩
 ·rw[sZ hf];exact⟨Nat.le_refl _,h1⟩
 ·simp only[flatMap_cons,List.flatMap_nil,append_nil,map_append,sum_append,map_cons,map_nil,sum_cons,sum_nil,Tv.nodes]
  omega
theorem YC(hw6:way<6)(hB:Bd n)(x:Nat)(hx:x<=100):∀(k i:Nat) (vs:List Tv) (r c m:Nat),k+i=often->often<=3->1<=often->vs=List.replicate i (Q7 (R4 way n))->c<=most->m+k*(x+2)+2<=500->
  ∃j,(ofn way kind most (B7 way n).length x k r c m).rows=r+j/\TR (blocks way n kind often) most ⟨[],some (ouT way n (ofn way kind most (B7 way n).length x k r c m).e),(ofn way kind most (B7 way n).length x k r c m).rows,(ofn way kind most (B7 way n).length x k r c m).calls,(ofn way kind most (B7 way n).length x k r c m).cells⟩ j ⟨[⟨4,2*i,[iv (x:Nat)],vs⟩],none,r,c,m⟩
 |0,i,vs,r,c,m,hki,ho3,ho1,hvs,hc,hm=>by
  refine⟨1,rfl, ?_⟩
  have hi:i≠0:=by omega
  obtain⟨i',rfl⟩:∃i',i=i'+1:=⟨i - 1,by omega⟩
  have hv:=T2 way n
  have ev:vs=List.replicate i' (Q7 (R4 way n))++ [Q7 (R4 way n)]:=by rw[hvs,List.replicate_succ']
  have hrow:U7 (blocks way n kind often) ⟨4,2*(i'+1),[iv (x:Nat)],vs⟩=some .back:=by
   show(some (⟨1,1,Z8 often⟩:Bk)).bind (λb=>b.rows[2*(i'+1)]?)=_
   rw[<-hki]
   exact EV (i'+1) 0 0
  refine .step ?_ rfl ⟨[],⟨4,2*(i'+1),[iv (x:Nat)],vs⟩,r,c,m,_,rfl,hrow,.last (st:=List.replicate i' (Q7 (R4 way n))) rfl ev⟩ .done
  refine FW (fs:=[]) X7 (by simp) (by rw[hvs,length_replicate];omega) ?_ (by omega)
  rw[hvs,map_append,sum_append,List.map_replicate,List.sum_replicate_nat]
  simp only[map_cons,map_nil,sum_cons,sum_nil,Tv.nodes]
  have:(i'+1)*(Q7 (R4 way n)).nodes<=3*2:=mul_le_mul (by omega) hv
  omega
 |k+1,i,vs,r,c,m,hki,ho3,ho1,hvs,hc,hm=>by
  have hv:=T2 way n
  have hvl:vs.length=i:=by rw[hvs,length_replicate]
  have hvn:(vs.map Tv.nodes).sum<=6:=by
   rw[hvs,List.map_replicate,List.sum_replicate_nat]
   have:i*(Q7 (R4 way n)).nodes<=3*2:=mul_le_mul (by omega) hv
   omega
  have hexp:(k+1)*(x+2)=k*(x+2)+(x+2):=Nat.succ_mul _ _
  have hr1:∀ {sl st:List Tv},U7 (blocks way n kind often) ⟨4,2*i,sl,st⟩=some (.own (.load 0)):=λ{sl st}=>by
   show(some (⟨1,1,Z8 often⟩:Bk)).bind (λb=>b.rows[2*i]?)=_
   rw[<-hki]
   exact EV i (k+1) 0
  have hr2:∀ {sl st:List Tv},U7 (blocks way n kind often) ⟨4,2*i+1,sl,st⟩=some (.call 1 1):=λ{sl st}=>by
   show(some (⟨1,1,Z8 often⟩:Bk)).bind (λb=>b.rows[2*i+1]?)=_
   rw[<-hki]
   exact EV i (k+1) 1
  have t1:TR (blocks way n kind often) most ⟨[]++ [⟨4,2*i+1,[iv (x:Nat)],vs++ [iv (x:Nat)]⟩],none,r+1,c,m⟩ 1 ⟨[]++ [⟨4,2*i,[iv (x:Nat)],vs⟩],none,r,c,m⟩:=
   own1 (st:=vs) X7 (by simp) (by omega) (by rw[map_append,sum_append];simp only[map_cons,map_nil,sum_cons,sum_nil,Tv.nodes];omega) (by omega) hr1 (.load (j:=0) rfl)
  have hg:GoodT ⟨[]++ [⟨4,2*i+1,[iv (x:Nat)],vs++ [iv (x:Nat)]⟩],none,r+1,c,m⟩:=FW X7 (by simp) (by rw[length_append];simp only[length_singleton];omega) (by rw[map_append,sum_append,map_append,sum_append];simp only[map_cons,map_nil,sum_cons,sum_nil,Tv.nodes];omega) (by omega)
  by_cases h1:most<=c
  ·have e:ofn way kind most (B7 way n).length x (k+1) r c m=⟨2,r+2,c,m⟩:=by unfold ofn;rw[if_pos h1]
   rw[e]
   refine⟨2,rfl,t1.cat (.step hg rfl ⟨[],_,_,_,_,_,rfl,hr2,.dry (.inl ⟨_,_,rfl⟩) h1⟩ .done)⟩
  ·have t2:TR (blocks way n kind often) most ⟨[⟨4,2*i+2,[iv (x:Nat)],vs⟩]++ [⟨nB false,0,[iv (x:Nat)],[]⟩],none,r+2,c+1,m⟩ 1 ⟨[]++ [⟨4,2*i+1,[iv (x:Nat)],vs++ [iv (x:Nat)]⟩],none,r+1,c,m⟩:=
    .step hg rfl ⟨[],_,_,_,_,_,rfl,hr2,.call (st:=vs) (xs:=[iv (x:Nat)]) (by omega) (by show 0+1<60;omega) rfl (FR false) (by show 1<=1;omega)⟩ .done
   have hb2:BaseG [⟨4,2*i+2,[iv (x:Nat)],vs⟩]:=UC (by omega) (by omega)
   obtain⟨T,hE,hT⟩:=go (way:=way) (n:=n) (kind:=kind) (often:=often) (most:=most) hw6 hB x false [⟨4,2*i+2,[iv (x:Nat)],vs⟩] (r+2) (c+1) m hb2 (by omega) (by omega)
   have hcl:=Y9 way kind most (B7 way n).length x false 1 (c+1) m
   have hes:=GD way kind most (B7 way n).length x false 1 (c+1) m (by omega) (by omega)
   have el:([⟨4,2*i+2,[iv (x:Nat)],vs⟩]:List Tf).length=1:=rfl
   rw[el]at hE hT
   have hle:(res way kind most (B7 way n).length x false 1 (c+1) m).e=0->(res way kind most (B7 way n).length x false 1 (c+1) m).calls<=most:=λh0=>by
    obtain⟨i1,i2,i3⟩:=hes
    by_cases q1:most - (c+1)+1<=x/\most - (c+1)+1<=60 - 1
    ·rw[(i1 q1).1]at h0;cases h0
    ·by_cases q2:60 - 1<=x/\60 - 1<most - (c+1)+1
     ·rw[(i2 q2).1]at h0;cases h0
     ·obtain⟨_,_,e3⟩:=i3 (by omega)
      rw[e3];omega
   conv at hE=>rw[show res way kind most (B7 way n).length x false 1 (c+1) m=res way kind most (B7 way n).length x false 1 (c+1) m from rfl]
   have eo:ofn way kind most (B7 way n).length x (k+1) r c m=if(res way kind most (B7 way n).length x false 1 (c+1) m).e=0 then ofn way kind most (B7 way n).length x k (r+2+(res way kind most (B7 way n).length x false 1 (c+1) m).rows+1) (res way kind most (B7 way n).length x false 1 (c+1) m).calls (res way kind most (B7 way n).length x false 1 (c+1) m).cells
     else⟨(res way kind most (B7 way n).length x false 1 (c+1) m).e,r+2+(res way kind most (B7 way n).length x false 1 (c+1) m).rows,(res way kind most (B7 way n).length x false 1 (c+1) m).calls,(res way kind most (B7 way n).length x false 1 (c+1) m).cells⟩:=by
    conv=>lhs;unfold ofn
    rw[if_neg h1]
   rw[eo]
   generalize res way kind most (B7 way n).length x false 1 (c+1) m=R at hE hT hcl hle⊢
   have t3:=t1.cat (t2.cat hT)
   rcases hE with⟨he,f,rfl,hst,hrow,h1',h2'⟩|⟨he,rfl⟩|⟨he,rfl⟩|⟨he,rfl⟩
   ·rw[if_pos he]
    have t4:TR (blocks way n kind often) most ⟨[⟨4,2*(i+1),[iv (x:Nat)],vs++ [Q7 (R4 way n)]⟩],none,r+2+R.rows+1,R.calls,R.cells⟩ 1 ⟨[⟨4,2*i+2,[iv (x:Nat)],vs⟩]++ [f],none,r+2+R.rows,R.calls,R.cells⟩:=by
     refine .step ?_ rfl ⟨[⟨4,2*i+2,[iv (x:Nat)],vs⟩],f,_,_,_,_,rfl,hrow,.back (gs:=[]) (g:=⟨4,2*i+2,[iv (x:Nat)],vs⟩) (st:=[]) rfl hst⟩ .done
     obtain⟨fk,fa,fsl,fst⟩:=f
     simp only at hst h1' h2'
     subst hst
     exact FW hb2 h1' (by simp) (by rw[map_append,sum_append,h2'];simp only[map_cons,map_nil,sum_cons,sum_nil];omega) (by omega)
    obtain⟨j,hj,t5⟩:=YC hw6 hB x hx k (i+1) (vs++ [Q7 (R4 way n)]) (r+2+R.rows+1) R.calls R.cells (by omega) ho3 ho1 (by rw[hvs,List.replicate_succ']) (hle he) (by omega)
    exact⟨1+(1+R.rows)+1+j,by rw[hj];omega,(t3.cat t4).cat t5⟩
   ·rw[if_neg (by omega)]
    refine⟨1+(1+R.rows),by show r+2+R.rows=_;omega, ?_⟩
    show TR _ _ ⟨[],some (ouT way n R.e),_,_,_⟩ _ _
    rw[he];exact t3
   ·rw[if_neg (by omega)]
    refine⟨1+(1+R.rows),by show r+2+R.rows=_;omega, ?_⟩
    show TR _ _ ⟨[],some (ouT way n R.e),_,_,_⟩ _ _
    rw[he];exact t3
   ·rw[if_neg (by omega)]
    refine⟨1+(1+R.rows),by show r+2+R.rows=_;omega, ?_⟩
    show TR _ _ ⟨[],some (ouT way n R.e),_,_,_⟩ _ _
    rw[he];exact t3
end
end K67
namespace K67
open PySem L2 CL SW MC MT
open BV hiding ifT ifF NoG top
seal PE PT PW PA PS PSs PTs PI PG PGs PO
noncomputable abbrev s_law_piece:Stmt:=CL.top 43
noncomputable abbrev s_law_again:Stmt:=CL.top 44
abbrev NB:List Str:=["_law_way","_law_number_here","_law_rows"]
theorem sc_law_piece:FnScope NB aBZ (B0 s_law_piece):=fS
abbrev NI:List Str:=["_law_by_fn","_law_number_here"]
theorem sc_law_again:FnScope NI q2L (B0 s_law_again):=fS
def RsAt(H:Hp)(rs:List Rw)(u:V):Prop:=∃p us,u=.ref p/\H p=some (.tup us)/\All2 (RwAt H) rs us
theorem RsAt.mo{H H':Hp}(m:Mo H H'){rs:List Rw}{u:V}(h:RsAt H rs u):RsAt H' rs u:=let⟨p,us,e,h1,h2⟩:=h;⟨p,us,e,m _ _ h1,h2.imp λ_ _ z=>RwAt.mo m z⟩
theorem z1:(1:Nat)<=sizeLine:=by decide
theorem z2:(2:Nat)<=sizeLine:=by decide
theorem z3:(3:Nat)<=sizeLine:=by decide
theorem z5:(5:Nat)<=sizeLine:=by decide
theorem z4:(4:Nat)<=sizeLine:=by decide
theorem z6:(6:Nat)<=sizeLine:=by decide
section
variable{P:Program}{w:World}{K:FZ}{mg:Str->Option Value}{base:Heap}{f:Addr}{fd:FuncData}
def RJ:Sp:=λvs H Q _=>∃(b:Bool) (k:Nat),vs=[.bl b,.int (k:Nat)]/\∀u H',Same H H'->RsAt H' (again b k) u->Q u H'
theorem ok_law_again(F:Fun K "_law_again" "_law_again" s_law_again f fd):FnOk P w K mg base CX0 1 f fd q2L RJ:=by
 refine F.ok sc_law_again (λvs H Q E h=> ?_) (λcdv A outer s H vs Q E hr h=> ?_)
 ·obtain⟨b,k,rfl,_⟩:=h
  rfl
 obtain⟨b,k,rfl,q⟩:=h
 have nd:=sc_law_again.nd
 refine⟨_,(A8 (D8 (K7 (K:=K) (pv 0) (λ_=>rfl)) (A9 (C0 (B4 (A0 (B4 (A0 B6 (A0 (pv 1) (A0 A7 A6)))) (A0 (B4 (A0 B6 (A0 A7 A6))) (A0 (B4 (A0 B6 (A0 A7 A6))) (A0 (B4 (A0 B6 A6)) (A0 (B4 (A0 B6 A6)) (A0 (B4 (A0 B6 A6)) A6))))))))) C9)
   (A9 (C0 (B4 (A0 (B4 (A0 B6 (A0 A7 A6))) (A0 (B4 (A0 B6 (A0 A7 A6))) (A0 (B4 (A0 B6 A6)) (A0 (B4 (A0 B6 (A0 (pv 1) (A0 A7 A6)))) (A0 (B4 (A0 B6 A6)) A6))))))))), ?_⟩
 refine⟨_,rfl,b,rfl, ?_⟩
 cases b with
 |true=>
  refine ifT rfl ⟨_,rfl,z3,λp1 h1=>⟨z2,λp2 h2=>⟨z2,λp3 h3=>⟨z1,λp4 h4=>⟨z1,λp5 h5=>⟨z1,λp6 h6=>⟨z6,λp7 h7=> ?_⟩⟩⟩⟩⟩⟩⟩
  have s1:=A5 h1 (.tup [.str "close",.int (k:Nat),.int 0])
  have s2:=A5 h2 (.tup [.str "load",.int 0])
  have s3:=A5 h3 (.tup [.str "push",.int 1])
  have s4:=A5 h4 (.tup [.str "sub"])
  have s5:=A5 h5 (.tup [.str "apply"])
  have s6:=A5 h6 (.tup [.str "back"])
  have s7:=A5 h7 (.tup [.ref p1,.ref p2,.ref p3,.ref p4,.ref p5,.ref p6])
  have s67:=s6.trans s7
  have s57:=s5.trans s67
  have s47:=s4.trans s57
  have s37:=s3.trans s47
  have s27:=s2.trans s37
  refine q _ _ (s1.trans s27) ⟨p7,_,rfl,upd_same,.cons ⟨p1,rfl,s27 _ _ upd_same⟩ (.cons ⟨p2,rfl,s37 _ _ upd_same⟩ (.cons ⟨p3,rfl,s47 _ _ upd_same⟩ (.cons ⟨p4,rfl,s57 _ _ upd_same⟩ (.cons ⟨p5,rfl,s67 _ _ upd_same⟩ (.cons ⟨p6,rfl,s7 _ _ upd_same⟩ .nil)))))⟩
 |false=>
  refine ifF nZ ⟨z2,λp2 h2=>⟨z2,λp3 h3=>⟨z1,λp4 h4=>⟨_,rfl,z3,λp5 h5=>⟨z1,λp6 h6=>⟨z5,λp7 h7=> ?_⟩⟩⟩⟩⟩⟩
  have s2:=A5 h2 (.tup [.str "load",.int 0])
  have s3:=A5 h3 (.tup [.str "push",.int 1])
  have s4:=A5 h4 (.tup [.str "sub"])
  have s5:=A5 h5 (.tup [.str "call",.int (k:Nat),.int 1])
  have s6:=A5 h6 (.tup [.str "back"])
  have s7:=A5 h7 (.tup [.ref p2,.ref p3,.ref p4,.ref p5,.ref p6])
  have s67:=s6.trans s7
  have s57:=s5.trans s67
  have s47:=s4.trans s57
  have s37:=s3.trans s47
  refine q _ _ (s2.trans s37) ⟨p7,_,rfl,upd_same,.cons ⟨p2,rfl,s37 _ _ upd_same⟩ (.cons ⟨p3,rfl,s47 _ _ upd_same⟩ (.cons ⟨p4,rfl,s57 _ _ upd_same⟩ (.cons ⟨p5,rfl,s67 _ _ upd_same⟩ (.cons ⟨p6,rfl,s7 _ _ upd_same⟩ .nil))))⟩
def KO:Sp:=λvs H Q _=>∃(way:Nat) (n:Int),vs=[.int (way:Nat),.int n]/\way<6/\∀u H',Same H H'->RsAt H' (B7 way n) u->Q u H'
theorem ok_law_piece(F:Fun K "_law_piece" "_law_piece" s_law_piece f fd):FnOk P w K mg base CX0 1 f fd aBZ KO:=by
 refine F.ok sc_law_piece (λvs H Q E h=> ?_) (λcdv A outer s H vs Q E hr h=> ?_)
 ·obtain⟨way,n,rfl,_⟩:=h
  rfl
 obtain⟨way,n,rfl,hw,q⟩:=h
 have nd:=sc_law_piece.nd
 refine⟨_,(A8 (C4 (i:=2) nd rfl (Or.inl rfl) (J8 (A0 (B4 (A0 (B4 (A0 B6 (A0 (pv 1) A6))) A6)) (A0 (B4 (A0 (B4 (A0 B6 (A0 (pv 1) A6))) (A0 (B4 (A0 B6 (A0 A7 A6))) (A0 (B4 (A0 B6 A6)) (A0 (B4 (A0 B6 A6)) (A0 (B4 (A0 B6 A6)) A6)))))) (A0 (B4 (A0 (B4 (A0 B6 (A0 (pv 1) A6))) (A0 (B4 (A0 B6 (A0 A7 A6))) (A0 (B4 (A0 B6 A6)) A6)))) (A0 (B4 (A0 (B4 (A0 B6 (A0 (C3 KJ A7 A7) A6))) (A0 (B4 (A0 B6 (A0 (C3 KJ A7 A7) A6))) (A0 (B4 (A0 B6 A6)) A6)))) (A0 (B4 (A0 (B4 (A0 B6 A6)) (A0 (B4 (A0 B6 A6)) A6))) (A0 (B4 (A0 (B4 (A0 B6 A6)) (A0 (B4 (A0 B6 A6)) A6))) A6))))))))
   (A9 (C0 (ixE K w (pv 2) (pv 0))))), ?_⟩
 refine⟨_,rfl,z2,λa1 ha1=>⟨z1,λA1 hA1=> ?_⟩⟩
 have sa:=A5 ha1 (.tup [.str "push",.int n])
 have sA:=A5 hA1 (.tup [.ref a1])
 have rA:RsAt (upd (upd H a1 (.tup [.str "push",.int n])) A1 (.tup [.ref a1])) (B7 0 n) (.ref A1):=⟨A1,_,rfl,upd_same,.cons ⟨a1,rfl,sA _ _ upd_same⟩ .nil⟩
 have t1:=sa.trans sA
 generalize upd (upd H a1 (.tup [.str "push",.int n])) A1 (.tup [.ref a1])=H1 at rA t1⊢
 refine⟨_,rfl,z2,λb1 hb1=>⟨z2,λb2 hb2=>⟨z1,λb3 hb3=>⟨z1,λb4 hb4=>⟨z1,λb5 hb5=>⟨z5,λB1 hB1=> ?_⟩⟩⟩⟩⟩⟩
 have u1:=A5 hb1 (.tup [.str "push",.int n])
 have u2:=A5 hb2 (.tup [.str "push",.int 5])
 have u3:=A5 hb3 (.tup [.str "none"])
 have u4:=A5 hb4 (.tup [.str "cons"])
 have u5:=A5 hb5 (.tup [.str "cons"])
 have u6:=A5 hB1 (.tup [.ref b1,.ref b2,.ref b3,.ref b4,.ref b5])
 have u56:=u5.trans u6
 have u46:=u4.trans u56
 have u36:=u3.trans u46
 have u26:=u2.trans u36
 have t2:=u1.trans u26
 have rB:RsAt _ (B7 1 n) (.ref B1):=⟨B1,_,rfl,upd_same,.cons ⟨b1,rfl,u26 _ _ upd_same⟩ (.cons ⟨b2,rfl,u36 _ _ upd_same⟩ (.cons ⟨b3,rfl,u46 _ _ upd_same⟩ (.cons ⟨b4,rfl,u56 _ _ upd_same⟩ (.cons ⟨b5,rfl,u6 _ _ upd_same⟩ .nil))))⟩
 generalize upd (upd (upd (upd (upd (upd H1 b1 (.tup [.str "push",.int n])) b2 (.tup [.str "push",.int 5])) b3 (.tup [.str "none"])) b4 (.tup [.str "cons"])) b5 (.tup [.str "cons"])) B1 (.tup [.ref b1,.ref b2,.ref b3,.ref b4,.ref b5])=H2 at rB t2⊢
 refine⟨_,rfl,z2,λc1 hc1=>⟨z2,λc2 hc2=>⟨z1,λc3 hc3=>⟨z3,λC1 hC1=> ?_⟩⟩⟩⟩
 have v1:=A5 hc1 (.tup [.str "push",.int n])
 have v2:=A5 hc2 (.tup [.str "push",.int 0])
 have v3:=A5 hc3 (.tup [.str "div"])
 have v4:=A5 hC1 (.tup [.ref c1,.ref c2,.ref c3])
 have v34:=v3.trans v4
 have v24:=v2.trans v34
 have t3:=v1.trans v24
 have rC:RsAt _ (B7 2 n) (.ref C1):=⟨C1,_,rfl,upd_same,.cons ⟨c1,rfl,v24 _ _ upd_same⟩ (.cons ⟨c2,rfl,v34 _ _ upd_same⟩ (.cons ⟨c3,rfl,v4 _ _ upd_same⟩ .nil))⟩
 generalize upd (upd (upd (upd H2 c1 (.tup [.str "push",.int n])) c2 (.tup [.str "push",.int 0])) c3 (.tup [.str "div"])) C1 (.tup [.ref c1,.ref c2,.ref c3])=H3 at rC t3⊢
 refine⟨_,_,rfl,rfl,⟨by decide,by decide,by decide⟩,z2,λd1 hd1=>⟨_,_,rfl,rfl,⟨by decide,by decide,by decide⟩,z2,λd2 hd2=>⟨z1,λd3 hd3=>⟨z3,λD1 hD1=> ?_⟩⟩⟩⟩
 have p40:(10:Int)^((40:Int).toNat)=GR:=by decide +kernel
 have w1:=A5 hd1 (.tup [.str "push",.int (10^((40:Int).toNat))])
 have w2:=A5 hd2 (.tup [.str "push",.int (10^((40:Int).toNat))])
 have w3:=A5 hd3 (.tup [.str "add"])
 have w4:=A5 hD1 (.tup [.ref d1,.ref d2,.ref d3])
 have w34:=w3.trans w4
 have w24:=w2.trans w34
 have t4:=w1.trans w24
 have rD:RsAt _ (B7 3 n) (.ref D1):=⟨D1,_,rfl,upd_same,.cons ⟨d1,rfl,by rw[show rwV (.own (.push (.int GR)))=[.str "push",.int (10^((40:Int).toNat))] by rw[p40];rfl];exact w24 _ _ upd_same⟩ (.cons ⟨d2,rfl,by rw[show rwV (.own (.push (.int GR)))=[.str "push",.int (10^((40:Int).toNat))] by rw[p40];rfl];exact w34 _ _ upd_same⟩ (.cons ⟨d3,rfl,w4 _ _ upd_same⟩ .nil))⟩
 refine⟨z1,λe1 he1=>⟨z1,λe2 he2=>⟨z2,λE1 hE1=>⟨z1,λf1 hf1=>⟨z1,λf2 hf2=>⟨z2,λF1 hF1=>⟨z6,λL hL=> ?_⟩⟩⟩⟩⟩⟩⟩
 have x1:=A5 he1 (.tup [.str "none"])
 have x2:=A5 he2 (.tup [.str "head"])
 have x3:=A5 hE1 (.tup [.ref e1,.ref e2])
 have x4:=A5 hf1 (.tup [.str "none"])
 have x5:=A5 hf2 (.tup [.str "tail"])
 have x6:=A5 hF1 (.tup [.ref f1,.ref f2])
 have x7:=A5 hL (.lst [.ref A1,.ref B1,.ref C1,.ref D1,.ref E1,.ref F1])
 have x67:=x6.trans x7
 have x57:=x5.trans x67
 have x47:=x4.trans x57
 have x37:=x3.trans x47
 have x27:=x2.trans x37
 have x17:=x1.trans x27
 have rE:RsAt _ (B7 4 n) (.ref E1):=⟨E1,_,rfl,x47 _ _ upd_same,.cons ⟨e1,rfl,x27 _ _ upd_same⟩ (.cons ⟨e2,rfl,x37 _ _ upd_same⟩ .nil)⟩
 have rF:RsAt _ (B7 5 n) (.ref F1):=⟨F1,_,rfl,x7 _ _ upd_same,.cons ⟨f1,rfl,x57 _ _ upd_same⟩ (.cons ⟨f2,rfl,x67 _ _ upd_same⟩ .nil)⟩
 have tt:Same H _:=t1.trans (t2.trans (t3.trans (t4.trans x17)))
 have h6:way=0\/way=1\/way=2\/way=3\/way=4\/way=5:=by omega
 rcases h6 with rfl|rfl|rfl|rfl|rfl|rfl
 ·exact⟨_,rfl,_,rfl,(ixL (v:=.ref A1) upd_same rfl (q _ _ tt (rA.mo (B5 (t2.trans (t3.trans (t4.trans x17)))))))⟩
 ·exact⟨_,rfl,_,rfl,(ixL (v:=.ref B1) upd_same rfl (q _ _ tt (rB.mo (B5 (t3.trans (t4.trans x17))))))⟩
 ·exact⟨_,rfl,_,rfl,(ixL (v:=.ref C1) upd_same rfl (q _ _ tt (rC.mo (B5 (t4.trans x17)))))⟩
 ·exact⟨_,rfl,_,rfl,(ixL (v:=.ref D1) upd_same rfl (q _ _ tt (rD.mo (B5 x17))))⟩
 ·exact⟨_,rfl,_,rfl,(ixL (v:=.ref E1) upd_same rfl (q _ _ tt rE))⟩
 ·exact⟨_,rfl,_,rfl,(ixL (v:=.ref F1) upd_same rfl (q _ _ tt rF))⟩
end
noncomputable abbrev s_law_blocks:Stmt:=CL.top 45
abbrev JP:List Str:=["_law_way","_law_number_here","_law_kind","_law_often","_law_piece_here","_law_asked","_law_block","_law_other","_law_main"]
theorem sc_law_blocks:FnScope JP cAZ (B0 s_law_blocks):=fS
theorem aFZ{K:FZ}{H:Hp}{l:Addr}{zs:List V}{k:Nat}{Q:VK}(h:H l=some (.tup zs))(hz:zs≠ [])(hl:zs.length<=100)(h1:1<=k)(h2:k<=1000)(go:∀r H',Same H H'->H' r=some (.tup (List.replicate k zs).flatten)->Q (.ref r) H'):WY K (.ref l) (.int (k:Nat)) H Q:=by
 refine⟨l,k,zs,rfl,rfl,SqT.of h,hz,hl,by omega,by omega,λe=>go l H (Same.refl _) ?_,λ_ p hp=>go p _ (A5 hp _) (by rw[Int.toNat_natCast];exact upd_same)⟩
 have:k=1:=by omega
 subst this
 rw[h]
 simp
theorem IS{H:Hp}{c1 c2 b:V}(h1:RwAt H (.own (.load 0)) c1)(h2:RwAt H (.call 1 1) c2)(hb:RwAt H .back b):∀k:Nat,All2 (RwAt H) (Z8 k) ((List.replicate k [c1,c2]).flatten++ [b])
 |0=> .cons hb .nil
 |k+1=>by
  rw[replicate_succ,flatten_cons]
  exact .cons h1 (.cons h2 (IS h1 h2 hb k))
theorem IT(way:Nat)(n:Int):(B7 way n).length<=5:=by
 match way with
 |0=>show 1<=5;omega
 |1=>show 5<=5;omega
 |2=>show 3<=5;omega
 |3=>show 3<=5;omega
 |4=>show 2<=5;omega
 |k+5=>show 2<=5;omega
section
variable{P:Program}{w:World}{K:FZ}{mg:Str->Option Value}{base:Heap}{f V8 LL:Addr}{fd X0 KY:FuncData}
def ML:Sp:=λvs H Q _=>∃(way:Nat) (n:Int) (kind often:Nat),vs=[.int (way:Nat),.int n,.int (kind:Nat),.int (often:Nat)]/\way<6/\kind<3/\1<=often/\often<=3/\∀l vb H',Same H H'->H l=none->H' l=some (.lst vb)->All2 (BAt H') (blocks way n kind often) vb->Q (.ref l) H'
theorem ok_law_blocks(F:Fun K "_law_blocks" "_law_blocks" s_law_blocks f fd)(B:NoG mg)
  (L7:Cn P w K mg base CX0 1 "_law_piece" aBZ KO)
  (R5:Cn P w K mg base CX0 1 "_law_again" q2L RJ):
  FnOk P w K mg base CX0 2 f fd cAZ ML:=by
 obtain⟨V8,X0,L7,W0,W9,W8⟩:=L7
 obtain⟨LL,KY,R5,DK,DL,DM⟩:=R5
 refine F.ok sc_law_blocks (λvs H Q E h=> ?_) (λcdv A outer s H vs Q E hr h=> ?_)
 ·obtain⟨way,n,kind,often,rfl,_⟩:=h
  rfl
 obtain⟨way,n,kind,often,rfl,hw,hk,ho1,ho3,q⟩:=h
 have nd:=sc_law_blocks.nd
 have hu:=hr.units0
 have pl:=IT way n
 refine⟨_,(A8 (C4 (i:=4) nd rfl (Or.inl rfl) (B9 L7 (hr.mono (by omega)) rfl W8 W9 W0 .nil C2 (A0 (pv 0) (A0 (pv 1) A6))))
   (A8 (C4 (i:=5) nd rfl (Or.inl rfl) (B4 (A0 (B4 (A0 B6 (A0 A7 A6))) (A0 (B4 (A0 B6 (A0 A7 A6))) (A0 (B4 (A0 B6 A6)) (A0 (B4 (A0 B6 (A0 (C3 (N2 (K:=K)) (C8 (P4 (K:=K)) rfl B.len_ L9 (A0 (pv 4) A6)) A7) A6))) A6))))))
   (A8 (C4 (i:=6) nd rfl (Or.inl rfl) (B4 (A0 A7 (A0 A7 (A0 (C3 (N2 (K:=K)) (C3 (N2 (K:=K)) (C3 (N2 (K:=K)) (pv 5) (pv 4)) (B4 (A0 (B4 (A0 B6 A6)) A6))) (B9 R5 (hr.mono (by omega)) rfl DM DL DK .nil C2 (A0 (L0 (kEq (K:=K) hu) (pv 2) A7 rfl) (A0 (C3 (N2 (K:=K)) A7 (C3 (a9Z (K:=K)) A7 (G3 BL rfl B.int_ JW (A0 (L0 (kEq (K:=K) hu) (pv 2) A7 rfl) A6)))) A6)))) A6)))))
   (A8 (C4 (i:=7) nd rfl (Or.inl rfl) (B4 (A0 A7 (A0 A7 (A0 (C3 (N2 (K:=K)) (C3 (N2 (K:=K)) (C3 (N2 (K:=K)) (pv 5) (pv 4)) (B4 (A0 (B4 (A0 B6 A6)) A6))) (B9 R5 (hr.mono (by omega)) rfl DM DL DK .nil C2 (A0 V5 (A0 A7 A6)))) A6)))))
   (A8 (C4 (i:=8) nd rfl (Or.inl rfl) (B4 (A0 A7 (A0 A7 (A0 (C3 (N2 (K:=K)) (C3 (a9Z (K:=K)) (B4 (A0 (B4 (A0 B6 (A0 A7 A6))) (A0 (B4 (A0 B6 (A0 A7 (A0 A7 A6)))) A6))) (pv 3)) (B4 (A0 (B4 (A0 B6 A6)) A6))) A6)))))
   (A9 (C0 (J8 (A0 (B4 (A0 A7 (A0 A7 (A0 (B4 (A0 (B4 (A0 B6 (A0 A7 A6))) (A0 (B4 (A0 B6 A6)) A6))) A6)))) (A0 (pv 6) (A0 (B4 (A0 A7 (A0 A7 (A0 (B4 (A0 (B4 (A0 B6 A6)) (A0 (B4 (A0 B6 A6)) (A0 (B4 (A0 B6 A6)) A6)))) A6)))) (A0 (pv 7) (A0 (pv 8) A6))))))))))))), ?_⟩
 refine⟨_,rfl,_,rfl,way,n,rfl,hw,λu H1 s1 hR=> ?_⟩
 obtain⟨pp,pus,rfl,hpp,hpr⟩:=hR
 have lpp:=hpr.len
 refine⟨z2,λa1 h1=>⟨z2,λa2 h2=>⟨z1,λa3 h3=> ?_⟩⟩⟩
 have x1:=A5 h1 (.tup [.str "load",.int 0])
 have x2:=A5 h2 (.tup [.str "push",.int 0])
 have x3:=A5 h3 (.tup [.str "same"])
 have x13:=x1.trans (x2.trans x3)
 refine⟨_,rfl,_,_,rfl,.inr ⟨_,SqT.of (x13 _ _ hpp),rfl⟩,.inl ⟨_,_,rfl,rfl,z2,λa4 h4=>⟨z4,λA1 hA1=> ?_⟩⟩⟩
 have x4:=A5 h4 (.tup [.str "unless",.int ((pus.length:Nat)+1)])
 have x5:=A5 hA1 (.tup [.ref a1,.ref a2,.ref a3,.ref a4])
 have x45:=x4.trans x5
 have x35:=x3.trans x45
 have x25:=x2.trans x35
 have x15:=x1.trans x25
 have rA:All2 (RwAt (upd (upd (upd (upd (upd H1 a1 (.tup [.str "load",.int 0])) a2 (.tup [.str "push",.int 0])) a3 (.tup [.str "same"])) a4 (.tup [.str "unless",.int ((pus.length:Nat)+1)])) A1 (.tup [.ref a1,.ref a2,.ref a3,.ref a4]))) (asked (B7 way n).length) [.ref a1,.ref a2,.ref a3,.ref a4]:=
  .cons ⟨a1,rfl,x25 _ _ upd_same⟩ (.cons ⟨a2,rfl,x35 _ _ upd_same⟩ (.cons ⟨a3,rfl,x45 _ _ upd_same⟩ (.cons ⟨a4,rfl,by
   have e:rwV (.own (.unless ((B7 way n).length+1)))=[.str "unless",.int ((pus.length:Nat)+1)]:=by
    show [V.str "unless",V.int (((B7 way n).length+1:Nat):Int)]=_
    rw[lpp,Int.natCast_add];rfl
   rw[e];exact x5 _ _ upd_same⟩ .nil)))
 have hA:upd (upd (upd (upd (upd H1 a1 (.tup [.str "load",.int 0])) a2 (.tup [.str "push",.int 0])) a3 (.tup [.str "same"])) a4 (.tup [.str "unless",.int ((pus.length:Nat)+1)])) A1 (.tup [.ref a1,.ref a2,.ref a3,.ref a4]) A1=some (.tup [.ref a1,.ref a2,.ref a3,.ref a4]):=upd_same
 show Q3 _ _ _ [some (.int (way:Nat)),some (.int n),some (.int (kind:Nat)),some (.int (often:Nat)),some (.ref pp),some (.ref A1),none,none,none] (upd (upd (upd (upd (upd H1 a1 (.tup [.str "load",.int 0])) a2 (.tup [.str "push",.int 0])) a3 (.tup [.str "same"])) a4 (.tup [.str "unless",.int ((pus.length:Nat)+1)])) A1 (.tup [.ref a1,.ref a2,.ref a3,.ref a4]))
 generalize upd (upd (upd (upd (upd H1 a1 (.tup [.str "load",.int 0])) a2 (.tup [.str "push",.int 0])) a3 (.tup [.str "same"])) a4 (.tup [.str "unless",.int ((pus.length:Nat)+1)])) A1 (.tup [.ref a1,.ref a2,.ref a3,.ref a4])=H2 at x15 rA hA⊢
 have hpp2:=x15 _ _ hpp
 have hpr2:=hpr.imp λ_ _ z=>RwAt.mo (B5 x15) z
 clear x1 x2 x3 x13 x4 x5 x45 x35 x25 h1 h2 h3 h4
 have S2:=s1.trans x15
 refine⟨_,rfl,_,rfl,.inr (.inr (J5 hA hpp2 (by simp;omega) λr1 H3 s3 hr3=>⟨z1,λb1 hb1=>⟨z1,λb2 hb2=> ?_⟩⟩))⟩
 have y1:=A5 hb1 (.tup [.str "back"])
 have y2:=A5 hb2 (.tup [.ref b1])
 have y12:=y1.trans y2
 refine .inr (.inr (J5 (y12 _ _ hr3) upd_same (by simp;omega) λr2 H4 s4 hr4=> ?_))
 have y34:=s3.trans (y12.trans s4)
 have hb1':H4 b1=some (.tup [.str "back"]):=s4 _ _ (y2 _ _ upd_same)
 have hk3:kind=0\/kind=1\/kind=2:=by omega
 have eb:decide (V.int ((kind:Nat):Int)=V.int 1)=fnB kind false:=by rcases hk3 with rfl|rfl|rfl<;>decide
 have ek:(1:Int)+2*(if decide (V.int ((kind:Nat):Int)=V.int 2)=true then 1 else 0)=((nB (nxB kind false):Nat):Int):=by rcases hk3 with rfl|rfl|rfl<;>decide
 refine⟨_,rfl,.inl ⟨rfl,_,rfl,.inl ⟨rfl,.inl ⟨_,rfl,.inl ⟨_,_,rfl,rfl,.inl ⟨by decide,by decide⟩,.inl ⟨_,_,rfl,rfl,fnB kind false,nB (nxB kind false),(by show [V.bl (decide (V.int ((kind:Nat):Int)=V.int 1)),V.int ((1:Int)+2*(if decide (V.int ((kind:Nat):Int)=V.int 2)=true then 1 else 0))]=_;rw[eb,ek]),λu H5 s5 hR5=> ?_⟩⟩⟩⟩⟩⟩
 obtain⟨ga,gus,rfl,hga,hgr⟩:=hR5
 have lg5:gus.length<=6:=by
  rw[<-hgr.len]
  cases fnB kind false
  ·show 5<=6;omega
  ·show 6<=6;omega
 refine .inr (.inr (J5 (s5 _ _ hr4) hga (by simp;omega) λr3 H6 s6 hr6=>⟨z3,λbk hbk=> ?_⟩))
 have y56:=s5.trans s6
 have y7:=A5 hbk (.tup [.int 1,.int 1,.ref r3])
 have y27:Same H2 (upd H6 bk (.tup [.int 1,.int 1,.ref r3])):=y34.trans (y56.trans y7)
 have y67:=s6.trans y7
 have y57:=s5.trans y67
 have rB:BAt (upd H6 bk (.tup [.int 1,.int 1,.ref r3])) (blk (B7 way n) (fnB kind false) (nB (nxB kind false))) (.ref bk):=⟨bk,r3,_,rfl,upd_same,y7 _ _ hr6,(((rA.imp λ_ _ z=>RwAt.mo (B5 y27) z).app (hpr2.imp λ_ _ z=>RwAt.mo (B5 y27) z)).app (.cons (show RwAt _ .back (.ref b1)from⟨b1,rfl,y57 _ _ hb1'⟩) .nil)).app (hgr.imp λ_ _ z=>RwAt.mo (B5 y67) z),(by show 1<=100;decide)⟩
 show Q3 _ _ _ [some (.int (way:Nat)),some (.int n),some (.int (kind:Nat)),some (.int (often:Nat)),some (.ref pp),some (.ref A1),some (.ref bk),none,none] (upd H6 bk (.tup [.int 1,.int 1,.ref r3]))
 generalize upd H6 bk (.tup [.int 1,.int 1,.ref r3])=H7 at rB y27⊢
 clear y1 y2 y12 y34 y56 y7 y67 y57 hb1 hb2 hr3 hr4 hr6 hbk
 have S7:=S2.trans y27
 have hA7:=y27 _ _ hA
 have hpp7:=y27 _ _ hpp2
 have rA7:=rA.imp λ_ _ z=>RwAt.mo (B5 y27) z
 have hpr7:=hpr2.imp λ_ _ z=>RwAt.mo (B5 y27) z
 refine⟨_,rfl,_,rfl,.inr (.inr (J5 hA7 hpp7 (by simp;omega) λr1 H3 s3 hr3=>⟨z1,λc1 hc1=>⟨z1,λc2 hc2=> ?_⟩⟩))⟩
 have y1:=A5 hc1 (.tup [.str "back"])
 have y2:=A5 hc2 (.tup [.ref c1])
 have y12:=y1.trans y2
 refine .inr (.inr (J5 (y12 _ _ hr3) upd_same (by simp;omega) λr2 H4 s4 hr4=> ?_))
 have y34:=s3.trans (y12.trans s4)
 have hc1':H4 c1=some (.tup [.str "back"]):=s4 _ _ (y2 _ _ upd_same)
 refine⟨true,1,rfl,λu H5 s5 hR5=> ?_⟩
 obtain⟨ga,gus,rfl,hga,hgr⟩:=hR5
 have lg6:gus.length=6:=hgr.len.symm
 refine .inr (.inr (J5 (s5 _ _ hr4) hga (by simp;omega) λr3 H6 s6 hr6=>⟨z3,λck hck=> ?_⟩))
 have y56:=s5.trans s6
 have y7:=A5 hck (.tup [.int 1,.int 1,.ref r3])
 have y77:Same H7 (upd H6 ck (.tup [.int 1,.int 1,.ref r3])):=y34.trans (y56.trans y7)
 have y67:=s6.trans y7
 have y57:=s5.trans y67
 have en:nB (nxB kind true)=1:=by unfold nxB;rfl
 have ef:fnB kind true=true:=by unfold fnB;rfl
 have rC:BAt (upd H6 ck (.tup [.int 1,.int 1,.ref r3])) (blk (B7 way n) (fnB kind true) (nB (nxB kind true))) (.ref ck):=by
  rw[en,ef]
  exact⟨ck,r3,_,rfl,upd_same,y7 _ _ hr6,(((rA7.imp λ_ _ z=>RwAt.mo (B5 y77) z).app (hpr7.imp λ_ _ z=>RwAt.mo (B5 y77) z)).app (.cons (show RwAt _ .back (.ref c1)from⟨c1,rfl,y57 _ _ hc1'⟩) .nil)).app (hgr.imp λ_ _ z=>RwAt.mo (B5 y67) z),(by show 1<=100;decide)⟩
 show Q3 _ _ _ [some (.int (way:Nat)),some (.int n),some (.int (kind:Nat)),some (.int (often:Nat)),some (.ref pp),some (.ref A1),some (.ref bk),some (.ref ck),none] (upd H6 ck (.tup [.int 1,.int 1,.ref r3]))
 generalize upd H6 ck (.tup [.int 1,.int 1,.ref r3])=H8 at rC y77⊢
 clear y1 y2 y12 y34 y56 y7 y67 y57 hc1 hc2 hr3 hr4 hr6 hck
 have S8:=S7.trans y77
 have rB8:=rB.mo (B5 y77)
 refine⟨z2,λm1 hm1=>⟨z3,λm2 hm2=>⟨z2,λm3 hm3=> ?_⟩⟩⟩
 have w1:=A5 hm1 (.tup [.str "load",.int 0])
 have w2:=A5 hm2 (.tup [.str "call",.int 1,.int 1])
 have w3:=A5 hm3 (.tup [.ref m1,.ref m2])
 have w23:=w2.trans w3
 have w13:=w1.trans w23
 refine⟨_,rfl,.inr (aFZ (k:=often) upd_same (by simp) (by simp) ho1 (by omega) λr1 H3 s3 hr3=>⟨z1,λc1 hc1=>⟨z1,λc2 hc2=> ?_⟩⟩)⟩
 have y1:=A5 hc1 (.tup [.str "back"])
 have y2:=A5 hc2 (.tup [.ref c1])
 have y12:=y1.trans y2
 have lfl:(List.replicate often [V.ref m1,V.ref m2]).flatten.length=often*2:=TM.flat_len _ _
 refine .inr (.inr (J5 (y12 _ _ hr3) upd_same (by rw[lfl];simp;omega) λr2 H4 s4 hr4=>⟨z3,λmk hmk=> ?_⟩))
 have y5:=A5 hmk (.tup [.int 1,.int 1,.ref r2])
 have y45:=s4.trans y5
 have y25:=y2.trans y45
 have y15:=y1.trans y25
 have y35:=s3.trans y15
 have yM:=w13.trans y35
 have rM:BAt (upd H4 mk (.tup [.int 1,.int 1,.ref r2])) ⟨1,1,Z8 often⟩ (.ref mk):=⟨mk,r2,_,rfl,upd_same,y5 _ _ hr4,IS ⟨m1,rfl,(w23.trans y35) _ _ upd_same⟩ ⟨m2,rfl,(w3.trans y35) _ _ upd_same⟩ ⟨c1,rfl,y25 _ _ upd_same⟩ often,(by show 1<=100;decide)⟩
 generalize upd H4 mk (.tup [.int 1,.int 1,.ref r2])=H9 at rM yM⊢
 have S9:=S8.trans yM
 have rB9:=rB8.mo (B5 yM)
 have rC9:=rC.mo (B5 yM)
 clear w1 w2 w3 w23 w13 y1 y2 y12 y5 y45 y25 y15 y35 hm1 hm2 hm3 hc1 hc2 hmk hr3 hr4
 refine⟨z2,λe1 he1=>⟨z1,λe2 he2=>⟨z2,λe3 he3=>⟨z3,λe4 he4=>⟨_,rfl,⟨z1,λg1 hg1=>⟨z1,λg2 hg2=>⟨z1,λg3 hg3=>⟨z3,λg4 hg4=>⟨z3,λg5 hg5=>⟨_,rfl,⟨_,rfl,⟨z5,λl hl=> ?_⟩⟩⟩⟩⟩⟩⟩⟩⟩⟩⟩⟩⟩
 have v1:=A5 he1 (.tup [.str "push",.int 77])
 have v2:=A5 he2 (.tup [.str "back"])
 have v3:=A5 he3 (.tup [.ref e1,.ref e2])
 have v4:=A5 he4 (.tup [.int 1,.int 2,.ref e3])
 have v5:=A5 hg1 (.tup [.str "none"])
 have v6:=A5 hg2 (.tup [.str "head"])
 have v7:=A5 hg3 (.tup [.str "back"])
 have v8:=A5 hg4 (.tup [.ref g1,.ref g2,.ref g3])
 have v9:=A5 hg5 (.tup [.int 0,.int 1,.ref g4])
 have vl:=A5 hl (.lst [.ref e4,.ref bk,.ref g5,.ref ck,.ref mk])
 have t9:=v9.trans vl
 have t8:=v8.trans t9
 have t7:=v7.trans t8
 have t6:=v6.trans t7
 have t5:=v5.trans t6
 have t4:=v4.trans t5
 have t3:=v3.trans t4
 have t2:=v2.trans t3
 have t1:=v1.trans t2
 have t0:=v1.trans (v2.trans (v3.trans (v4.trans (v5.trans (v6.trans (v7.trans (v8.trans v9)))))))
 refine q l _ _ (S9.trans t1) ?_ upd_same ?_
 ·cases e:H l with
  |none=>rfl
  |some z=>rw[(S9.trans t0) _ _ e]at hl;cases hl
 ·exact .cons ⟨e4,e3,_,rfl,t5 _ _ upd_same,t4 _ _ upd_same,.cons ⟨e1,rfl,t2 _ _ upd_same⟩ (.cons ⟨e2,rfl,t3 _ _ upd_same⟩ .nil),(by show 2<=100;decide)⟩
   (.cons (rB9.mo (B5 t1)) (.cons ⟨g5,g4,_,rfl,vl _ _ upd_same,t9 _ _ upd_same,.cons ⟨g1,rfl,t6 _ _ upd_same⟩ (.cons ⟨g2,rfl,t7 _ _ upd_same⟩ (.cons ⟨g3,rfl,t8 _ _ upd_same⟩ .nil)),(by show 1<=100;decide)⟩
    (.cons (rC9.mo (B5 t1)) (.cons (rM.mo (B5 t1)) .nil))))
end
noncomputable abbrev s_law_cell_at:Stmt:=CL.top 40
noncomputable abbrev s_law_number:Stmt:=CL.top 42
abbrev HG:List Str:=["_law_script","_law_k"]
theorem sc_law_cell_at:FnScope HG cwZ (B0 s_law_cell_at):=fS
abbrev JU:List Str:=["_law_cell"]
theorem sc_law_number:FnScope JU ["_law_cell"] (B0 s_law_number):=fS
theorem p40:(10:Int)^((40:Int).toNat)=NM.GR:=by decide +kernel
noncomputable def K0(ns:List Int)(k:Int):Int:=(ns[k.toNat]?).getD 0
theorem lg{b:Int}(h0:0<b)(h1:b<2^60):b≠0/\b.natAbs.log2<9000:=⟨by omega,by
 have:b.natAbs≠0:=by omega
 have:=(Nat.log2_lt this).mpr (show b.natAbs<2^60 by omega)
 omega⟩
theorem ml{a b:Int}(h: -(2^63)<a/\a<2^63):IntMulOk a b:=IntMulOk.of_left (intBits_le_64 (by omega) (by omega))
theorem mr{a b:Int}(h: -(2^63)<b/\b<2^63):IntMulOk a b:=IntMulOk.of_right (intBits_le_64 (by omega) (by omega))
section
variable{P:Program}{w:World}{K:FZ}{mg:Str->Option Value}{base:Heap}{C f:Addr}{fd:FuncData}{mf:Str->Addr}{md:Str->FuncData}
def RP(K:FZ):Sp:=λvs H Q _=>∃(a:Addr) (ns:List Int) (k:Int),vs=[.ref a,.int k]/\SqL K H a (ns.map V.int)/\0<=k/\Q (.int (K0 ns k)) H
theorem ok_law_cell_at(F:Fun K "_law_cell_at" "_law_cell_at" s_law_cell_at f fd)(B:NoG mg):FnOk P w K mg base CX0 1 f fd cwZ (RP K):=by
 refine F.ok sc_law_cell_at (λvs H Q E h=> ?_) (λcdv A outer s H vs Q E hr h=> ?_)
 ·obtain⟨a,ns,k,rfl,_⟩:=h
  rfl
 obtain⟨a,ns,k,rfl,hS,hk,q⟩:=h
 have nd:=sc_law_cell_at.nd
 refine⟨_,(A8 (D8 (C7 YF (pv 1) (C8 (P4 (K:=K)) rfl B.len_ L9 (A0 (pv 0) A6)) rfl) (A9 (C0 (ixE K w (pv 0) (pv 1)))) C9)
   (A9 (C0 A7))), ?_⟩
 refine⟨_,rfl,_,rfl,_,_,rfl,.inl ⟨_,hS,rfl⟩,_,_,rfl,rfl,_,rfl,HB (λc=> ?_) (λc=> ?_)⟩
 ·have c':k<((ns.map V.int).length:Nat):=of_decide_eq_true c
  rw[length_map]at c'
  have hk':k.toNat<ns.length:=by omega
  have ev:K0 ns k=ns[k.toNat]:=by unfold K0;rw[List.getElem?_eq_getElem hk'];rfl
  have e:atI (ns.map V.int) ((k.toNat:Nat):Int)=some (.int ns[k.toNat]):=J2 (by rw[getElem?_map,List.getElem?_eq_getElem hk'];rfl)
  have ek:((k.toNat:Nat):Int)=k:=by omega
  rw[ek]at e
  rw[ev]at q
  exact⟨_,rfl,_,rfl,.inl ⟨_,_,_,_,rfl,rfl,hS,e,q⟩⟩
 ·have c':¬k<((ns.map V.int).length:Nat):=λz=>c (decide_eq_true z)
  rw[length_map]at c'
  have ev:K0 ns k=0:=by unfold K0;rw[List.getElem?_eq_none (by omega)];rfl
  rw[ev]at q
  exact q
def YD:Sp:=λvs H Q _=>∃n:Int,vs=[.int n]/\∀m:Int,Bd m->Q (.int m) H
theorem ok_law_number(F:Fun K "_law_number" "_law_number" s_law_number f fd):FnOk P w K mg base CX0 1 f fd ["_law_cell"] YD:=by
 refine F.ok sc_law_number (λvs H Q E h=> ?_) (λcdv A outer s H vs Q E hr h=> ?_)
 ·obtain⟨n,rfl,_⟩:=h
  rfl
 obtain⟨n,rfl,q⟩:=h
 have nd:=sc_law_number.nd
 have hu:=hr.units0
 have hG:=GRe
 have pw:(0:Int)<(10:Int)^((40:Int).toNat)+1:=by rw[p40];decide
 refine⟨_,(A8 (D8 (C7 (kEq (K:=K) hu) (C3 J9 (pv 0) A7) A7 rfl) (A9 (C0 (C3 EU (C3 N6 A7 (C3 EU A7 (C3 J9 (C3 K8 (pv 0) A7) A7))) (C3 N6 (C3 KJ A7 A7) (C3 J9 (C3 K8 (pv 0) A7) A7))))) C9)
   (A8 (D8 (C7 (kEq (K:=K) hu) (C3 J9 (pv 0) A7) A7 rfl) (A9 (C0 (C3 J9 (C3 EU (pv 0) A7) (C3 S6 (C3 KJ A7 A7) A7)))) C9)
   (A9 (C0 (C3 N6 (C3 J9 (C3 K8 (pv 0) A7) A7) A7))))), ?_⟩
 refine⟨_,rfl,_,_,rfl,rfl,(by decide:(0:Int)<7),.inl ⟨rfl,_,rfl,HB (λe=> ?_) (λe=> ?_)⟩⟩
 ·refine⟨_,rfl,_,_,rfl,rfl,lg (by decide) (by decide),_,_,rfl,rfl,(by decide:(0:Int)<2),_,_,rfl,rfl,ml ⟨by decide,by decide⟩,_,_,rfl,rfl, ?_⟩
  refine⟨_,_,rfl,rfl,⟨by decide,by decide,by decide⟩,_,rfl,_,_,rfl,rfl,lg (by decide) (by decide),_,_,rfl,rfl,(by decide:(0:Int)<3),_,_,rfl,rfl,_,_,rfl,rfl,ml ?_,q _ ?_⟩
  ·have g4:=Int.emod_nonneg (n.fdiv 7) (by decide:(2:Int)≠0)
   have g5:=Int.emod_lt_of_pos (n.fdiv 7) (by decide:(0:Int)<2)
   constructor<;>omega
  ·have g4:=Int.emod_nonneg (n.fdiv 7) (by decide:(2:Int)≠0)
   have g5:=Int.emod_lt_of_pos (n.fdiv 7) (by decide:(0:Int)<2)
   have g6:=Int.emod_nonneg (n.fdiv 14) (by decide:(3:Int)≠0)
   have g7:=Int.emod_lt_of_pos (n.fdiv 14) (by decide:(0:Int)<3)
   rw[p40]
   show -NM.GR<=(1 - 2*(n.fdiv 7%2))*(NM.GR - n.fdiv 14%3)/\(1 - 2*(n.fdiv 7%2))*(NM.GR - n.fdiv 14%3)<=NM.GR
   have hs:(1:Int) - 2*(n.fdiv 7%2)=1\/(1:Int) - 2*(n.fdiv 7%2)= -1:=by omega
   rcases hs with hs|hs<;>rw[hs]<;>constructor<;>omega
 refine⟨_,rfl,_,_,rfl,rfl,(by decide:(0:Int)<7),.inl ⟨rfl,_,rfl,HB (λe=> ?_) (λe=> ?_)⟩⟩
 ·refine⟨_,rfl,_,_,rfl,rfl,mr ⟨by decide,by decide⟩,_,_,rfl,rfl,⟨by decide,by decide,by decide⟩,.inl ⟨_,_,rfl,rfl,_,_,rfl,rfl,pw,q _ ?_⟩⟩
  have g1:=Int.emod_nonneg (n*48271000000007) (Int.ne_of_gt pw)
  have g2:=Int.emod_lt_of_pos (n*48271000000007) pw
  show -NM.GR<=n*48271000000007%((10:Int)^((40:Int).toNat)+1)/\n*48271000000007%((10:Int)^((40:Int).toNat)+1)<=NM.GR
  rw[p40]at g1 g2⊢
  constructor<;>omega
 ·refine⟨_,rfl,_,_,rfl,rfl,lg (by decide) (by decide),_,_,rfl,rfl,(by decide:(0:Int)<41),_,_,rfl,rfl,q _ ?_⟩
  have g1:=Int.emod_nonneg (n.fdiv 7) (by decide:(41:Int)≠0)
  have g2:=Int.emod_lt_of_pos (n.fdiv 7) (by decide:(0:Int)<41)
  show -NM.GR<=n.fdiv 7%41 - 20/\n.fdiv 7%41 - 20<=NM.GR
  constructor<;>omega
end
noncomputable abbrev s_law_due:Stmt:=CL.top 46
abbrev IL:List Str:=["_law_count","_law_way","_law_number_here","_law_kind","_law_most","_law_wide","_law_piece_here","_law_down","_law_last","_law_value"]
theorem sc_law_due:FnScope IL q7L (B0 s_law_due):=fS
structure NoE (mg:Str->Option Value):Prop where
 len_:mg "len"=none
 list_:mg "list"=none
 range_:mg "range"=none
 int_:mg "int"=none
 min_:mg "min"=none
 max_:mg "max"=none
 sum_:mg "sum"=none
 isinstance_:mg "isinstance"=none
 all_:mg "all"=none
def T4(way count most wide:Nat):Nat:=if most+1<=count/\most+1<=wide then 2 else if wide<=count then 3 else if way<2 then 0 else 1
def T0(way kind len count most wide:Nat):Nat:=if most+1<=count/\most+1<=wide then dn kind (most+1) false else if wide<=count then dn kind wide false else if way<2 then dn kind count false+4+len+1+count else dn kind count false+4+len
def U9(count most wide:Nat):Nat:=if most+1<=count/\most+1<=wide then most else if wide<=count then wide else count
def ToldAt(way:Nat)(n:Int)(H:Hp):Nat->V->Prop
 |0,u=>∃p v,u=.ref p/\H p=some (.tup [.str "value",v])/\(way=0/\v=.int n\/way=1/\∃q,v=.ref q/\H q=some (.lst [.int n,.int 5]))
 |1,u=>∃p,u=.ref p/\H p=some (.tup [.str "refused",.str (rfW way)])
 |2,u=>∃p,u=.ref p/\H p=some (.tup [.str "dry"])
 |_,u=>∃p,u=.ref p/\H p=some (.tup [.str "deep"])
theorem MA(kind:Nat):∀(k:Nat) (th:Bool),dn kind k th<=9*k
 |0,_=>zero_le _
 |k+1,th=>by
  have:=MA kind k (nxB kind th)
  have:=YE kind th
  show 8+bf kind th+dn kind k (nxB kind th)<=_
  omega
theorem aXZ(i:Nat):lev 1 i=9:=by unfold lev;rw[if_pos (Or.inl rfl)]
theorem aTZ{i:Nat}(h:i%2=1):lev 2 i=9:=by unfold lev;rw[if_pos (Or.inr ⟨rfl,h⟩)]
theorem WI{i:Nat}(h:¬i%2=1):lev 2 i=8:=by unfold lev;rw[if_neg (λz=>h (by omega))]
theorem bLZ{kind i:Nat}(h:¬kind=1)(h2:¬kind=2):lev kind i=8:=by unfold lev;rw[if_neg (λz=>by omega)]
theorem GK{kind i:Nat}{x:Int}(h:x=((lev kind i:Nat):Int)):((List.range i).map (lev kind)).map (λm=>V.int ((m:Nat):Int))++ [V.int x]=((List.range (i+1)).map (lev kind)).map (λm=>V.int ((m:Nat):Int)):=by
 rw[h,List.range_succ,map_append,map_append];rfl
section
variable{P:Program}{w:World}{K:FZ}{mg:Str->Option Value}{base:Heap}{f V8:Addr}{fd X0:FuncData}
def XC:Sp:=λvs H Q _=>∃(count way:Nat) (n:Int) (kind most wide:Nat),vs=[.int (count:Nat),.int (way:Nat),.int n,.int (kind:Nat),.int (most:Nat),.int (wide:Nat)]/\way<6/\kind<3/\count<=1000/\most<=2000/\wide<=100/\
 ∀l u H',Same H H'->H' l=some (.tup [u,.int (T0 way kind (B7 way n).length count most wide:Nat),.int (U9 count most wide:Nat)])->ToldAt way n H' (T4 way count most wide) u->Q (.ref l) H'
theorem ok_law_due(F:Fun K "_law_due" "_law_due" s_law_due f fd)(B:NoE mg)
  (L7:Cn P w K mg base CX0 1 "_law_piece" aBZ KO):
  FnOk P w K mg base CX0 2 f fd q7L XC:=by
 obtain⟨V8,X0,L7,W0,W9,W8⟩:=L7
 refine F.ok sc_law_due (λvs H Q E h=> ?_) (λcdv A outer s H vs Q E hr h=> ?_)
 ·obtain⟨count,way,n,kind,most,wide,rfl,_⟩:=h
  rfl
 obtain⟨count,way,n,kind,most,wide,rfl,hw,hk,hc,hm,hwd,q⟩:=h
 have nd:=sc_law_due.nd
 have hu:=hr.units0
 have hs:sizeLine=sizeLine:=rfl
 refine⟨_,(A8 (C4 (i:=6) nd rfl (Or.inl rfl) (C8 (P4 (K:=K)) rfl B.len_ L9 (A0 (B9 L7 (hr.mono (by omega)) rfl W8 W9 W0 .nil C2 (A0 (pv 1) (A0 (pv 2) A6))) A6)))
   (A8 (AK (i:=7) nd rfl rfl (cS (N:=IL) (sc:=B0 s_law_due) (caps:=[3]) (ns:=["_law_kind"])) rfl rfl rfl (Q0 rfl B.range_ (A0 (pv 0) A6)) (λ_ _ _ _ _=>Z0) (λ_ _ _ _ _=>(C3 S6 A7 (G3 BL rfl B.int_ JW (A0 (dhZ (L0 (kEq (K:=K) hu) (pv 1) A7 rfl) (DB (FF (L0 (kEq (K:=K) hu) (pv 1) A7 rfl) (DB (L0 (kEq (K:=K) hu) (C3 J9 (pv 0) A7) A7 rfl))))) A6)))))
   (A8 (C4 (i:=8) nd rfl (Or.inl rfl) (C8 (UL rfl) rfl B.min_ ccZ (A0 (pv 0) (A0 (C3 S6 (pv 4) A7) (A0 (pv 5) A6)))))
   (A8 (G5 (D8 (PW.pt (PB (C7 (kEq (K:=K) hu) (pv 8) (C3 S6 (pv 4) A7) rfl) (KL (C7 aZZ (pv 8) (pv 0) rfl)))) (A9 (C0 (B4 (A0 (B4 (A0 B6 A6)) (A0 (C8 (RN (K:=K) rfl) rfl B.sum_ KF (A0 (J1 (AM (K:=K)) (pv 7) N7 (J0 (pv 8))) A6)) (A0 (pv 4) A6)))))) C9))
   (A8 (G5 (D8 (PW.pt (PB (C7 (kEq (K:=K) hu) (pv 8) (pv 5) rfl) (KL (C7 aZZ (pv 8) (pv 0) rfl)))) (A9 (C0 (B4 (A0 (B4 (A0 B6 A6)) (A0 (C8 (RN (K:=K) rfl) rfl B.sum_ KF (A0 (J1 (AM (K:=K)) (pv 7) N7 (J0 (pv 8))) A6)) (A0 (pv 5) A6)))))) C9))
   (A8 (D8 (C7 YF (pv 1) A7 rfl) (A8 (C4 (i:=9) nd rfl (Or.inl rfl) (ixE K w (J8 (A0 (pv 2) (A0 (J8 (A0 (pv 2) (A0 A7 A6))) A6))) (pv 1)))
   (A9 (C0 (B4 (A0 (B4 (A0 B6 (A0 (pv 9) A6))) (A0 (C3 S6 (C3 S6 (C3 S6 (C3 S6 (C8 (RN (K:=K) rfl) rfl B.sum_ KF (A0 (pv 7) A6)) A7) (pv 6)) A7) (pv 0)) (A0 (pv 0) A6))))))) C9)
   (A9 (C0 (B4 (A0 (B4 (A0 B6 (A0 (ixE K w (J8 (A0 B6 (A0 B6 (A0 B6 (A0 B6 A6))))) (C3 N6 (pv 1) A7)) A6))) (A0 (C3 S6 (C3 S6 (C8 (RN (K:=K) rfl) rfl B.sum_ KF (A0 (pv 7) A6)) A7) (pv 6)) (A0 (pv 0) A6)))))))))))), ?_⟩
 refine⟨_,rfl,_,rfl,way,n,rfl,hw,λu H1 s1 hR=> ?_⟩
 obtain⟨pp,pus,rfl,hpp,hpr⟩:=hR
 have lpp:=hpr.len
 refine⟨_,_,rfl,.inr ⟨_,SqT.of hpp,rfl⟩, ?_⟩
 refine⟨_,rfl,(count:Nat),rfl,by omega,by omega,AL (n:=count) (λj ys H2=>ys=((List.range j).map (lev kind)).map (λm=>V.int ((m:Nat):Int))/\H2=H1) ?_ ?_ ?_ ?_⟩
 ·exact⟨rfl,rfl⟩
 ·rintro i ys H2 hi ⟨rfl,rfl⟩
  rw[length_map,length_map,List.length_range]
  exact le_trans (le_trans hi hc) (by decide)
 ·rintro i ys H2 hi ⟨rfl,rfl⟩
  refine⟨_,rfl,.inl ⟨rfl,_,rfl, ?_⟩⟩
  by_cases c:kind=1
  ·subst c
   rw[if_pos (by decide)]
   exact .inl ⟨_,rfl,.inl ⟨_,_,rfl,rfl,GK (by rw[aXZ];rfl),rfl⟩⟩
  ·rw[if_neg (λz=>c (by have:=of_decide_eq_true z;injection this;omega))]
   refine⟨_,rfl,.inl ⟨rfl,_,rfl, ?_⟩⟩
   by_cases c2:kind=2
   ·subst c2
    rw[if_pos (by decide)]
    refine⟨_,rfl,_,_,rfl,rfl,(by decide:(0:Int)<2),.inl ⟨rfl,.inl ⟨_,rfl,.inl ⟨_,_,rfl,rfl,GK ?_,rfl⟩⟩⟩⟩
    show(8:Int)+(if decide (V.int (((0:Int)+(i:Nat))%2)=V.int 1)=true then 1 else 0)=((lev 2 i:Nat):Int)
    by_cases c3:i%2=1
    ·have e3:((0:Int)+(i:Nat))%2=1:=by omega
     rw[aTZ c3,if_pos (decide_eq_true (by rw[e3]))];rfl
    ·rw[WI c3,if_neg (λz=>c3 (by have:=of_decide_eq_true z;injection this;omega))];rfl
   ·rw[if_neg (λz=>c2 (by have:=of_decide_eq_true z;injection this;omega))]
    exact .inl ⟨_,rfl,.inl ⟨_,_,rfl,rfl,GK (by rw[bLZ c c2];rfl),rfl⟩⟩
 rintro ys H2 ⟨rfl,rfl⟩
 intro D hD
 have e1:=A5 hD (.lst (((List.range count).map (lev kind)).map (λm=>V.int ((m:Nat):Int))))
 show Q3 _ _ _ [some (.int (count:Nat)),some (.int (way:Nat)),some (.int n),some (.int (kind:Nat)),some (.int (most:Nat)),some (.int (wide:Nat)),some (.int (pus.length:Nat)),some (.ref D),none,none] (upd H2 D (.lst (((List.range count).map (lev kind)).map (λm=>V.int ((m:Nat):Int)))))
 have hL:upd H2 D (.lst (((List.range count).map (lev kind)).map (λm=>V.int ((m:Nat):Int)))) D=some (.lst (((List.range count).map (lev kind)).map (λm=>V.int ((m:Nat):Int)))):=upd_same
 generalize upd H2 D (.lst (((List.range count).map (lev kind)).map (λm=>V.int ((m:Nat):Int))))=H3 at e1 hL⊢
 have S3:=s1.trans e1
 refine⟨_,rfl,_,rfl,.inl ⟨_,_,rfl,rfl,_,rfl,_,_,_,rfl, ?_⟩⟩
 have hT:∀k,k<=count->K9 (((List.range count).map (lev kind)).map (λm=>V.int ((m:Nat):Int))) none (some ((k:Nat):Int))=((List.range k).map (lev kind)).map (λm=>V.int ((m:Nat):Int)):=λk hk=>by
  unfold K9
  rw[HT.sIx_none,HT.sIx_nat,List.drop_zero,length_map,length_map,List.length_range,min_eq_left hk,sub_zero,<-List.map_take,<-List.map_take,List.take_range,min_eq_left hk]
 have hd:∀k,k<=1000->((List.range k).map (lev kind)).sum<=1000000:=λk hk=>by
  have h1:=MA kind k false
  have h2:((List.range k).map (lev kind)).sum=dn kind k false:=(dn0 kind k).symm
  omega
 by_cases c1:most+1<=count/\most+1<=wide
 ·have el:(if(most:Int)+1<(count:Int)then(if(wide:Int)<(most:Int)+1 then(wide:Int)else(most:Int)+1)else(if(wide:Int)<(count:Int)then(wide:Int)else(count:Int)))=((most+1:Nat):Int):=by
   split<;>split<;>omega
  rw[el]
  refine⟨λ_ _=>False,⟨_,rfl,_,rfl,.inl ⟨_,_,rfl,rfl,.inl ⟨rfl,_,rfl,ifT (decide_eq_true rfl) ⟨_,rfl,_,rfl,_,_,rfl,rfl,_,rfl,ifT (decide_eq_true (by omega)) ?_⟩⟩⟩⟩,λ_ _ h=>h.elim⟩
  refine⟨z1,λa1 h1=>⟨_,rfl,_,rfl,_,rfl,.inl (.inl ⟨D,_,rfl,SqL.of ((A5 h1 _) _ _ hL),λp hp=>⟨p,(List.range (most+1)).map (lev kind),rfl,SqL.of (by rw[upd_same,hT _ c1.1]),hd _ (by omega),_,rfl,z3,λl hl=> ?_⟩⟩)⟩⟩
  have x1:=A5 h1 (.tup [.str "dry"])
  have x2:=A5 hp (.lst (K9 (((List.range count).map (lev kind)).map (λm=>V.int ((m:Nat):Int))) none (some ((most+1:Nat):Int))))
  have x3:=A5 hl (.tup [.ref a1,.int ((((List.range (most+1)).map (lev kind)).sum:Nat):Int),.int (most:Nat)])
  refine q l (.ref a1) _ (S3.trans (x1.trans (x2.trans x3))) ?_ ?_
  ·rw[upd_same]
   unfold T0 U9
   rw[if_pos c1,if_pos c1,dn0]
  ·unfold T4
   rw[if_pos c1]
   exact⟨a1,rfl,(x2.trans x3) _ _ upd_same⟩
 by_cases c2:wide<=count
 ·have el:(if(most:Int)+1<(count:Int)then(if(wide:Int)<(most:Int)+1 then(wide:Int)else(most:Int)+1)else(if(wide:Int)<(count:Int)then(wide:Int)else(count:Int)))=((wide:Nat):Int):=by
   split<;>split<;>omega
  rw[el]
  refine⟨fun σ' H'=>σ'=[some (.int (count:Nat)),some (.int (way:Nat)),some (.int n),some (.int (kind:Nat)),some (.int (most:Nat)),some (.int (wide:Nat)),some (.int (pus.length:Nat)),some (.ref D),some (.int (wide:Nat)),none]/\H'=H3,⟨_,rfl,_,rfl,.inl ⟨_,_,rfl,rfl,.inl ⟨rfl,_,rfl,ifF (λz=>absurd (of_decide_eq_true z) (by intro e;injection e;omega)) (ifF (by decide) ⟨rfl,rfl⟩)⟩⟩⟩, ?_⟩
  rintro _ H' ⟨rfl,e⟩
  rw[e]
  clear e H'
  refine⟨λ_ _=>False,⟨_,rfl,_,rfl,.inl ⟨rfl,_,rfl,ifT (decide_eq_true rfl) ⟨_,rfl,_,rfl,_,_,rfl,rfl,_,rfl,ifT (decide_eq_true (by omega)) ?_⟩⟩⟩,λ_ _ h=>h.elim⟩
  refine⟨z1,λa1 h1=>⟨_,rfl,_,rfl,_,rfl,.inl (.inl ⟨D,_,rfl,SqL.of ((A5 h1 _) _ _ hL),λp hp=>⟨p,(List.range wide).map (lev kind),rfl,SqL.of (by rw[upd_same,hT _ c2]),hd _ (by omega),_,rfl,z3,λl hl=> ?_⟩⟩)⟩⟩
  have x1:=A5 h1 (.tup [.str "deep"])
  have x2:=A5 hp (.lst (K9 (((List.range count).map (lev kind)).map (λm=>V.int ((m:Nat):Int))) none (some ((wide:Nat):Int))))
  have x3:=A5 hl (.tup [.ref a1,.int ((((List.range wide).map (lev kind)).sum:Nat):Int),.int (wide:Nat)])
  refine q l (.ref a1) _ (S3.trans (x1.trans (x2.trans x3))) ?_ ?_
  ·rw[upd_same]
   unfold T0 U9
   rw[if_neg c1,if_neg c1,if_pos c2,if_pos c2,dn0]
  ·unfold T4
   rw[if_neg c1,if_pos c2]
   exact⟨a1,rfl,(x2.trans x3) _ _ upd_same⟩
 have el:(if(most:Int)+1<(count:Int)then(if(wide:Int)<(most:Int)+1 then(wide:Int)else(most:Int)+1)else(if(wide:Int)<(count:Int)then(wide:Int)else(count:Int)))=((count:Nat):Int):=by
  split<;>split<;>omega
 rw[el]
 refine⟨fun σ' H'=>σ'=[some (.int (count:Nat)),some (.int (way:Nat)),some (.int n),some (.int (kind:Nat)),some (.int (most:Nat)),some (.int (wide:Nat)),some (.int (pus.length:Nat)),some (.ref D),some (.int (count:Nat)),none]/\H'=H3,⟨_,rfl,_,rfl,.inl ⟨_,_,rfl,rfl,.inl ⟨rfl,_,rfl,ifF (λz=>absurd (of_decide_eq_true z) (by intro e;injection e;omega)) (ifF (by decide) ⟨rfl,rfl⟩)⟩⟩⟩, ?_⟩
 rintro _ H' ⟨rfl,e⟩
 rw[e]
 clear e H'
 refine⟨fun σ' H'=>σ'=[some (.int (count:Nat)),some (.int (way:Nat)),some (.int n),some (.int (kind:Nat)),some (.int (most:Nat)),some (.int (wide:Nat)),some (.int (pus.length:Nat)),some (.ref D),some (.int (count:Nat)),none]/\H'=H3,⟨_,rfl,_,rfl,.inl ⟨rfl,_,rfl,ifF (λz=>absurd (of_decide_eq_true z) (by intro e;injection e;omega)) (ifF (by decide) ⟨rfl,rfl⟩)⟩⟩, ?_⟩
 rintro _ H' ⟨rfl,e⟩
 rw[e]
 clear e H'
 have es:((List.range count).map (lev kind)).sum=dn kind count false:=(dn0 kind count).symm
 have lp:(B7 way n).length=pus.length:=lpp
 by_cases c3:way<2
 ·refine⟨_,rfl,_,_,rfl,rfl,_,rfl,ifT (decide_eq_true (by omega)) ?_⟩
  refine⟨_,rfl,_,rfl,z2,λb1 hb1=>⟨z2,λb2 hb2=>⟨_,rfl, ?_⟩⟩⟩
  have x1:=A5 hb1 (.lst [.int n,.int 5])
  have x2:=A5 hb2 (.lst [.int n,.ref b1])
  have hv:∃v,[V.int n,V.ref b1][way]? =some v/\(way=0/\v=.int n\/way=1/\v=.ref b1):=by
   have h01:way=0\/way=1:=by omega
   rcases h01 with rfl|rfl
   ·exact⟨_,rfl,.inl ⟨rfl,rfl⟩⟩
   ·exact⟨_,rfl,.inr ⟨rfl,rfl⟩⟩
  obtain⟨v,ev,hv⟩:=hv
  refine(ixL (v:=v) upd_same (J2 ev) ?_)
  refine⟨_,rfl,z2,λa1 ha1=>⟨_,rfl,D,(List.range count).map (lev kind),rfl,SqL.of (((x1.trans x2).trans (A5 ha1 _)) _ _ hL),hd _ (by omega),.inl ⟨_,_,rfl,rfl,_,rfl,.inl ⟨_,_,rfl,rfl,.inl ⟨_,_,rfl,rfl,_,rfl,.inl ⟨_,_,rfl,rfl,_,rfl,z3,λl hl=> ?_⟩⟩⟩⟩⟩⟩
  have x3:=A5 ha1 (.tup [.str "value",v])
  have x4:=A5 hl (.tup [.ref a1,.int (((((((List.range count).map (lev kind)).sum:Nat):Int)+4)+(pus.length:Nat))+1+(count:Nat)),.int (count:Nat)])
  refine q l (.ref a1) _ (S3.trans (x1.trans (x2.trans (x3.trans x4)))) ?_ ?_
  ·rw[upd_same]
   unfold T0 U9
   rw[if_neg c1,if_neg c1,if_neg c2,if_neg c2,if_pos c3,es,lp]
   rfl
  ·unfold T4
   rw[if_neg c1,if_neg c2,if_pos c3]
   refine⟨a1,v,rfl,x4 _ _ upd_same, ?_⟩
   rcases hv with⟨h0,rfl⟩|⟨h1,rfl⟩
   ·exact .inl ⟨h0,rfl⟩
   ·exact .inr ⟨h1,b1,rfl,(x2.trans (x3.trans x4)) _ _ upd_same⟩
 ·refine⟨_,rfl,_,_,rfl,rfl,_,rfl,ifF (λz=>c3 (by have:=of_decide_eq_true z;omega)) ?_⟩
  refine⟨z4,λb1 hb1=>⟨_,rfl,_,_,rfl,rfl, ?_⟩⟩
  have x1:=A5 hb1 (.lst [.str "nought",.str "great",.str "head",.str "tail"])
  have ew:((way:Nat):Int) - 2=((way - 2:Nat):Int):=by omega
  have hv: [V.str "nought",V.str "great",V.str "head",V.str "tail"][way - 2]? =some (.str (rfW way)):=by
   have h01:way=2\/way=3\/way=4\/way=5:=by omega
   rcases h01 with rfl|rfl|rfl|rfl<;>rfl
  refine(ixL upd_same (by rw[ew];exact J2 hv) ?_)
  refine⟨z2,λa1 ha1=>⟨_,rfl,D,(List.range count).map (lev kind),rfl,SqL.of ((x1.trans (A5 ha1 _)) _ _ hL),hd _ (by omega),.inl ⟨_,_,rfl,rfl,_,rfl,.inl ⟨_,_,rfl,rfl,_,rfl,z3,λl hl=> ?_⟩⟩⟩⟩
  have x3:=A5 ha1 (.tup [.str "refused",.str (rfW way)])
  have x4:=A5 hl (.tup [.ref a1,.int ((((((List.range count).map (lev kind)).sum:Nat):Int)+4)+(pus.length:Nat)),.int (count:Nat)])
  refine q l (.ref a1) _ (S3.trans (x1.trans (x3.trans x4))) ?_ ?_
  ·rw[upd_same]
   unfold T0 U9
   rw[if_neg c1,if_neg c1,if_neg c2,if_neg c2,if_neg c3,es,lp]
   rfl
  ·unfold T4
   rw[if_neg c1,if_neg c2,if_neg c3]
   exact⟨a1,rfl,x4 _ _ upd_same⟩
end
noncomputable abbrev s_law_due_often:Stmt:=CL.top 47
abbrev ET:List Str:=["_law_count","_law_way","_law_number_here","_law_kind","_law_most","_law_often","_law_rows","_law_calls","_law_told","_law_turn","_law_more","_law_counted"]
theorem sc_law_due_often:FnScope ET q5L (B0 s_law_due_often):=fS
theorem KR(way kind most len x d c m:Nat)(hc:c<=most)(hd:d<=59):
  (res way kind most len x false d c m).e=T4 way x (most - c) (60 - d)/\(res way kind most len x false d c m).rows+(if(res way kind most len x false d c m).e=0 then 1 else 0)=T0 way kind len x (most - c) (60 - d)/\(res way kind most len x false d c m).calls=c+U9 x (most - c) (60 - d):=by
 obtain⟨i1,i2,i3⟩:=GD way kind most len x false d c m hc hd
 generalize res way kind most len x false d c m=R at i1 i2 i3⊢
 unfold T4 T0 U9
 by_cases c1:most - c+1<=x/\most - c+1<=60 - d
 ·obtain⟨a,b,e⟩:=i1 c1
  rw[if_pos c1,if_pos c1,if_pos c1,a,b,e]
  exact⟨rfl,rfl,by omega⟩
 ·rw[if_neg c1,if_neg c1,if_neg c1]
  by_cases c2:60 - d<=x
  ·obtain⟨a,b,e⟩:=i2 (by omega)
   rw[if_pos c2,if_pos c2,if_pos c2,a,b,e]
   exact⟨rfl,rfl,rfl⟩
  ·obtain⟨a,b,e⟩:=i3 (by omega)
   rw[if_neg c2,if_neg c2,if_neg c2,a,b,e]
   by_cases c3:way<2
   ·rw[if_pos c3,if_pos c3,if_pos c3]
    exact⟨rfl,by show _+1=_;omega,rfl⟩
   ·rw[if_neg c3,if_neg c3,if_neg c3]
    exact⟨rfl,by show _+0=_;omega,rfl⟩
theorem RX{way kind most len x k r c m:Nat}(h:most<=c):ofn way kind most len x (k+1) r c m=⟨2,r+2,c,m⟩:=by unfold ofn;rw[if_pos h]
theorem WQ{way kind most len x k r c m:Nat}(h:c+1<=most)(h0:T4 way x (most - (c+1)) 59=0):∃m',ofn way kind most len x (k+1) r c m=ofn way kind most len x k (r+2+T0 way kind len x (most - (c+1)) 59) (c+1+U9 x (most - (c+1)) 59) m':=by
 obtain⟨a,b,e⟩:=KR way kind most len x 1 (c+1) m h (by omega)
 refine⟨(res way kind most len x false 1 (c+1) m).cells, ?_⟩
 have a':(res way kind most len x false 1 (c+1) m).e=0:=a.trans h0
 rw[if_pos a']at b
 conv=>lhs;unfold ofn
 rw[if_neg (by omega),if_pos a',e,Nat.add_assoc (r+2),b]
theorem RZ{way kind most len x k r c m:Nat}(h:c+1<=most)(h0:T4 way x (most - (c+1)) 59≠0):∃m',ofn way kind most len x (k+1) r c m=⟨T4 way x (most - (c+1)) 59,r+2+T0 way kind len x (most - (c+1)) 59,c+1+U9 x (most - (c+1)) 59,m'⟩:=by
 obtain⟨a,b,e⟩:=KR way kind most len x 1 (c+1) m h (by omega)
 refine⟨(res way kind most len x false 1 (c+1) m).cells, ?_⟩
 have a':(res way kind most len x false 1 (c+1) m).e≠0:=λz=>h0 (a.symm.trans z)
 rw[if_neg a']at b
 conv=>lhs;unfold ofn
 rw[if_neg (by omega),if_neg a',a,e]
 have b':(res way kind most len x false 1 (c+1) m).rows=T0 way kind len x (most - (c+1)) 59:=b
 rw[b']
theorem QK{way x most:Nat}(h:T4 way x most 59=0):U9 x most 59<=most:=by
 unfold T4 at h
 unfold U9
 by_cases c1:most+1<=x/\most+1<=59
 ·rw[if_pos c1];omega
 ·rw[if_neg c1]at h⊢
  by_cases c2:59<=x
  ·rw[if_pos c2]at h;cases h
  ·rw[if_neg c2];omega
theorem ToldAt.mo{way:Nat}{n:Int}{H H':Hp}(m:Same H H'):∀ {e:Nat} {u:V},ToldAt way n H e u->ToldAt way n H' e u
 |0,u,h=>by
  obtain⟨p,v,e1,e2,h|⟨h,q,e3,e4⟩⟩:=h
  ·exact⟨p,v,e1,m _ _ e2,.inl h⟩
  ·exact⟨p,v,e1,m _ _ e2,.inr ⟨h,q,e3,m _ _ e4⟩⟩
 |1,u,h=>let⟨p,e1,e2⟩:=h;⟨p,e1,m _ _ e2⟩
 |2,u,h=>let⟨p,e1,e2⟩:=h;⟨p,e1,m _ _ e2⟩
 |_+3,u,h=>let⟨p,e1,e2⟩:=h;⟨p,e1,m _ _ e2⟩
theorem ToldAt.tag{way:Nat}{n:Int}{H:Hp}:∀ {e:Nat} {u:V},ToldAt way n H e u->∃p t r,u=.ref p/\H p=some (.tup (.str t::r))/\(decide (V.str t=V.str "value")=decide (e=0))
 |0,u,h=>let⟨p,_,e1,e2,_⟩:=h;⟨p,_,_,e1,e2,by decide⟩
 |1,u,h=>let⟨p,e1,e2⟩:=h;⟨p,_,_,e1,e2,by decide⟩
 |2,u,h=>let⟨p,e1,e2⟩:=h;⟨p,_,_,e1,e2,by decide⟩
 |k+3,u,h=>let⟨p,e1,e2⟩:=h;⟨p,_,_,e1,e2,by rw[decide_eq_false (by omega:¬k+3=0)];decide⟩
section
variable{P:Program}{w:World}{K:FZ}{mg:Str->Option Value}{base:Heap}{f Y1:Addr}{fd X9:FuncData}
def WH:Sp:=λvs H Q _=>∃(count way:Nat) (n:Int) (kind most often:Nat),vs=[.int (count:Nat),.int (way:Nat),.int n,.int (kind:Nat),.int (most:Nat),.int (often:Nat)]/\way<6/\kind<3/\count<=1000/\most<=2000/\1<=often/\often<=3/\
 ∀l u H',Same H H'->H' l=some (.tup [u,.int ((ofn way kind most (B7 way n).length count often 0 0 0).rows:Nat),.int ((ofn way kind most (B7 way n).length count often 0 0 0).calls:Nat)])->ToldAt way n H' (ofn way kind most (B7 way n).length count often 0 0 0).e u->Q (.ref l) H'
theorem ok_law_due_often(F:Fun K "_law_due_often" "_law_due_often" s_law_due_often f fd)(B:NoE mg)
  (O4:Cn P w K mg base CX0 2 "_law_due" q7L XC):
  FnOk P w K mg base CX0 3 f fd q5L WH:=by
 obtain⟨Y1,X9,O4,CI,CN,BY⟩:=O4
 refine F.ok sc_law_due_often (λvs H Q E h=> ?_) (λcdv A outer s H vs Q E hr h=> ?_)
 ·obtain⟨count,way,n,kind,most,often,rfl,_⟩:=h
  rfl
 obtain⟨count,way,n,kind,most,often,rfl,hw,hk,hc,hm,ho1,ho3,q⟩:=h
 have nd:=sc_law_due_often.nd
 have hu:=hr.units0
 refine⟨_,(A8 (C4 (i:=6) nd rfl (Or.inl rfl) A7)
   (A8 (C4 (i:=7) nd rfl (Or.inl rfl) A7)
   (A8 (C4 (i:=8) nd rfl (Or.inl rfl) S0)
   (A8 (G5 (X2 PassesOwn.never rfl (Q0 rfl B.range_ (A0 (pv 5) A6)) (M5 (i:=9) nd rfl (Or.inl rfl)) (A8 (C4 (i:=6) nd rfl (Or.inl rfl) (C3 S6 (pv 6) A7))
   (A8 (D8 (C7 (kEq (K:=K) hu) (pv 7) (pv 4) rfl) (A9 (C0 (B4 (A0 (B4 (A0 B6 A6)) (A0 (pv 6) (A0 (pv 7) A6)))))) C9)
   (A8 (DG (B9 O4 (hr.mono (by omega)) rfl BY CN CI .nil C2 (A0 (pv 0) (A0 (pv 1) (A0 (pv 2) (A0 (pv 3) (A0 (C3 N6 (C3 N6 (pv 4) (pv 7)) A7) (A0 A7 A6))))))) (YM rfl (X4 (M5 (i:=8) nd rfl (Or.inl rfl)) (X4 (M5 (i:=10) nd rfl (Or.inl rfl)) (X4 (M5 (i:=11) nd rfl (Or.inl rfl)) QO)))))
   (A8 (C4 (i:=6) nd rfl (Or.inl rfl) (C3 S6 (pv 6) (pv 10)))
   (A8 (C4 (i:=7) nd rfl (Or.inl rfl) (C3 S6 (C3 S6 (pv 7) A7) (pv 11)))
   (A9 (D8 (C7 (kNe (K:=K) hu) (ixE K w (pv 8) A7) B6 rfl) (A9 (C0 (B4 (A0 (pv 8) (A0 (pv 6) (A0 (pv 7) A6)))))) C9)))))))))
   (A9 (C0 (B4 (A0 (pv 8) (A0 (C3 S6 (pv 6) A7) (A0 (pv 7) A6)))))))))), ?_⟩
 refine⟨fun σ' H'=>∃(r c m:Nat) (u:V) (a9 a10 a11:Option V),σ'=[some (.int (count:Nat)),some (.int (way:Nat)),some (.int n),some (.int (kind:Nat)),some (.int (most:Nat)),some (.int (often:Nat)),some (.int (r:Nat)),some (.int (c:Nat)),some u,a9,a10,a11]/\Same H H'/\ToldAt way n H' 0 u/\ofn way kind most (B7 way n).length count often 0 0 0=ofn way kind most (B7 way n).length count 0 r c m, ?_, ?_⟩
 ·refine⟨_,rfl,(often:Nat),rfl,by omega,by omega,DH (n:=often) (λi σ' H'=>∃(r c m:Nat) (u:V) (a9 a10 a11:Option V),σ'=[some (.int (count:Nat)),some (.int (way:Nat)),some (.int n),some (.int (kind:Nat)),some (.int (most:Nat)),some (.int (often:Nat)),some (.int (r:Nat)),some (.int (c:Nat)),some u,a9,a10,a11]/\Same H H'/\c<=most/\(i=0\/ToldAt way n H' 0 u)/\ofn way kind most (B7 way n).length count often 0 0 0=ofn way kind most (B7 way n).length count (often - i) r c m) ?_ ?_ ?_⟩
  ·exact⟨0,0,0,.non,none,none,none,rfl,Same.refl _,zero_le _,.inl rfl,rfl⟩
  ·rintro i _ H1 hi ⟨r,c,m,u,a9,a10,a11,rfl,s1,hcm,_,eo⟩
   obtain⟨k,hk'⟩:∃k,often - i=k+1:=⟨often - i - 1,by omega⟩
   have hk2:often - (i+1)=k:=by omega
   rw[hk']at eo
   have e2:((r:Nat):Int)+2=((r+2:Nat):Int):=by omega
   refine⟨_,rfl,.inl ⟨_,_,rfl,rfl, ?_⟩⟩
   refine⟨_,rfl,_,rfl,.inl ⟨rfl,_,rfl, ?_⟩⟩
   by_cases hd:c=most
   ·refine ifT (decide_eq_true (by rw[hd])) ?_
    refine⟨z1,λa1 h1=>⟨_,rfl,_,rfl,z3,λl hl=> ?_⟩⟩
    have x1:=A5 h1 (.tup [.str "dry"])
    have x2:=A5 hl (.tup [.ref a1,.int ((r:Nat)+2),.int (c:Nat)])
    have ed:=RX (way:=way) (kind:=kind) (len:=(B7 way n).length) (x:=count) (k:=k) (r:=r) (m:=m) (le_of_eq hd.symm)
    rw[eo,ed]at q
    exact q l (.ref a1) _ (s1.trans (x1.trans x2)) (by rw[upd_same];rfl) ⟨a1,rfl,x2 _ _ upd_same⟩
   ·refine ifF (λz=>hd (by have:=of_decide_eq_true z;injection this;omega)) ?_
    have em:(most:Int) - (c:Nat) - 1=((most - (c+1):Nat):Int):=by omega
    refine⟨_,rfl,_,rfl,_,rfl,_,rfl,_,rfl,_,rfl,_,_,rfl,rfl,_,_,rfl,rfl, ?_⟩
    refine⟨count,way,n,kind,most - (c+1),59,(by show [V.int (count:Nat),V.int (way:Nat),V.int n,V.int (kind:Nat),V.int ((most:Int) - (c:Nat) - 1),V.int 59]=_;rw[em];rfl),hw,hk,hc,by omega,by omega,λl u2 H2 s2 hl hT=> ?_⟩
    refine⟨l,_,rfl,SqT.of hl,rfl,_,_,rfl,_,_,rfl,_,_,rfl,rfl, ?_⟩
    obtain⟨p,t,rs,rfl,hp,ht⟩:=hT.tag
    refine⟨_,rfl,_,rfl,.inl ⟨_,_,rfl,rfl, ?_⟩⟩
    refine⟨_,rfl,.inl ⟨_,_,rfl,rfl,_,rfl,.inl ⟨_,_,rfl,rfl, ?_⟩⟩⟩
    refine⟨_,rfl,(ixT (v:=.str t) hp (J2 (j:=0) rfl) (.inl ⟨rfl,_,rfl, ?_⟩))⟩
    have er:((r:Nat):Int)+2+((T0 way kind (B7 way n).length count (most - (c+1)) 59:Nat):Int)=((r+2+T0 way kind (B7 way n).length count (most - (c+1)) 59:Nat):Int):=by omega
    have ec:((c:Nat):Int)+1+((U9 count (most - (c+1)) 59:Nat):Int)=((c+1+U9 count (most - (c+1)) 59:Nat):Int):=by omega
    by_cases h0:T4 way count (most - (c+1)) 59=0
    ·refine ifF (by rw[ht,decide_eq_true h0];decide) ?_
     obtain⟨m',e'⟩:=WQ (way:=way) (kind:=kind) (len:=(B7 way n).length) (x:=count) (k:=k) (r:=r) (m:=m) (c:=c) (most:=most) (by omega) h0
     rw[h0]at hT
     have hcl:=QK h0
     refine⟨r+2+T0 way kind (B7 way n).length count (most - (c+1)) 59,c+1+U9 count (most - (c+1)) 59,m',.ref p,some (.int (0+(i:Nat))),some (.int ((T0 way kind (B7 way n).length count (most - (c+1)) 59:Nat):Int)),some (.int ((U9 count (most - (c+1)) 59:Nat):Int)), ?_,s1.trans s2,by omega,.inr hT,by rw[hk2,eo,e']⟩
     rw[<-er,<-ec];rfl
    ·refine ifT (by rw[ht,decide_eq_false h0];decide) ?_
     obtain⟨m',e'⟩:=RZ (way:=way) (kind:=kind) (len:=(B7 way n).length) (x:=count) (k:=k) (r:=r) (m:=m) (c:=c) (most:=most) (by omega) h0
     refine⟨_,rfl,_,rfl,_,rfl,z3,λl3 hl3=> ?_⟩
     have x2:=A5 hl3 (.tup [.ref p,.int ((r:Nat)+2+((T0 way kind (B7 way n).length count (most - (c+1)) 59:Nat):Int)),.int ((c:Nat)+1+((U9 count (most - (c+1)) 59:Nat):Int))])
     rw[eo,e']at q
     exact q l3 (.ref p) _ (s1.trans (s2.trans x2)) (by rw[upd_same,<-er,<-ec]) (hT.mo x2)
  ·rintro _ H1 ⟨r,c,m,u,a9,a10,a11,rfl,s1,hcm,h0,eo⟩
   rw[Nat.sub_self]at eo
   exact⟨r,c,m,u,a9,a10,a11,rfl,s1,h0.resolve_left (by omega),eo⟩
 ·rintro _ H1 ⟨r,c,m,u,a9,a10,a11,rfl,s1,h0,eo⟩
  refine⟨_,rfl,_,rfl,.inl ⟨_,_,rfl,rfl,_,rfl,z3,λl hl=> ?_⟩⟩
  have x2:=A5 hl (.tup [u,.int ((r:Nat)+1),.int (c:Nat)])
  rw[eo]at q
  exact q l u _ (s1.trans x2) (by rw[upd_same];rfl) (h0.mo x2)
end
def DqS(H:Hp):Nat->V->V->Prop
 |0,x,y=>HI x=true/\x=y
 |n+1,x,y=>(HI x=true/\x=y)\/∃a b xs ys,x=.ref a/\y=.ref b/\((H a=some (.tup xs)/\H b=some (.tup ys))\/(H a=some (.lst xs)/\H b=some (.lst ys)))/\xs.length<=1000/\All2 (DqS H n) xs ys
theorem DqS.mono{H H':Hp}(m:Same H H'):∀(n:Nat) {x y:V},DqS H n x y->DqS H' n x y
 |0,_,_,h=>h
 |n+1,_,_,h=>by
  rcases h with h|⟨a,b,xs,ys,e1,e2,h,hl,hA⟩
  ·exact .inl h
  ·refine .inr ⟨a,b,xs,ys,e1,e2, ?_,hl,hA.imp λ_ _ z=>DqS.mono m n z⟩
   rcases h with⟨h1,h2⟩|⟨h1,h2⟩
   ·exact .inl ⟨m _ _ h1,m _ _ h2⟩
   ·exact .inr ⟨m _ _ h1,m _ _ h2⟩
section
variable{P:Program}{w:World}{K:FZ}{mg:Str->Option Value}{base:Heap}{f:Addr}{fd:FuncData}
def Y7(n:Nat):Sp:=λvs H Q _=>∃x y,vs=[x,y]/\DqS H n x y/\∀H',Same H H'->Q (.bl true) H'
theorem DS{n:Nat}{sp:Sp}(F:Fun K "_law_same" "_law_same" s_law_same f fd)(B:NoG mg)(M7:FnOk P w K mg base CX0 n f fd q9L sp)(hsp:∀m,n=m+1->sp=Y7 m)
  (L3:Binds K fd q9L [])(L4:kZ K (.ref f)=true)(L5:mg "_law_same"=some (.ref f)):FnOk P w K mg base CX0 (n+1) f fd q9L (Y7 n):=by
 refine F.ok sc_law_same (λvs H Q E h=> ?_) (λcdv A outer s H vs Q E hr h=> ?_)
 ·obtain⟨x,y,rfl,_⟩:=h
  rfl
 obtain⟨x,y,rfl,hd,q⟩:=h
 have nd:=sc_law_same.nd
 have hu:=hr.units0
 have zz:(1000:Nat)<=sizeLine:=by decide
 refine⟨_,(A8 (G5 (D8 (PW.pt (IA (C7 (kNe (K:=K) hu) (C8 (T5 (K:=K)) rfl B.isinstance_ D7 (A0 (pv 1) (A0 (K6 (v:=.ty "list") rfl B.list_ M2 rfl) A6))) (C8 (T5 (K:=K)) rfl B.isinstance_ D7 (A0 (pv 0) (A0 (K6 (v:=.ty "list") rfl B.list_ M2 rfl) A6))) rfl) (FS (C7 (kNe (K:=K) hu) (C8 (T5 (K:=K)) rfl B.isinstance_ D7 (A0 (pv 1) (A0 (K6 (v:=.ty "tuple") rfl B.tuple_ N5 rfl) A6))) (C8 (T5 (K:=K)) rfl B.isinstance_ D7 (A0 (pv 0) (A0 (K6 (v:=.ty "tuple") rfl B.tuple_ N5 rfl) A6))) rfl)))) (A9 (C0 V5)) C9))
   (A8 (D8 (K7 (K:=K) (C8 (b5Z (K:=K)) rfl B.isinstance_ D7 (A0 (pv 1) (A0 (B4 (A0 (K6 (v:=.ty "list") rfl B.list_ M2 rfl) (A0 (K6 (v:=.ty "tuple") rfl B.tuple_ N5 rfl) A6))) A6))) (λ_=>rfl)) (A9 (C0 (FF (L0 (kEq (K:=K) hu) (C8 (P4 (K:=K)) rfl B.len_ L9 (A0 (pv 0) A6)) (C8 (P4 (K:=K)) rfl B.len_ L9 (A0 (pv 1) A6)) rfl) (DB (C8 (cRZ (K:=K) rfl) rfl B.all_ bOZ (A0 (KM (cS (N:=GV) (sc:=B0 s_law_same) (caps:=[0,1]) (ns:=q9L)) rfl rfl rfl (Q0 rfl B.range_ (A0 (C8 (P4 (K:=K)) rfl B.len_ L9 (A0 (pv 1) A6)) A6)) (λ_ _ _ _ _=>Z0) (λ_ _ _ _ _=>(B9 M7 (hr.mono (by omega)) rfl L5 L4 L3 .nil C2 (A0 (ixE K w (pv 1) (pv 0)) (A0 (ixE K w (pv 2) (pv 0)) A6))))) A6)))))) C9)
   (A8 (G5 (D8 (PW.pt (IA (C7 (kNe (K:=K) hu) (C8 (T5 (K:=K)) rfl B.isinstance_ D7 (A0 (pv 1) (A0 (K6 (v:=.ty "bool") rfl B.bool_ QS rfl) A6))) (C8 (T5 (K:=K)) rfl B.isinstance_ D7 (A0 (pv 0) (A0 (K6 (v:=.ty "bool") rfl B.bool_ QS rfl) A6))) rfl) (FS (C7 (kNe (K:=K) hu) (C8 (T5 (K:=K)) rfl B.isinstance_ D7 (A0 (pv 1) (A0 (K6 (v:=.ty "str") rfl B.str_ YA rfl) A6))) (C8 (T5 (K:=K)) rfl B.isinstance_ D7 (A0 (pv 0) (A0 (K6 (v:=.ty "str") rfl B.str_ YA rfl) A6))) rfl)))) (A9 (C0 V5)) C9))
   (A9 (C0 (FF (L0 (kEq (K:=K) hu) (C8 (T5 (K:=K)) rfl B.isinstance_ D7 (A0 (pv 1) (A0 (K6 (v:=.ty "int") rfl B.int_ JW rfl) A6))) (C8 (T5 (K:=K)) rfl B.isinstance_ D7 (A0 (pv 0) (A0 (K6 (v:=.ty "int") rfl B.int_ JW rfl) A6))) rfl) (DB (L0 (kEq (K:=K) hu) (pv 0) (pv 1) rfl)))))))), ?_⟩
 have hd2:(HI x=true/\x=y)\/∃a b xs ys m t,x=.ref a/\y=.ref b/\n=m+1/\xs.length<=1000/\All2 (DqS H m) xs ys/\TyOf K H x t/\TyOf K H y t/\(∃c,kitOne K t (.type "list")=some c)/\(∃c,kitOne K t (.type "tuple")=some c)/\
   kitAny K t [.type "list",.type "tuple"]=some true/\((H a=some (.tup xs)/\H b=some (.tup ys))\/(H a=some (.lst xs)/\H b=some (.lst ys))):=by
  cases n with
  |zero=>exact .inl hd
  |succ m=>
   rcases hd with hd|⟨a,b,xs,ys,rfl,rfl,⟨ha,hb⟩|⟨ha,hb⟩,hl,hA⟩
   ·exact .inl hd
   ·exact .inr ⟨a,b,xs,ys,m,_,rfl,rfl,rfl,hl,hA,.tup ha,.tup hb,⟨_,bTZ⟩,⟨_,PF⟩,drZ,.inl ⟨ha,hb⟩⟩
   ·exact .inr ⟨a,b,xs,ys,m,_,rfl,rfl,rfl,hl,hA,.lst ha,.lst hb,⟨_,XZ⟩,⟨_,bWZ⟩,ddZ,.inr ⟨ha,hb⟩⟩
 refine⟨fun σ H'=>σ=[some x,some y]/\H=H', ?_, ?_⟩
 ·have ht:∃t c d,TyOf K H x t/\TyOf K H y t/\kitOne K t (.type "list")=some c/\kitOne K t (.type "tuple")=some d:=by
   rcases hd2 with⟨hs,rfl⟩|⟨a,b,xs,ys,m,t,_,_,_,_,_,h1,h2,⟨c,hc⟩,⟨d,hd⟩,_⟩
   ·obtain⟨t,h1,h2⟩:=VN (K:=K) (H:=H) hs
    exact⟨t,_,_,h1,h1,h2.li,h2.tu⟩
   ·exact⟨t,c,d,h1,h2,hc,hd⟩
  obtain⟨t,c,d,h1,h2,hc,hd⟩:=ht
  refine⟨_,rfl,_,_,_,_,rfl,h2,hc,_,rfl,_,_,_,_,rfl,h1,hc,.inl ⟨rfl,_,rfl,ifF (by simp) ?_⟩⟩
  exact⟨_,rfl,_,_,_,_,rfl,h2,hd,_,rfl,_,_,_,_,rfl,h1,hd,.inl ⟨rfl,_,rfl,ifF (by simp) ⟨rfl,rfl⟩⟩⟩
 rintro σ H' ⟨rfl,rfl⟩
 refine⟨_,rfl,M8,λp hp=> ?_⟩
 have s1:=A5 hp (.tup [.ty "list",.ty "tuple"])
 rcases hd2 with⟨hs,rfl⟩|⟨a,b,xs,ys,m,t,rfl,rfl,rfl,hl,hA,h1,h2,_,_,hk,hab⟩
 ·obtain⟨t,h1,hS⟩:=VN (K:=K) (H:=upd H p (.tup [.ty "list",.ty "tuple"])) hs
  obtain⟨cb,hcb⟩:=hS.bl
  obtain⟨cs,hcs⟩:=hS.st
  obtain⟨ci,hci⟩:=hS.nt
  refine⟨x,_,_,t,false,p,rfl,SqT.of upd_same,h1,hS.bo,_,rfl,ifF nZ ?_⟩
  refine⟨fun σ H'=>σ=[some x,some x]/\upd H p (.tup [.ty "list",.ty "tuple"])=H', ?_, ?_⟩
  ·refine⟨_,rfl,_,_,_,_,rfl,h1,hcb,_,rfl,_,_,_,_,rfl,h1,hcb,.inl ⟨rfl,_,rfl,ifF (by simp) ?_⟩⟩
   exact⟨_,rfl,_,_,_,_,rfl,h1,hcs,_,rfl,_,_,_,_,rfl,h1,hcs,.inl ⟨rfl,_,rfl,ifF (by simp) ⟨rfl,rfl⟩⟩⟩
  rintro σ H' ⟨rfl,rfl⟩
  refine⟨_,rfl,_,_,_,_,rfl,h1,hci,_,rfl,_,_,_,_,rfl,h1,hci,.inl ⟨rfl,_,rfl,ifT (by simp) ⟨_,rfl,_,rfl,.inl ⟨alZ hs, ?_⟩⟩⟩⟩
  have e:decide (x=x)=true:=by simp
  rw[e]
  exact q _ s1
 ·have hGs:FnOk P w K mg base CX0 (m+1) f fd q9L (Y7 m):=hsp m rfl▸M7
  have hlen:=hA.len
  refine⟨.ref b,_,_,t,true,p,rfl,SqT.of upd_same,aAZ s1 h2,hk,_,rfl,ifT rfl ?_⟩
  have la:ajZ K (.ref a) (upd H p (.tup [.ty "list",.ty "tuple"])) xs.length:=by
   rcases hab with⟨ha,hb⟩|⟨ha,hb⟩
   ·exact .inr ⟨_,SqT.of (s1 _ _ ha),rfl⟩
   ·exact .inl ⟨_,SqL.of (s1 _ _ ha),rfl⟩
  have lb:ajZ K (.ref b) (upd H p (.tup [.ty "list",.ty "tuple"])) ys.length:=by
   rcases hab with⟨ha,hb⟩|⟨ha,hb⟩
   ·exact .inr ⟨_,SqT.of (s1 _ _ hb),rfl⟩
   ·exact .inl ⟨_,SqL.of (s1 _ _ hb),rfl⟩
  refine⟨_,rfl,_,_,rfl,la,_,rfl,_,_,rfl,lb,.inl ⟨rfl,_,rfl,ifT (by rw[hlen];simp) ?_⟩⟩
  refine⟨_,rfl,_,_,rfl,lb,_,rfl,by omega,by omega,AL (n:=ys.length) (λj zs H'=>zs=List.replicate j (.bl true)/\Same (upd H p (.tup [.ty "list",.ty "tuple"])) H') ⟨rfl,Same.refl _⟩ ?_ ?_ ?_⟩
  ·rintro i zs H' hi ⟨rfl,_⟩
   rw[length_replicate]
   omega
  ·rintro i zs H' hi ⟨rfl,sm⟩
   refine CZ ?_
   have hx:i<xs.length:=by omega
   obtain⟨y,hy,hxy⟩:=hA.get' (List.getElem?_eq_getElem hx)
   have e0:(0:Int)+(i:Nat)=((i:Nat):Int):=by omega
   have a1:atI xs (0+(i:Nat))=some xs[i]:=by rw[e0];exact J2 (List.getElem?_eq_getElem hx)
   have a2:atI ys (0+(i:Nat))=some y:=by rw[e0];exact J2 hy
   have fin:Y7 m [xs[i],y] H' (λy H3=>List.replicate i (V.bl true)++ [y]=List.replicate (i+1) (.bl true)/\Same (upd H p (.tup [.ty "list",.ty "tuple"])) H3) E:=
    ⟨_,_,rfl,DqS.mono (s1.trans sm) _ hxy,λH3 s3=>⟨by rw[List.replicate_succ'],sm.trans s3⟩⟩
   rcases hab with⟨ha,hb⟩|⟨ha,hb⟩
   ·exact⟨_,rfl,_,rfl,.inr (.inl ⟨a,xs,_,_,rfl,rfl,SqT.of (sm _ _ (s1 _ _ ha)),a1,_,rfl,_,rfl,.inr (.inl ⟨b,ys,_,_,rfl,rfl,SqT.of (sm _ _ (s1 _ _ hb)),a2,hsp m rfl▸fin⟩)⟩)⟩
   ·exact⟨_,rfl,_,rfl,.inl ⟨a,xs,_,_,rfl,rfl,SqL.of (sm _ _ (s1 _ _ ha)),a1,_,rfl,_,rfl,.inl ⟨b,ys,_,_,rfl,rfl,SqL.of (sm _ _ (s1 _ _ hb)),a2,hsp m rfl▸fin⟩⟩⟩
  ·rintro zs H' ⟨rfl,sm⟩ D hD
   refine⟨D,List.replicate ys.length true,rfl,SqL.of ?_, ?_⟩
   ·rw[upd_same,List.map_replicate]
   ·have e:(List.replicate ys.length true).all id=true:=by simp
    rw[e]
    exact q _ (s1.trans (sm.trans (A5 hD _)))
theorem ok_law_sameD(F:Fun K "_law_same" "_law_same" s_law_same f fd)(B:NoG mg)
  (L3:Binds K fd q9L [])(L4:kZ K (.ref f)=true)(L5:mg "_law_same"=some (.ref f)):∀n,FnOk P w K mg base CX0 (n+1) f fd q9L (Y7 n)
 |0=>DS (sp:=XV) F B ZY (λm h=>nomatch h) L3 L4 L5
 |n+1=>DS F B (ok_law_sameD F B L3 L4 L5 n) (λm h=>by injection h with h;rw[h]) L3 L4 L5
end
end K67
namespace K67
open PySem L2 CL SW MC MT
open BV hiding ifT ifF NoG top
theorem TK{S:Ms}{way:Nat}{n:Int}{e N calls cells:Nat}(h:Sim S ⟨[],some (ouT way n e),N,calls,cells⟩)(hc:cells<=500):Small S/\S.frs=[]:=by
 have e1:S.frs=[]:=List.eq_nil_of_length_eq_zero h.frs.len.symm
 exact⟨⟨le_trans h.n hc,by rw[e1];exact zero_le _,λf hf=>by rw[e1]at hf;cases hf⟩,e1⟩
theorem WV{S:Ms}{way:Nat}{n:Int}{e N calls cells:Nat}(h:Sim S ⟨[],some (ouT way n e),N,calls,cells⟩)(he:e<4):Tidy S/\Okv S.cs.length (N9 S.out S.frs):=by
 have e1:S.frs=[]:=List.eq_nil_of_length_eq_zero h.frs.len.symm
 have ho:=h.out
 have key:∃ts,All2 (V1 S.cs) ts (N9 S.out S.frs)/\(ts.map Tv.nodes).sum<=2/\ts.length<=1:=by
  have h4:e=0\/e=1\/e=2\/e=3:=by omega
  rcases h4 with rfl|rfl|rfl|rfl
  ·obtain⟨x,ex,hx⟩:=ho
   rw[e1,ex]
   refine⟨[Q7 (R4 way n)],.cons hx .nil, ?_,Nat.le_refl _⟩
   have:=T2 way n
   simp only[map_cons,map_nil,sum_cons,sum_nil]
   omega
  ·have ex:S.out=some (.refused (rfW way)):=ho
   rw[e1,ex];exact⟨[],.nil,zero_le _,zero_le _⟩
  ·have ex:S.out=some .dry:=ho
   rw[e1,ex];exact⟨[],.nil,zero_le _,zero_le _⟩
  ·have ex:S.out=some .deep:=ho
   rw[e1,ex];exact⟨[],.nil,zero_le _,zero_le _⟩
 obtain⟨ts,hts,hn,hl⟩:=key
 have ov:Okv S.cs.length (N9 S.out S.frs):=GG hts
 exact⟨⟨λ_=>e1,h.okc,ov,YB hts (by omega),by rw[<-hts.len];omega⟩,ov⟩
section
variable{CM C Pt:Addr}
theorem O7{H H':Hp}(hT:Tb H Pt)(s:Same H H'):Tb H' Pt:=by
 obtain⟨qs,e1,e2,e3⟩:=hT
 refine⟨qs,s _ _ e1,e2, ?_⟩
 rcases e3 with e3|⟨c2,e3,e4⟩
 ·exact .inl e3
 ·exact .inr ⟨c2,e3,s _ _ e4⟩
theorem P2{H:Hp}(hT:Tb H Pt){b:Addr}{xs:List V}(h:H b=some (.tup xs)):b≠Pt:=λz=>by
 obtain⟨qs,e1,_⟩:=hT
 rw[z,e1]at h;cases h
theorem AN{H:Hp}(hT:Tb H Pt){b:Addr}{xs:List V}(h:H b=some (.lst xs)):b≠Pt:=λz=>by
 obtain⟨qs,e1,_⟩:=hT
 rw[z,e1]at h;cases h
theorem ToldAt.pt{way:Nat}{n:Int}{H H':Hp}(hT:Tb H Pt)(k:∀b ob,H b=some ob->b≠Pt->H' b=some ob):∀ {e:Nat} {u:V},ToldAt way n H e u->ToldAt way n H' e u
 |0,u,h=>by
  obtain⟨p,v,e1,e2,h|⟨h,q,e3,e4⟩⟩:=h
  ·exact⟨p,v,e1,k _ _ e2 (P2 hT e2),.inl h⟩
  ·exact⟨p,v,e1,k _ _ e2 (P2 hT e2),.inr ⟨h,q,e3,k _ _ e4 (AN hT e4)⟩⟩
 |1,u,h=>let⟨p,e1,e2⟩:=h;⟨p,e1,k _ _ e2 (P2 hT e2)⟩
 |2,u,h=>let⟨p,e1,e2⟩:=h;⟨p,e1,k _ _ e2 (P2 hT e2)⟩
 |_+3,u,h=>let⟨p,e1,e2⟩:=h;⟨p,e1,k _ _ e2 (P2 hT e2)⟩
theorem cvZ{H:Hp}(hT:Tb H Pt){q:Addr}{xs ys:List V}(h:H q=some (.lst xs)):Tb (upd H q (.lst ys)) Pt:=by
 have n:=AN hT h
 obtain⟨qs,e1,e2,e3⟩:=hT
 refine⟨qs,by rw[B8 (Ne.symm n)];exact e1,e2, ?_⟩
 rcases e3 with e3|⟨c2,e3,e4⟩
 ·exact .inl e3
 ·refine .inr ⟨c2,e3, ?_⟩
  rw[B8 (λz=>by rw[z,h]at e4;cases e4)];exact e4
theorem TB{way:Nat}{n:Int}{H:Hp}{e:Nat}{u:V}(h:ToldAt way n H e u)(he:e<4):∃p xs x,u=.ref p/\H p=some (.tup xs)/\atI xs (-1)=some x/\((e=0/\way=1/\∃q,x=.ref q/\H q=some (.lst [.int n,.int 5]))\/HI x=true):=by
 have h4:e=0\/e=1\/e=2\/e=3:=by omega
 rcases h4 with rfl|rfl|rfl|rfl
 ·obtain⟨p,v,e1,e2,⟨h0,rfl⟩|⟨h1,q,rfl,hq⟩⟩:=h
  ·exact⟨p,_,_,e1,e2,rfl,.inr rfl⟩
  ·exact⟨p,_,_,e1,e2,rfl,.inl ⟨rfl,h1,q,rfl,hq⟩⟩
 ·obtain⟨p,e1,e2⟩:=h;exact⟨p,_,_,e1,e2,rfl,.inr rfl⟩
 ·obtain⟨p,e1,e2⟩:=h;exact⟨p,_,_,e1,e2,rfl,.inr rfl⟩
 ·obtain⟨p,e1,e2⟩:=h;exact⟨p,_,_,e1,e2,rfl,.inr rfl⟩
theorem T1{H:Hp}{n:Nat}{a b:Addr}{xs ys:List V}(ha:H a=some (.tup xs))(hb:H b=some (.tup ys))(hl:xs.length<=1000)(h:All2 (DqS H n) xs ys):DqS H (n+1) (.ref a) (.ref b):=.inr ⟨a,b,xs,ys,rfl,rfl,.inl ⟨ha,hb⟩,hl,h⟩
theorem OR{H:Hp}{n:Nat}{a b:Addr}{xs ys:List V}(ha:H a=some (.lst xs))(hb:H b=some (.lst ys))(hl:xs.length<=1000)(h:All2 (DqS H n) xs ys):DqS H (n+1) (.ref a) (.ref b):=.inr ⟨a,b,xs,ys,rfl,rfl,.inr ⟨ha,hb⟩,hl,h⟩
theorem N1{H:Hp}{x:V}(h:HI x=true):∀n,DqS H n x x
 |0=>⟨h,rfl⟩
 |_+1=> .inl ⟨h,rfl⟩
theorem XQ{H:Hp}{A:Ad}{bs:List Bk}{most:Nat}{S:Ms}{Q:VK}{E:XK}{way:Nat}{n:Int}{e N calls cells:Nat}{u:V}(hA:MAt CM C H A bs most S)(hS:Sim S ⟨[],some (ouT way n e),N,calls,cells⟩)(hw:e=0->way<2)(he:e<4)(hT:Tb H Pt)(hto:ToldAt way n H e u)
  (go:∀v H',(∀b ob,H b=some ob->b≠Pt->H' b=some ob)->Tb H' Pt->DqS H' 3 v u->(e=0->way=1->∃p q,v=.ref p/\H' p=some (.tup [.str "value",.ref q])/\H' q=some (.lst [.int n,.int 5])/\H q=none)->Q v H'):X1 CM C Pt [.ref A.m] H Q E:=by
 refine⟨A,bs,most,S,rfl,hA, ?_⟩
 have ho:=hS.out
 have h4:e=0\/e=1\/e=2\/e=3:=by omega
 rcases h4 with rfl|rfl|rfl|rfl
 ·obtain⟨p,v,rfl,hp,hv⟩:=hto
  obtain⟨x,ex,hx⟩:=ho
  refine .inl ⟨x,R4 way n,ex,GF hx, ?_,hT,λp' r H1 H' k1 hT1 hR hp1 eH=> ?_⟩
  ·unfold R4
   by_cases h0:way=0
   ·rw[if_pos h0];show 1<=400000;omega
   ·rw[if_neg h0];show 1+(1+1)<=400000;omega
  subst eH
  have t:=A5 hp1 (.tup [.str "value",r])
  have hp':=t _ _ (k1 _ _ hp (P2 hT hp))
  refine go (.ref p') _ (λb ob e n=>t _ _ (k1 _ _ e n)) (O7 hT1 t) ?_ ?_
  ·rcases hv with⟨rfl,rfl⟩|⟨rfl,q,rfl,hq⟩
   ·have er:r=.int n:=hR
    subst er
    exact T1 upd_same hp' (by show 2<=1000;omega) (.cons (N1 rfl _) (.cons (N1 rfl _) .nil))
   ·obtain⟨a,r1,rs,rfl,ha,_,e1,r2,rs',rfl,e2,e3⟩:=hR
    have e1':r1=.int n:=e1
    have e2':r2=.int 5:=e2
    have e3':rs'=[]:=e3
    subst e1' e2' e3'
    exact T1 upd_same hp' (by show 2<=1000;omega) (.cons (N1 rfl _) (.cons (OR (t _ _ ha) (t _ _ (k1 _ _ hq (AN hT hq))) (by show 2<=1000;omega) (.cons (N1 rfl _) (.cons (N1 rfl _) .nil))) .nil))
  ·rintro _ rfl
   obtain⟨a,r1,rs,rfl,ha,hk,e1,r2,rs',rfl,e2,e3⟩:=hR
   have e1':r1=.int n:=e1
   have e2':r2=.int 5:=e2
   have e3':rs'=[]:=e3
   subst e1' e2' e3'
   exact⟨p',a,rfl,upd_same,t _ _ ha,hk⟩
 ·obtain⟨p,rfl,hp⟩:=hto
  have ex:S.out=some (.refused (rfW way)):=ho
  rw[ex]
  refine .inr ⟨rfl,λu' hu'=> ?_⟩
  obtain⟨p',rfl,hp'⟩:=hu'
  exact go (.ref p') H (λ_ _ e _=>e) hT (T1 hp' hp (by show 2<=1000;omega) (.cons (N1 rfl _) (.cons (N1 rfl _) .nil))) (λz=>nomatch z)
 ·obtain⟨p,rfl,hp⟩:=hto
  have ex:S.out=some .dry:=ho
  rw[ex]
  refine .inr ⟨rfl,λu' hu'=> ?_⟩
  obtain⟨p',rfl,hp'⟩:=hu'
  exact go (.ref p') H (λ_ _ e _=>e) hT (T1 hp' hp (by show 1<=1000;omega) (.cons (N1 rfl _) .nil)) (λz=>nomatch z)
 ·obtain⟨p,rfl,hp⟩:=hto
  have ex:S.out=some .deep:=ho
  rw[ex]
  refine .inr ⟨rfl,λu' hu'=> ?_⟩
  obtain⟨p',rfl,hp'⟩:=hu'
  exact go (.ref p') H (λ_ _ e _=>e) hT (T1 hp' hp (by show 1<=1000;omega) (.cons (N1 rfl _) .nil)) (λz=>nomatch z)
theorem FU{cs:List Cl}:∀ {p t:PL.Pv} {x:Vl},VRa cs p x->VRa cs t x->p=t
 | .int i,t,x,h,h'=>by
  have e:x=.sc (.int i):=h
  subst e
  cases t with
  |int j=>have e:Vl.sc (.int i)=.sc (.int j):=h';injection e with e;injection e with e;rw[e]
  |bl b=>have e:Vl.sc (.int i)=.sc (.bl b):=h';injection e with e;cases e
  |nil=>have e:Vl.sc (.int i)=.sc .non:=h';injection e with e;cases e
  |cons a b=>obtain⟨k,_,_,e,_⟩:=h';cases e
 | .bl i,t,x,h,h'=>by
  have e:x=.sc (.bl i):=h
  subst e
  cases t with
  |int j=>have e:Vl.sc (.bl i)=.sc (.int j):=h';injection e with e;cases e
  |bl b=>have e:Vl.sc (.bl i)=.sc (.bl b):=h';injection e with e;injection e with e;rw[e]
  |nil=>have e:Vl.sc (.bl i)=.sc .non:=h';injection e with e;cases e
  |cons a b=>obtain⟨k,_,_,e,_⟩:=h';cases e
 | .nil,t,x,h,h'=>by
  have e:x=.sc .non:=h
  subst e
  cases t with
  |int j=>have e:Vl.sc .non=.sc (.int j):=h';injection e with e;cases e
  |bl b=>have e:Vl.sc .non=.sc (.bl b):=h';injection e with e;cases e
  |nil=>rfl
  |cons a b=>obtain⟨k,_,_,e,_⟩:=h';cases e
 | .cons a b,t,x,h,h'=>by
  obtain⟨k,x1,y1,e,hk,h1,h2⟩:=h
  subst e
  cases t with
  |int j=>have e:Vl.cell k=.sc (.int j):=h';cases e
  |bl b=>have e:Vl.cell k=.sc (.bl b):=h';cases e
  |nil=>have e:Vl.cell k=.sc .non:=h';cases e
  |cons c d=>
   obtain⟨k',x2,y2,e,hk',h1',h2'⟩:=h'
   injection e with e
   subst e
   rw[hk]at hk'
   injection hk' with z
   injection z with z1 z2
   subst z1 z2
   rw[FU h1 h1',FU h2 h2']
theorem b3Z{H':Hp}{ok:Addr->Prop}{S:Ms}{way:Nat}{n:Int}{e N calls cells:Nat}{u u':V}(hS:Sim S ⟨[],some (ouT way n e),N,calls,cells⟩)(he:e<4)(hto:ToldAt way n H' e u)
  (h:(∃x t p r,S.out=some (.value x)/\VRa S.cs t x/\u'=.ref p/\H' p=some (.tup [.str "value",r])/\(PL.R ok H' t).1 r)\/(V3 S.out=false/\OAt H' S.out u')):DqS H' 4 u' u:=by
 have ho:=hS.out
 have h4:e=0\/e=1\/e=2\/e=3:=by omega
 rcases h4 with rfl|rfl|rfl|rfl
 ·obtain⟨p,v,rfl,hp,hv⟩:=hto
  obtain⟨x,ex,hx⟩:=ho
  rcases h with⟨x',t,p',r,ex',hx',rfl,hp',hR⟩|⟨h,_⟩
  ·rw[ex]at ex'
   injection ex' with ex'
   injection ex' with ex'
   subst ex'
   have et:=FU (GF hx) hx'
   subst et
   rcases hv with⟨rfl,rfl⟩|⟨rfl,q,rfl,hq⟩
   ·have er:r=.int n:=hR
    subst er
    exact T1 hp' hp (by show 2<=1000;omega) (.cons (N1 rfl _) (.cons (N1 rfl _) .nil))
   ·obtain⟨a,r1,rs,rfl,ha,_,e1,r2,rs',rfl,e2,e3⟩:=hR
    have e1':r1=.int n:=e1
    have e2':r2=.int 5:=e2
    have e3':rs'=[]:=e3
    subst e1' e2' e3'
    exact T1 hp' hp (by show 2<=1000;omega) (.cons (N1 rfl _) (.cons (OR ha hq (by show 2<=1000;omega) (.cons (N1 rfl _) (.cons (N1 rfl _) .nil))) .nil))
  ·rw[ex]at h;cases h
 ·obtain⟨p,rfl,hp⟩:=hto
  have ex:S.out=some (.refused (rfW way)):=ho
  rw[ex]at h
  rcases h with⟨x',t,p',r,ex',_⟩|⟨_,p',rfl,hp'⟩
  ·cases ex'
  ·exact T1 hp' hp (by show 2<=1000;omega) (.cons (N1 rfl _) (.cons (N1 rfl _) .nil))
 ·obtain⟨p,rfl,hp⟩:=hto
  have ex:S.out=some .dry:=ho
  rw[ex]at h
  rcases h with⟨x',t,p',r,ex',_⟩|⟨_,p',rfl,hp'⟩
  ·cases ex'
  ·exact T1 hp' hp (by show 1<=1000;omega) (.cons (N1 rfl _) .nil)
 ·obtain⟨p,rfl,hp⟩:=hto
  have ex:S.out=some .deep:=ho
  rw[ex]at h
  rcases h with⟨x',t,p',r,ex',_⟩|⟨_,p',rfl,hp'⟩
  ·cases ex'
  ·exact T1 hp' hp (by show 1<=1000;omega) (.cons (N1 rfl _) .nil)
theorem FT{way:Nat}{n:Int}{e:Nat}{N calls cells:Nat}:(⟨[],some (ouT way n e),N,calls,cells⟩:Tm).out≠none:=λz=>nomatch z
theorem avZ{way:Nat}{n:Int}{e N calls cells:Nat}(he:e<4):∀t,(⟨[],some (ouT way n e),N,calls,cells⟩:Tm).out=some (.value t)->∃p,t=Q7 p/\PL.size p<=400000:=λt h=>by
 have h4:e=0\/e=1\/e=2\/e=3:=by omega
 rcases h4 with rfl|rfl|rfl|rfl
 ·have h':(some (To.value (Q7 (R4 way n))):Option To)=some (.value t):=h
  injection h' with h'
  injection h' with h'
  refine⟨R4 way n,h'.symm, ?_⟩
  unfold R4
  by_cases h0:way=0
  ·rw[if_pos h0];show 1<=400000;omega
  ·rw[if_neg h0];show 1+(1+1)<=400000;omega
 ·cases h
 ·cases h
 ·cases h
end
end K67
namespace K67
open PySem L2 CL SW MC MT
open BV hiding ifT ifF NoG top
seal PE PT PW PA PS PSs PTs PI PG PGs PO
noncomputable abbrev s_law_goes:Stmt:=CL.top 48
abbrev GB:List Str:=["_law_blocks_here","_law_main","_law_count","_law_most","_law_due_here","_law_cells","_law_machine","_law_k","_law_turn","_law_rounds","_law_handed","_law_found"]
theorem sc_law_goes:FnScope GB q1L (B0 s_law_goes):=fS
section
variable{P:Program}{w:World}{K:FZ}{mg:Str->Option Value}{base:Heap}{CM C Pt:Addr}{gf mf:Str->Addr}{gd md:Str->FuncData}{f fim cDZ OF:Addr}{fd dim cEZ NU:FuncData}
def XG(Pt:Addr):Sp:=λvs H Q _=>∃(bl du ce:Addr) (vb:List V) (bs:List Bk) (bk:Bk) (main count most way:Nat) (n:Int) (e N calls cells:Nat) (u:V) (cs:List Int),vs=[.ref bl,.int (main:Nat),.int (count:Nat),.int (most:Nat),.ref du,.ref ce]/\
 H bl=some (.lst vb)/\All2 (BAt H) bs vb/\bs[main]? =some bk/\bk.sz=1/\TR bs most ⟨[],some (ouT way n e),N,calls,cells⟩ N ⟨[R9 main bk.sz [iv (count:Nat)]],none,0,0,0⟩/\way<6/\(e=0->way<2)/\e<4/\
 H du=some (.tup [u,.int (N:Nat),.int (calls:Nat)])/\ToldAt way n H e u/\H ce=some (.lst (cs.map V.int))/\cs.length<=1000/\N<=100000/\cells<=500/\Tb H Pt/\
 ∀H',(∀b ob,H b=some ob->b≠Pt->H' b=some ob)->Tb H' Pt->Q (.bl true) H'
theorem ok_law_goes(F:Fun K "_law_goes" "_law_goes" s_law_goes f fd)(B:NoE mg)(RM:MCls K CM gf gd)(M_Machine:Mk K CM fim)(m_Machine:mg "Machine"=some (.ref CM))
  (GMachine___init__:FnOk P w K mg base CX0 3 fim dim SZ (JY CM C))(bMachine___init__:Binds K dim SZ [])
  (Q1:FnOk P w K mg base CX0 6 (gf "answer") (gd "answer") G4 (X1 CM C Pt))
  (LI:FnOk P w K mg base CX0 1 (gf "frames") (gd "frames") G4 (MF CM C))
  (W1:FnOk P w K mg base CX0 1 (gf "rows_done") (gd "rows_done") G4 (GU CM C true))
  (ZC:FnOk P w K mg base CX0 1 (gf "calls") (gd "calls") G4 (GU CM C false))
  (CK:FnOk P w K mg base CX0 5 (gf "collect") (gd "collect") G4 (DA CM C))
  (JG:FnOk P w K mg base CX0 5 (gf "step") (gd "step") G4 (PX CM C))
  (M7:Cn P w K mg base CX0 5 "_law_same" q9L (Y7 4))
  (KZ:Cn P w K mg base CX0 8 "run" SX (a4Z CM C Pt)):
  FnOk P w K mg base CX0 9 f fd q1L (XG Pt):=by
 obtain⟨OF,NU,M7,L3,L4,L5⟩:=M7
 obtain⟨cDZ,cEZ,KZ,cBZ,cFZ,cCZ⟩:=KZ
 refine F.ok sc_law_goes (λvs H Q E h=> ?_) (λcdv A outer s H vs Q E hr h=> ?_)
 ·obtain⟨bl,du,ce,vb,bs,bk,main,count,most,way,n,e,N,calls,cells,u,cs,rfl,_⟩:=h
  rfl
 obtain⟨bl,du,ce,vb,bs,bk,main,count,most,way,n,e,N,calls,cells,u,cs,rfl,hbl,hB,hbk,hsz,hT,hw,he0,he4,hdu,hto,hce,hcl,hN,hcs,hTb,q⟩:=h
 have nd:=sc_law_goes.nd
 have hu:=hr.units0
 refine⟨_,(A8 (C4 (i:=6) nd rfl (Or.inl rfl) (RF M_Machine GMachine___init__ (hr.mono (by omega)) rfl m_Machine bMachine___init__ .nil C2 (A0 (G3 (X3 (K:=K)) rfl B.list_ M2 (A0 (pv 0) A6)) (A0 (pv 1) (A0 (J8 (A0 (pv 2) A6)) (A0 (pv 3) A6))))))
   (A8 (G5 (X2 PassesOwn.never rfl (Q0 rfl B.range_ (A0 (ixE K w (pv 4) A7) A6)) (M5 (i:=7) nd rfl (Or.inl rfl)) (A9 (G5 (D8 (PW.pt (IA (C7 RQ (G0 (pv 6) RM.cl RM.m_answer Q1 (hr.mono (by omega)) RM.b_answer .nil C2) S0 rfl) (IA (C7 (dWZ (K:=K) hu) (G0 (pv 6) RM.cl RM.m_frames LI (hr.mono (by omega)) RM.b_frames .nil C2) (J8 A6) rfl) (FS (C7 RW (G0 (pv 6) RM.cl RM.m_step JG (hr.mono (by omega)) RM.b_step .nil C2) V5 rfl))))) (A9 (C0 V5)) C9)))))
   (A8 (G5 (X2 PassesOwn.never rfl (Q0 rfl B.range_ (A0 A7 A6)) (M5 (i:=8) nd rfl (Or.inl rfl)) (A8 (D8 (XI (K7 (K:=K) (B9 M7 (hr.mono (by omega)) rfl L5 L4 L3 .nil C2 (A0 (J8 (A0 (G0 (pv 6) RM.cl RM.m_answer Q1 (hr.mono (by omega)) RM.b_answer .nil C2) (A0 (G0 (pv 6) RM.cl RM.m_rows_done W1 (hr.mono (by omega)) RM.b_rows_done .nil C2) (A0 (G0 (pv 6) RM.cl RM.m_calls ZC (hr.mono (by omega)) RM.b_calls .nil C2) A6)))) (A0 (G3 (X3 (K:=K)) rfl B.list_ M2 (A0 (pv 4) A6)) A6))) (λ_=>rfl))) (A9 (C0 V5)) C9)
   (A8 (G5 (D8 (PW.pt (IA (C7 (kNe (K:=K) hu) (G0 (pv 6) RM.cl RM.m_frames LI (hr.mono (by omega)) RM.b_frames .nil C2) (J8 A6) rfl) (FS (C7 RW (G0 (pv 6) RM.cl RM.m_step JG (hr.mono (by omega)) RM.b_step .nil C2) V5 rfl)))) (A9 (C0 V5)) C9))
   (A8 (G5 (D8 (K7 (K:=K) (C8 (T5 (K:=K)) rfl B.isinstance_ D7 (A0 (ixE K w (ixE K w (pv 4) A7) (P5 M3 A7)) (A0 (K6 (v:=.ty "list") rfl B.list_ M2 rfl) A6))) (λ_=>rfl)) (A9 (G2 (HP (K:=K) PySem.F.plainAttrs_list PySem.F.slot_list_append PySem.F.type_list_append O5 (ixE K w (G0 (pv 6) RM.cl RM.m_answer Q1 (hr.mono (by omega)) RM.b_answer .nil C2) A7) (A0 A7 A6)))) C9))
   (A9 (G2 (G0 (pv 6) RM.cl RM.m_collect CK (hr.mono (by omega)) RM.b_collect .nil C2))))))))
   (A8 (AK (i:=9) nd rfl rfl (cS (N:=GB) (sc:=B0 s_law_goes) (caps:=[4]) (ns:=["_law_due_here"])) rfl rfl rfl (Z2 (K:=K) (pv 5)) (λ_ _ _ _ _=>Z0) (λ_ _ _ _ _=>(C3 J9 (pv 0) (C3 S6 (ixE K w (pv 1) A7) A7))))
   (A8 (C4 (i:=10) nd rfl (Or.inl rfl) (G3 (X3 (K:=K)) rfl B.list_ M2 (A0 (pv 9) A6)))
   (A8 (C4 (i:=11) nd rfl (Or.inl rfl) (B9 KZ (hr.mono (by omega)) rfl cCZ cFZ cBZ .nil C2 (A0 (G3 (X3 (K:=K)) rfl B.list_ M2 (A0 (pv 0) A6)) (A0 (pv 1) (A0 (J8 (A0 (pv 2) A6)) (A0 (pv 3) (A0 (pv 10) A6)))))))
   (A9 (C0 (FF (B9 M7 (hr.mono (by omega)) rfl L5 L4 L3 .nil C2 (A0 (pv 11) (A0 (ixE K w (pv 4) A7) A6))) (DB (L0 (kEq (K:=K) hu) (pv 10) (pv 9) rfl))))))))))), ?_⟩
 have zz:(4000:Nat)<=sizeLine:=by decide
 refine⟨_,rfl,bl,vb,rfl,.inl (SqL.of hbl),λl1 hl1=>⟨_,rfl,_,rfl,z1,λl2 hl2=>⟨_,rfl,λx dx hx hdx hn=> ?_⟩⟩⟩
 have v1:=A5 hl1 (.lst vb)
 have v2:=A5 hl2 (.lst [.int (count:Nat)])
 have v12:=v1.trans v2
 have hl1':upd (upd H l1 (.lst vb)) l2 (.lst [.int (count:Nat)]) l1=some (.lst vb):=v2 _ _ upd_same
 have hl2':upd (upd H l1 (.lst vb)) l2 (.lst [.int (count:Nat)]) l2=some (.lst [.int (count:Nat)]):=upd_same
 generalize upd (upd H l1 (.lst vb)) l2 (.lst [.int (count:Nat)])=H0 at v12 hl1' hl2' hx hdx⊢
 have t0:Same H0 (upd (upd H0 dx (.own x)) x (.ins CM dx [])):=λb ob e=>by rw[B8 (C6 e hx),B8 (C6 e hdx)];exact e
 have mo0:Mo H (upd (upd H0 dx (.own x)) x (.ins CM dx [])):=B5 (v12.trans t0)
 refine⟨x,dx,l1,l2,vb,[.int (count:Nat)],main,most,bs,bk,[.sc (.int (count:Nat))],rfl,upd_same,t0 _ _ hl1',hB.imp λ_ _ z=>BAt.mo mo0 z,hbk,t0 _ _ hl2',.cons ⟨rfl,rfl⟩ .nil,(by rw[hsz];show 1<=1;omega),λA1 H1 eA k1 nw hA1=>⟨rfl, ?_⟩⟩
 have kH1:Same H H1:=λb ob e=>k1 _ _ (t0 _ _ (v12 _ _ e)) (C6 (v12 _ _ e) hx)
 have own1:∀y∈A1.own,H y=none:=λy hy=>by
  rcases nw y hy with z|z
  ·rw[z];exact v12.free hx
  ·exact v12.free (t0.free z)
 subst eA
 show Q3 _ _ _ [some (.ref bl),some (.int (main:Nat)),some (.int (count:Nat)),some (.int (most:Nat)),some (.ref du),some (.ref ce),some (.ref A1.m),none,none,none,none,none] H1
 clear k1 nw hdx hn t0 mo0
 have sim0:Sim ⟨[],[begun main bk.sz [.sc (.int (count:Nat))]],none,0,0⟩ ⟨[R9 main bk.sz [iv (count:Nat)]],none,0,0,0⟩:=IG (.cons rfl .nil)
 have kH:∀ {A':Ad} {H' H'':Hp},(∀y∈A'.own,H y=none)->Same H H'->Kq A' H' H''->Same H H'':=λ{A' H' H''} o1 k kk b ob e=>kk _ _ (k _ _ e) λz=>by rw[o1 b z]at e;cases e
 have nwH:∀ {A' A'':Ad} {H':Hp},(∀y∈A'.own,H y=none)->Same H H'->New A' A'' H'->∀y∈A''.own,H y=none:=λ{A' A'' H'} o1 k nw y hy=>by
  rcases nw.2 y hy with z|z
  ·exact o1 y z
  ·exact k.free z
 refine⟨fun σ H'=>∃A2 S a7,σ=[some (.ref bl),some (.int (main:Nat)),some (.int (count:Nat)),some (.int (most:Nat)),some (.ref du),some (.ref ce),some (.ref A2.m),a7,none,none,none,none]/\Same H H'/\(∀y∈A2.own,H y=none)/\MAt CM C H' A2 bs most S/\Sim S ⟨[],some (ouT way n e),N,calls,cells⟩, ?_, ?_⟩
 ·refine⟨_,rfl,(ixT (v:=.int (N:Nat)) (kH1 _ _ hdu) (J2 (j:=1) rfl) ⟨(N:Nat),rfl, ?_, ?_,DH (n:=N) (λi σ H'=>∃A2 S T a7,σ=[some (.ref bl),some (.int (main:Nat)),some (.int (count:Nat)),some (.int (most:Nat)),some (.ref du),some (.ref ce),some (.ref A2.m),a7,none,none,none,none]/\Same H H'/\(∀y∈A2.own,H y=none)/\MAt CM C H' A2 bs most S/\Sim S T/\TR bs most ⟨[],some (ouT way n e),N,calls,cells⟩ (N - i) T) ?_ ?_ ?_⟩)⟩
  ·omega
  ·omega
  ·exact⟨A1,_,_,none,rfl,kH1,own1,hA1,sim0,hT⟩
  ·rintro i _ H2 hi ⟨A2,S,T,a7,rfl,k2,own2,hA2,hS,hTR⟩
   obtain⟨k,hk⟩:∃k,N - i=k+1:=⟨N - i - 1,by omega⟩
   have hk':N - (i+1)=k:=by omega
   rw[hk]at hTR
   cases hTR with
   |step g ho st tr=>
    obtain⟨S',hSt,hS'⟩:=MQ hS st
    have hout:=(BJ hS).mpr ho
    obtain⟨vb2,us2,fs2,out2,hM2,hB2,hC2,hF2,hO2⟩:=id hA2.ex
    have hne:fs2.length≠0:=by
     obtain⟨fs,f,r,c,m,w',rfl,_⟩:=st
     have e1:=hS.frs.len
     have e2:=hF2.len
     rw[length_append]at e1
     simp only[length_singleton]at e1
     omega
    refine⟨_, ?_,λ_ _ h=>h⟩
    refine⟨_,rfl,A2.m,A2.dx,_,rfl,hM2.m,rfl,A2,bs,most,S,rfl,hA2,.inr ⟨by rw[hout];rfl,λu hu=> ?_⟩⟩
    rw[hout]at hu
    obtain rfl:=hu
    refine⟨rfl,_,rfl,ifF (by simp) ?_⟩
    refine⟨_,rfl,A2.m,A2.dx,_,rfl,hM2.m,rfl,A2,vb2,us2,fs2,(most:Nat),out2,_,_,rfl,hM2,λl hl=>⟨zero_le _,λl0 hl0=> ?_⟩⟩
    have u1:=A5 hl (.lst fs2)
    have u2:=A5 hl0 (.lst [])
    have u12:=u1.trans u2
    refine .inr ⟨l,l0,fs2,[],rfl,rfl,SqL.of (u2 _ _ upd_same),SqL.of upd_same,hne,_,rfl,ifF (by decide) ?_⟩
    refine⟨_,rfl,A2.m,A2.dx,_,rfl,u12 _ _ hM2.m,rfl,A2,bs,most,S,rfl,hA2.same u12,IW hS g,.inr ⟨S',hSt,λA3 H3 nw k3 hA3=> ?_⟩⟩
    refine⟨_,_,rfl,rfl,_,rfl,ifF (by decide) ?_⟩
    have k2':=k2.trans u12
    exact⟨A3,S',_,_,by rw[nw.1];rfl,kH own2 k2' k3,nwH own2 k2' nw,hA3,hS',by rw[hk'];exact tr⟩
  ·rintro _ H2 ⟨A2,S,T,a7,rfl,k2,own2,hA2,hS,hTR⟩
   rw[Nat.sub_self]at hTR
   cases hTR
   exact⟨A2,S,a7,rfl,k2,own2,hA2,hS⟩
 rintro _ H2 ⟨A2,S,a7,rfl,k2,own2,hA2,hS⟩
 have hTb2:=O7 hTb k2
 refine⟨fun σ H'=>∃a6 a8,σ=[some (.ref bl),some (.int (main:Nat)),some (.int (count:Nat)),some (.int (most:Nat)),some (.ref du),some (.ref ce),a6,a7,a8,none,none,none]/\(∀b ob,H b=some ob->b≠Pt->H' b=some ob)/\Tb H' Pt, ?_, ?_⟩
 ·refine⟨2,rfl,by decide,by decide,DH (n:=2) (λ_ σ H'=>∃A2 S a8,σ=[some (.ref bl),some (.int (main:Nat)),some (.int (count:Nat)),some (.int (most:Nat)),some (.ref du),some (.ref ce),some (.ref A2.m),a7,a8,none,none,none]/\(∀b ob,H b=some ob->b≠Pt->H' b=some ob)/\Tb H' Pt/\(∀y∈A2.own,H y=none)/\MAt CM C H' A2 bs most S/\Sim S ⟨[],some (ouT way n e),N,calls,cells⟩) ⟨A2,S,none,rfl,λb ob e _=>k2 _ _ e,hTb2,own2,hA2,hS⟩ ?_ (λ_ _ ⟨A2,S,a8,e1,e2,e3,_⟩=>⟨_,a8,e1,e2,e3⟩)⟩
  rintro i _ H3 hi ⟨A3,S3,a8,rfl,k3,hT3,own3,hA3,hS3⟩
  have hdu3:=k3 _ _ hdu (P2 hTb hdu)
  have hto3:=ToldAt.pt hTb k3 hto
  obtain⟨vb3,us3,fs3,out3,hM3,_⟩:=id hA3.ex
  refine⟨_,rfl,A3.m,A3.dx,_,rfl,hM3.m,rfl, ?_⟩
  unfold adZ
  refine XQ hA3 hS3 he0 he4 hT3 hto3 λv H4 k4 hT4 hd4 _=> ?_
  have hA4:=hA3.pt hT3 k4
  obtain⟨vb4,us4,fs4,out4,hM4,_,_,hF4,_⟩:=id hA4.ex
  have k4':∀b ob,H b=some ob->b≠Pt->H4 b=some ob:=λb ob e n=>k4 _ _ (k3 _ _ e n) n
  refine⟨_,rfl,A3.m,A3.dx,_,rfl,hM4.m,rfl,A3,(most:Nat),out4,_,_,rfl,hM4.m,_,rfl,A3.m,A3.dx,_,rfl,hM4.m,rfl,A3,(most:Nat),out4,_,_,rfl,hM4.m,z3,λl1 hl1=>⟨_,rfl,du,_,rfl,.inr (SqT.of ((A5 hl1 _) _ _ (k4' _ _ hdu (P2 hTb hdu)))),λl2 hl2=> ?_⟩⟩
  have w1:=A5 hl1 (.lst [v,.int (S3.r:Nat),.int (S3.c:Nat)])
  have w2:=A5 hl2 (.lst [u,.int (N:Nat),.int (calls:Nat)])
  have w12:=w1.trans w2
  have er:S3.r=N:=hS3.r
  have ec:S3.c=calls:=hS3.c
  refine⟨.ref l1,.ref l2,rfl,OR (w2 _ _ upd_same) upd_same (by show 3<=1000;omega) (.cons (hd4.mono w12) (.cons ?_ (.cons ?_ .nil))),λH5 s5=>⟨true,rfl,ifF (by decide) ?_⟩⟩
  ·rw[<-er];exact N1 rfl _
  ·rw[<-ec];exact N1 rfl _
  have S5:=w12.trans s5
  have hA5:=hA4.same S5
  have hT5:=O7 hT4 S5
  have k5:∀b ob,H b=some ob->b≠Pt->H5 b=some ob:=λb ob e n=>S5 _ _ (k4' _ _ e n)
  obtain⟨hsm,hfr⟩:=TK hS3 hcs
  obtain⟨hti,hov⟩:=WV hS3 he4
  clear hl1 hl2 w1 w2 w12 s5 hd4 S5 k4 k4' hA4 hT4 hM4 hF4
  refine⟨fun σ' H'=>σ'=[some (.ref bl),some (.int (main:Nat)),some (.int (count:Nat)),some (.int (most:Nat)),some (.ref du),some (.ref ce),some (.ref A3.m),a7,some (.int (0+(i:Nat))),none,none,none]/\Same H5 H', ?_, ?_⟩
  ·obtain⟨vb5,us5,fs5,out5,hM5,_,_,hF5,_⟩:=id hA5.ex
   have ef:fs5=[]:=List.eq_nil_of_length_eq_zero (by rw[<-hF5.len,hfr];rfl)
   subst ef
   refine⟨_,rfl,A3.m,A3.dx,_,rfl,hM5.m,rfl,A3,vb5,us5,[],(most:Nat),out5,_,_,rfl,hM5,λl hl=>⟨zero_le _,λl0 hl0=> ?_⟩⟩
   have u1:=A5 hl (.lst [])
   have u2:=A5 hl0 (.lst [])
   have u12:=u1.trans u2
   refine .inr ⟨l,l0,[],rfl,rfl,SqL.of (u2 _ _ upd_same),SqL.of upd_same,rfl,_,rfl,ifF (by decide) ?_⟩
   exact⟨_,rfl,A3.m,A3.dx,_,rfl,u12 _ _ hM5.m,rfl,A3,bs,most,S3,rfl,hA5.same u12,hsm,.inl ⟨hfr,_,_,rfl,rfl,_,rfl,ifF (by decide) ⟨rfl,u12⟩⟩⟩
  rintro _ H6 ⟨rfl,s6⟩
  have hA6:=hA5.same s6
  have hT6:=O7 hT5 s6
  have k6:∀b ob,H b=some ob->b≠Pt->H6 b=some ob:=λb ob e n=>s6 _ _ (k5 _ _ e n)
  have hto6:=ToldAt.pt hTb k6 hto
  have hdu6:=k6 _ _ hdu (P2 hTb hdu)
  clear s6 k5 hA5 hT5
  refine⟨fun σ' H'=>σ'=[some (.ref bl),some (.int (main:Nat)),some (.int (count:Nat)),some (.int (most:Nat)),some (.ref du),some (.ref ce),some (.ref A3.m),a7,some (.int (0+(i:Nat))),none,none,none]/\(∀b ob,H b=some ob->b≠Pt->H' b=some ob)/\Tb H' Pt/\MAt CM C H' A3 bs most S3, ?_, ?_⟩
  ·obtain⟨p,xs,x,rfl,hp,hx,hx2⟩:=TB hto6 he4
   refine⟨_,rfl,(ixT (v:=.ref p) hdu6 (J2 (j:=0) rfl) ⟨1,rfl,.inr (.inl ⟨p,xs, -1,x,rfl,rfl,SqT.of hp,hx, ?_⟩)⟩)⟩
   rcases hx2 with⟨rfl,rfl,q',rfl,hq⟩|hsc
   ·refine⟨.ref q',"list",_,true,rfl,.lst hq,XZ,true,rfl,ifT rfl ?_⟩
    obtain⟨vb6,us6,fs6,out6,hM6,_⟩:=id hA6.ex
    refine⟨_,rfl,A3.m,A3.dx,_,rfl,hM6.m,rfl, ?_⟩
    dsimp only
    refine XQ hA6 hS3 he0 he4 hT6 hto6 λv H7 k7 hT7 _ hval=> ?_
    obtain⟨p7,q7,rfl,hp7,hq7,hn7⟩:=hval rfl rfl
    refine(ixT (v:=.ref q7) hp7 (J2 (j:=1) rfl) ⟨.inl ⟨rfl,_,SqL.of hq7⟩,q7,_,.int 7,rfl,rfl,hq7,by show 2<sizeLine;omega, ?_⟩)
    have k8:∀b ob,H6 b=some ob->b≠Pt->upd H7 q7 (.lst ([.int n,.int 5]++ [.int 7])) b=some ob:=λb ob e n=>by
     rw[B8 (λz=>by rw[z,hn7]at e;cases e)]
     exact k7 _ _ e n
    exact⟨rfl,λb ob e n=>k8 _ _ (k6 _ _ e n) n,cvZ hT7 hq7,hA6.pt hT6 k8⟩
   ·obtain⟨t,h1,h2⟩:=VN (K:=K) (H:=H6) hsc
    exact⟨x,"list",t,false,rfl,h1,h2.li,false,rfl,ifF (by decide) ⟨rfl,k6,hT6,hA6⟩⟩
  rintro _ H7 ⟨rfl,k7,hT7,hA7⟩
  obtain⟨vb7,us7,fs7,out7,hM7,_⟩:=id hA7.ex
  refine⟨_,rfl,A3.m,A3.dx,_,rfl,hM7.m,rfl,A3,bs,most,S3,rfl,hA7,hsm.frs,hti,λnn A4 ks H8 nw k8 hK hA8=> ?_⟩
  refine⟨A4,swS ks S3,_,(by rw[nw.1]),(λb ob e n=>k8 _ _ (k7 _ _ e n) (λz=>by rw[own3 b z]at e;cases e)),hA7.tab k8 hT7,λy hy=> ?_,hA8,WE hS3 (λ_=>rfl) hov hK⟩
  rcases nw.2 y hy with z|z
  ·exact own3 y z
  ·cases e:H y with
   |none=>rfl
   |some ob=>
    by_cases n:y=Pt
    ·obtain⟨qs,e1,_⟩:=hT7
     rw[n,e1]at z;cases z
    ·rw[k7 _ _ e n]at z;cases z
 rintro _ H3 ⟨a6,a8,rfl,k3,hT3⟩
 have hce3:=k3 _ _ hce (AN hTb hce)
 have hdu3:=k3 _ _ hdu (P2 hTb hdu)
 have hbl3:=k3 _ _ hbl (AN hTb hbl)
 have mo3:Mo H H3:=λb xs e=>k3 _ _ e (P2 hTb e)
 refine⟨_,rfl,ce,rfl,⟨_,SqL.of hce3⟩,CV (xs:=cs.map V.int) (λi zs H'=>H'=H3/\zs=((cs.take i).map λz=>z%((N:Int)+2)).map V.int) ⟨rfl,rfl⟩ ?_ ?_ ?_⟩
 ·rintro i zs H' hi ⟨rfl,rfl⟩
  refine⟨SqL.of hce3, ?_⟩
  rw[length_map,length_map,length_take]
  omega
 ·rintro i v zs H' hv ⟨rfl,rfl⟩
  rw[getElem?_map]at hv
  obtain⟨z,hz,rfl⟩:=map_eq_some_iff.mp hv
  refine CZ ⟨_,rfl,_,rfl,(ixT (v:=.int (N:Nat)) hdu3 (J2 (j:=1) rfl) (.inl ⟨_,_,rfl,rfl,_,_,rfl,rfl,by show(0:Int)<(N:Int)+2;omega,rfl, ?_⟩))⟩
  rw[take_succ,hz,map_append,map_append]
  rfl
 rintro zs H' ⟨rfl,rfl⟩ D hD
 rw[length_map,take_length]
 have hrl:(cs.map λz=>z%((N:Int)+2)).length<=1000:=by rw[length_map];exact hcl
 generalize(cs.map λz=>z%((N:Int)+2))=rs at hrl⊢
 have x1:=A5 hD (.lst (rs.map V.int))
 refine⟨_,rfl,D,_,rfl,.inl (SqL.of upd_same),λD2 hD2=> ?_⟩
 have x2:=A5 hD2 (.lst (rs.map V.int))
 have x12:=x1.trans x2
 refine⟨_,rfl,bl,vb,rfl,.inl (SqL.of (x12 _ _ hbl3)),λl1 hl1=>⟨_,rfl,_,rfl,z1,λl2 hl2=>⟨_,rfl,_,rfl, ?_⟩⟩⟩
 have x3:=A5 hl1 (.lst vb)
 have x4:=A5 hl2 (.lst [.int (count:Nat)])
 have x34:=x3.trans x4
 have x14:=x12.trans x34
 have hD4:=(x2.trans x34) D _ (show upd H' D (.lst (rs.map V.int)) D=some (.lst (rs.map V.int))from upd_same)
 have hE4:=x34 D2 _ (show upd (upd H' D (.lst (rs.map V.int))) D2 (.lst (rs.map V.int)) D2=some (.lst (rs.map V.int))from upd_same)
 have sim0:Sim ⟨[],[begun main bk.sz [.sc (.int (count:Nat))]],none,0,0⟩ ⟨[R9 main bk.sz [iv (count:Nat)]],none,0,0,0⟩:=IG (.cons rfl .nil)
 refine⟨l1,l2,D2,vb,[.int (count:Nat)],main,most,bs,bk,[.sc (.int (count:Nat))],rs,IR bs most ⟨[],some (ouT way n e),N,calls,cells⟩ N,λS=>N - S.r,rfl,x4 _ _ upd_same,hB.imp λ_ _ z=>BAt.mo (B5 x14) (BAt.mo mo3 z),hbk,upd_same,.cons ⟨rfl,rfl⟩ .nil,(by rw[hsz];show 1<=1;omega),hE4,hrl,O7 hT3 x14,cKZ FT (avZ he4),⟨_,N,sim0,hT,zero_add _⟩,λS u' H5 k5 hT5 hI ho hans=> ?_⟩
 have hT4:=O7 hT3 x14
 have k5':∀b ob,H b=some ob->b≠Pt->H5 b=some ob:=λb ob e n=>k5 _ _ (x14 _ _ (k3 _ _ e n)) n
 have hto5:=ToldAt.pt hTb k5' hto
 have hdu5:=k5' _ _ hdu (P2 hTb hdu)
 have hD5:=k5 _ _ hD4 (AN hT4 hD4)
 have hE5:=k5 _ _ hE4 (AN hT4 hE4)
 have hdq:=b3Z (bZZ hI ho) he4 hto5 hans
 refine⟨_,rfl,_,rfl,(ixT (v:=u) hdu5 (J2 (j:=0) rfl) ⟨u',u,rfl,hdq,λH6 s6=>⟨true,rfl,ifT rfl ?_⟩⟩)⟩
 refine⟨_,rfl,_,rfl,.inr ⟨D2,D,rs.map V.int,rfl,rfl,SqL.of (s6 _ _ hE5),SqL.of (s6 _ _ hD5), ?_,q H6 (λb ob e n=>s6 _ _ (k5' _ _ e n)) (O7 hT5 s6)⟩⟩
 rw[all_eq_true]
 rintro z hz
 obtain⟨y,_,rfl⟩:=mem_map.mp hz
 rfl
end
theorem bEZ{bs:List Bk}{most:Nat}{T T':Tm}(h:QY bs most T T')(ho:T'.out≠none):T'.n=T.n:=by
 obtain⟨fs,f,r,c,n,w,rfl,_,ha⟩:=h
 cases ha<;>first|rfl|exact absurd rfl ho
theorem cYZ{bs:List Bk}{most:Nat}{E T:Tm}{j:Nat}(h:TR bs most E j T)(hE:E.out≠none)(hT:T.out=none):E.n<=500:=by
 induction h with
 |done=>exact absurd hT hE
 |step g ho st tr ih=>
  cases tr with
  |done=>rw[bEZ st hE];exact g.n
  |step g' ho' st' tr'=>exact ih ho'
theorem QU(way kind len count most wide:Nat)(hl:len<=5)(hc:count<=100)(hw:wide<=100):T0 way kind len count most wide<=2000:=by
 unfold T0
 by_cases c1:most+1<=count/\most+1<=wide
 ·rw[if_pos c1];have:=MA kind (most+1) false;omega
 ·rw[if_neg c1]
  by_cases c2:wide<=count
  ·rw[if_pos c2];have:=MA kind wide false;omega
  ·rw[if_neg c2]
   have:=MA kind count false
   split<;>omega
theorem QW(way count most wide:Nat):T4 way count most wide<4:=by
 unfold T4
 split
 ·omega
 ·split
  ·omega
  ·split<;>omega
theorem XF{way count most wide:Nat}(h:T4 way count most wide=0):way<2:=by
 unfold T4 at h
 by_cases c1:most+1<=count/\most+1<=wide
 ·rw[if_pos c1]at h;cases h
 ·rw[if_neg c1]at h
  by_cases c2:wide<=count
  ·rw[if_pos c2]at h;cases h
  ·rw[if_neg c2]at h
   by_cases c3:way<2
   ·exact c3
   ·rw[if_neg c3]at h;cases h
theorem asZ{way:Nat}{n:Int}{kind often most:Nat}(hw6:way<6)(hB:Bd n)(x:Nat)(hx:x<=100):∃cells,cells<=500/\
  TR (blocks way n kind often) most ⟨[],some (ouT way n (T4 way x most 60)),T0 way kind (B7 way n).length x most 60,U9 x most 60,cells⟩ (T0 way kind (B7 way n).length x most 60) ⟨[R9 1 1 [iv (x:Nat)]],none,0,0,0⟩:=by
 obtain⟨e,rows,calls,cells,⟨he,hr,hc⟩,hT⟩:=bSZ (way:=way) (n:=n) (kind:=kind) (often:=often) (most:=most) hw6 hB x (by omega)
 obtain⟨a,b,d⟩:=KR way kind most (B7 way n).length x 0 0 0 (zero_le _) (by omega)
 rw[sub_zero,sub_zero]at a b d
 have e1:e=T4 way x most 60:=he.trans a
 have e2:rows=T0 way kind (B7 way n).length x most 60:=by
  rw[hr,<-b,he]
 have e3:calls=U9 x most 60:=by rw[hc,d,zero_add]
 subst e1 e2 e3
 exact⟨cells,cYZ hT FT rfl,hT⟩
theorem VO(way kind most len x:Nat)(hl:len<=5)(hx:x<=100):∀(k r c m:Nat),c<=most->(ofn way kind most len x k r c m).e<4/\((ofn way kind most len x k r c m).e=0->k=0\/way<2)/\(ofn way kind most len x k r c m).rows<=r+k*2002+1
 |0,r,c,m,_=>⟨by show 0<4;omega,λ_=> .inl rfl,by show r+1<=_;omega⟩
 |k+1,r,c,m,hc=>by
  by_cases h1:most<=c
  ·rw[RX h1]
   exact⟨by show 2<4;omega,(λz=>nomatch z),by show r+2<=_;omega⟩
  ·have hr:=QU way kind len x (most - (c+1)) 59 hl hx (by omega)
   by_cases h0:T4 way x (most - (c+1)) 59=0
   ·obtain⟨m',e'⟩:=WQ (way:=way) (kind:=kind) (len:=len) (x:=x) (k:=k) (r:=r) (m:=m) (c:=c) (most:=most) (by omega) h0
    rw[e']
    have hcl:=QK h0
    obtain⟨a,b,d⟩:=VO way kind most len x hl hx k (r+2+T0 way kind len x (most - (c+1)) 59) (c+1+U9 x (most - (c+1)) 59) m' (by omega)
    exact⟨a,λ_=> .inr (XF h0),by omega⟩
   ·obtain⟨m',e'⟩:=RZ (way:=way) (kind:=kind) (len:=len) (x:=x) (k:=k) (r:=r) (m:=m) (c:=c) (most:=most) (by omega) h0
    rw[e']
    exact⟨QW _ _ _ _,λz=>absurd z h0,by show r+2+_<=_;omega⟩
theorem XY{way:Nat}{n:Int}{kind often most:Nat}(hw6:way<6)(hB:Bd n)(x:Nat)(hx:x<=100)(h1:1<=often)(h3:often<=3):∃cells,cells<=500/\
  TR (blocks way n kind often) most ⟨[],some (ouT way n (ofn way kind most (B7 way n).length x often 0 0 0).e),(ofn way kind most (B7 way n).length x often 0 0 0).rows,(ofn way kind most (B7 way n).length x often 0 0 0).calls,cells⟩ (ofn way kind most (B7 way n).length x often 0 0 0).rows ⟨[R9 4 1 [iv (x:Nat)]],none,0,0,0⟩:=by
 have hm:often*(x+2)<=3*102:=mul_le_mul h3 (by omega)
 obtain⟨j,hj,hT⟩:=YC (way:=way) (n:=n) (kind:=kind) (often:=often) (most:=most) hw6 hB x hx often 0 [] 0 0 0 (add_zero _) h3 h1 rfl (zero_le _) (by omega)
 rw[zero_add]at hj
 rw[<-hj]at hT
 exact⟨_,cYZ hT FT rfl,hT⟩
section
variable{P:Program}{w:World}{K:FZ}{mg:Str->Option Value}{base:Heap}{Pt f Z5 AU AZ Y1 V0 EX:Addr}{fd Z4 BA AY X9 V2 EZ:FuncData}
end
theorem JT(x:Int){m:Nat}(h:0<m):∃c:Nat,x%(m:Int)=(c:Int)/\c<m:=
 ⟨(x%(m:Int)).toNat,(Int.toNat_of_nonneg (Int.emod_nonneg _ (by omega))).symm,by
  have h1:=Int.emod_lt_of_pos x (show(0:Int)<(m:Int) by omega)
  have h2:=Int.emod_nonneg x (show(m:Int)≠0 by omega)
  omega⟩
noncomputable abbrev s_law:Stmt:=CL.top 49
abbrev c6Z:List Str:=["_law_script","_law_count","_law_way","_law_number_here","_law_kind","_law_most","_law_cell","_law_often","_law_due_here"]
theorem sc_law:FnScope c6Z ["_law_script"] (B0 s_law):=fS
def RY(K:FZ)(Pt:Addr):Sp:=λvs H Q _=>∃(a:Addr) (ns:List Int),vs=[.ref a]/\SqL K H a (ns.map V.int)/\ns.length<=63/\H Pt=some (.tbl #[])/\∀H',Q (.bl true) H'
section
variable{P:Program}{w:World}{K:FZ}{mg:Str->Option Value}{base:Heap}{Pt f Z5 AU AZ Y1 V0 EX:Addr}{fd Z4 BA AY X9 V2 EZ:FuncData}
theorem ok_law(F:Fun K "law" "law" s_law f fd)(B:NoE mg)
  (D6:Cn P w K mg base CX0 1 "_law_cell_at" cwZ (RP K))
  (T8:Cn P w K mg base CX0 1 "_law_number" ["_law_cell"] YD)
  (P8:Cn P w K mg base CX0 2 "_law_blocks" cAZ ML)
  (O4:Cn P w K mg base CX0 2 "_law_due" q7L XC)
  (O9:Cn P w K mg base CX0 3 "_law_due_often" q5L WH)
  (T9:Cn P w K mg base CX0 9 "_law_goes" q1L (XG Pt)):
  FnOk P w K mg base CX0 10 f fd ["_law_script"] (RY K Pt):=by
 obtain⟨Z5,Z4,D6,E7,E5,E6⟩:=D6
 obtain⟨AU,BA,T8,JO,JK,JH⟩:=T8
 obtain⟨AZ,AY,P8,AW,AR,AV⟩:=P8
 obtain⟨Y1,X9,O4,CI,CN,BY⟩:=O4
 obtain⟨V0,V2,O9,ED,EH,EF⟩:=O9
 obtain⟨EX,EZ,T9,FA,FD,EY⟩:=T9
 refine F.ok sc_law (λvs H Q E h=> ?_) (λcdv A outer s H vs Q E hr h=> ?_)
 ·obtain⟨a,ns,rfl,_⟩:=h
  rfl
 obtain⟨a,ns,rfl,hS,hl,hpt,q⟩:=h
 have nd:=sc_law.nd
 have hu:=hr.units0
 refine⟨_,(A8 (C4 (i:=1) nd rfl (Or.inl rfl) (C3 J9 (C3 K8 (B9 D6 (hr.mono (by omega)) rfl E6 E5 E7 .nil C2 (A0 (pv 0) (A0 A7 A6))) A7) (ixE K w (J8 (A0 A7 (A0 A7 (A0 A7 (A0 A7 A6))))) (C3 J9 (B9 D6 (hr.mono (by omega)) rfl E6 E5 E7 .nil C2 (A0 (pv 0) (A0 A7 A6))) A7))))
   (A8 (C4 (i:=2) nd rfl (Or.inl rfl) (C3 J9 (B9 D6 (hr.mono (by omega)) rfl E6 E5 E7 .nil C2 (A0 (pv 0) (A0 A7 A6))) A7))
   (A8 (C4 (i:=3) nd rfl (Or.inl rfl) (B9 T8 (hr.mono (by omega)) rfl JH JK JO .nil C2 (A0 (B9 D6 (hr.mono (by omega)) rfl E6 E5 E7 .nil C2 (A0 (pv 0) (A0 A7 A6))) A6)))
   (A8 (C4 (i:=4) nd rfl (Or.inl rfl) (C3 J9 (C3 K8 (B9 D6 (hr.mono (by omega)) rfl E6 E5 E7 .nil C2 (A0 (pv 0) (A0 A7 A6))) A7) A7))
   (A8 (C4 (i:=5) nd rfl (Or.inl rfl) (C3 J9 (C3 K8 (B9 D6 (hr.mono (by omega)) rfl E6 E5 E7 .nil C2 (A0 (pv 0) (A0 A7 A6))) A7) A7))
   (A8 (G5 (D8 (C7 (kEq (K:=K) hu) (C3 J9 (B9 D6 (hr.mono (by omega)) rfl E6 E5 E7 .nil C2 (A0 (pv 0) (A0 A7 A6))) A7) A7 rfl) (A9 (C4 (i:=5) nd rfl (Or.inl rfl) (C8 (bgZ (K:=K) rfl) rfl B.max_ WA (A0 A7 (A0 (C3 S6 (C3 N6 (pv 1) A7) (C3 J9 (C3 K8 (B9 D6 (hr.mono (by omega)) rfl E6 E5 E7 .nil C2 (A0 (pv 0) (A0 A7 A6))) A7) A7)) A6))))) C9))
   (A8 (C4 (i:=6) nd rfl (Or.inl rfl) (C3 K8 (B9 D6 (hr.mono (by omega)) rfl E6 E5 E7 .nil C2 (A0 (pv 0) (A0 A7 A6))) A7))
   (A8 (D8 (C7 (kEq (K:=K) hu) (C3 J9 (pv 6) A7) A7 rfl) (A8 (C4 (i:=1) nd rfl (Or.inl rfl) (C3 J9 (pv 1) A7))
   (A8 (C4 (i:=7) nd rfl (Or.inl rfl) (C3 S6 A7 (C3 J9 (C3 K8 (pv 6) A7) A7)))
   (A8 (C4 (i:=5) nd rfl (Or.inl rfl) (C3 J9 (C3 K8 (B9 D6 (hr.mono (by omega)) rfl E6 E5 E7 .nil C2 (A0 (pv 0) (A0 A7 A6))) A7) A7))
   (A8 (G5 (D8 (C7 (kEq (K:=K) hu) (C3 J9 (B9 D6 (hr.mono (by omega)) rfl E6 E5 E7 .nil C2 (A0 (pv 0) (A0 A7 A6))) A7) A7 rfl) (A9 (C4 (i:=5) nd rfl (Or.inl rfl) (C8 (bgZ (K:=K) rfl) rfl B.max_ WA (A0 A7 (A0 (C3 S6 (C3 N6 (C3 dZZ (pv 7) (C3 S6 (pv 1) A7)) A7) (C3 J9 (C3 K8 (B9 D6 (hr.mono (by omega)) rfl E6 E5 E7 .nil C2 (A0 (pv 0) (A0 A7 A6))) A7) A7)) A6))))) C9))
   (A8 (C4 (i:=8) nd rfl (Or.inl rfl) (B9 O9 (hr.mono (by omega)) rfl EF EH ED .nil C2 (A0 (pv 1) (A0 (pv 2) (A0 (pv 3) (A0 (pv 4) (A0 (pv 5) (A0 (pv 7) A6))))))))
   (A9 (C0 (B9 T9 (hr.mono (by omega)) rfl EY FD FA .nil C2 (A0 (B9 P8 (hr.mono (by omega)) rfl AV AR AW .nil C2 (A0 (pv 2) (A0 (pv 3) (A0 (pv 4) (A0 (pv 7) A6))))) (A0 A7 (A0 (pv 1) (A0 (pv 5) (A0 (pv 8) (A0 (J1 (AM (K:=K)) (pv 0) (J0 A7) (J0 A7)) A6)))))))))))))) C9)
   (A8 (C4 (i:=8) nd rfl (Or.inl rfl) (B9 O4 (hr.mono (by omega)) rfl BY CN CI .nil C2 (A0 (pv 1) (A0 (pv 2) (A0 (pv 3) (A0 (pv 4) (A0 (pv 5) (A0 A7 A6))))))))
   (A9 (C0 (B9 T9 (hr.mono (by omega)) rfl EY FD FA .nil C2 (A0 (B9 P8 (hr.mono (by omega)) rfl AV AR AW .nil C2 (A0 (pv 2) (A0 (pv 3) (A0 (pv 4) (A0 A7 A6))))) (A0 A7 (A0 (pv 1) (A0 (pv 5) (A0 (pv 8) (A0 (J1 (AM (K:=K)) (pv 0) (J0 A7) (J0 A7)) A6)))))))))))))))))), ?_⟩
 have hTb:Tb H Pt:=⟨_,hpt,(by first|exact trivial|simp[TriplesOk]),.inl rfl⟩
 have hcs:∀lo hi,∃cs:List Int,K9 (ns.map V.int) lo hi=cs.map V.int/\cs.length<=63:=λlo hi=>by
  have h1:=R8 (ns.map V.int) lo hi
  have e:K9 (ns.map V.int) lo hi=((ns.drop (HT.sIx (ns.map V.int).length 0 lo)).take (HT.sIx (ns.map V.int).length (ns.map V.int).length hi - HT.sIx (ns.map V.int).length 0 lo)).map V.int:=by
   unfold K9
   rw[<-List.map_drop,<-List.map_take]
  refine⟨_,e, ?_⟩
  rw[e,length_map]at h1
  refine le_trans h1 ?_
  rw[length_map]
  exact hl
 obtain⟨k4,(e4:K0 ns 0%4=(k4:Int)),h4⟩:=JT (K0 ns 0) (m:=4) (by decide)
 obtain⟨m,hm1,hm2,hm3⟩:∃m:Nat,[V.int 9,V.int 9,V.int 9,V.int 76][k4]? =some (.int (m:Int))/\0<m/\m<=76:=by
  have h:k4=0\/k4=1\/k4=2\/k4=3:=by omega
  rcases h with rfl|rfl|rfl|rfl
  ·exact⟨9,rfl,by decide,by decide⟩
  ·exact⟨9,rfl,by decide,by decide⟩
  ·exact⟨9,rfl,by decide,by decide⟩
  ·exact⟨76,rfl,by decide,by decide⟩
 refine⟨_,rfl,a,ns,0,rfl,hS,by decide,_,_,rfl,rfl,lg (by decide) (by decide),z4,λl1 hl1=>⟨_,rfl,a,ns,0,rfl,(A5 hl1 _).seq hS,by decide,_,_,rfl,rfl,(by decide:(0:Int)<4),.inl ⟨l1,_,(k4:Int),.int (m:Int),rfl,congrArg V.int e4,SqL.of upd_same,J2 hm1,_,_,rfl,rfl,(by omega:(0:Int)<(m:Int)), ?_⟩⟩⟩
 show Q3 _ _ _ [some (.ref a),some (.int ((K0 ns 0).fdiv 4%(m:Int))),none,none,none,none,none,none,none] (upd H l1 (.lst [.int 9,.int 9,.int 9,.int 76]))
 obtain⟨cn,ec,hc⟩:=JT ((K0 ns 0).fdiv 4) hm2
 rw[ec]
 have s1:=A5 hl1 (.lst [.int 9,.int 9,.int 9,.int 76])
 generalize upd H l1 (.lst [.int 9,.int 9,.int 9,.int 76])=H1 at s1⊢
 have hS1:=s1.seq hS
 have hT1:=O7 hTb s1
 refine⟨_,rfl,a,ns,1,rfl,hS1,by decide,_,_,rfl,rfl,(by decide:(0:Int)<6), ?_⟩
 refine⟨_,rfl,a,ns,2,rfl,hS1,by decide,K0 ns 2,rfl,λn hB=> ?_⟩
 refine⟨_,rfl,a,ns,1,rfl,hS1,by decide,_,_,rfl,rfl,lg (by decide) (by decide),_,_,rfl,rfl,(by decide:(0:Int)<3), ?_⟩
 refine⟨_,rfl,a,ns,3,rfl,hS1,by decide,_,_,rfl,rfl,lg (by decide) (by decide),_,_,rfl,rfl,(by decide:(0:Int)<81), ?_⟩
 show Q3 _ _ _ [some (.ref a),some (.int (cn:Int)),some (.int (K0 ns 1%6)),some (.int n),some (.int ((K0 ns 1).fdiv 6%3)),some (.int ((K0 ns 3).fdiv 2%81)),none,none,none] H1
 obtain⟨way,(ew:K0 ns 1%6=(way:Int)),hw⟩:=JT (K0 ns 1) (m:=6) (by decide)
 obtain⟨kind,(ek:(K0 ns 1).fdiv 6%3=(kind:Int)),hk⟩:=JT ((K0 ns 1).fdiv 6) (m:=3) (by decide)
 obtain⟨mo,(em:(K0 ns 3).fdiv 2%81=(mo:Int)),hmo⟩:=JT ((K0 ns 3).fdiv 2) (m:=81) (by decide)
 obtain⟨m3,(em3:(K0 ns 3).fdiv 2%3=(m3:Int)),hm3'⟩:=JT ((K0 ns 3).fdiv 2) (m:=3) (by decide)
 rw[ew,ek,em]
 refine⟨fun σ' H'=>∃z:Int,σ'=[some (.ref a),some (.int (cn:Int)),some (.int (way:Int)),some (.int n),some (.int (kind:Int)),some (.int z),none,none,none]/\H'=H1/\0<=z/\z<=100, ?_, ?_⟩
 ·refine⟨_,rfl,a,ns,3,rfl,hS1,by decide,_,_,rfl,rfl,(by decide:(0:Int)<2),.inl ⟨rfl,_,rfl, ?_⟩⟩
  by_cases c:K0 ns 3%2=1
  ·refine ifT (decide_eq_true (congrArg V.int c)) ⟨_,rfl,_,_,rfl,rfl,_,rfl,a,ns,3,rfl,hS1,by decide,_,_,rfl,rfl,lg (by decide) (by decide),_,_,rfl,rfl,(by decide:(0:Int)<3),.inl ⟨_,_,rfl,rfl,.inl ⟨_,_,rfl,_,rfl,rfl, ?_, ?_⟩⟩⟩
   ·rw[em3];split<;>omega
   ·rw[em3];split<;>omega
  ·exact ifF (λz=>c (by have:=of_decide_eq_true z;injection this)) ⟨_,rfl,rfl,by omega,by omega⟩
 rintro _ H' ⟨z,rfl,e,hz0,hz1⟩
 rw[e]
 clear e H'
 obtain⟨most,rfl⟩:∃k:Nat,z=(k:Int):=⟨z.toNat,by omega⟩
 refine⟨_,rfl,a,ns,1,rfl,hS1,by decide,_,_,rfl,rfl,lg (by decide) (by decide), ?_⟩
 show Q3 _ _ _ [some (.ref a),some (.int (cn:Int)),some (.int (way:Int)),some (.int n),some (.int (kind:Int)),some (.int (most:Int)),some (.int ((K0 ns 1).fdiv 18)),none,none] H1
 generalize(K0 ns 1).fdiv 18=cl
 refine⟨_,rfl,_,_,rfl,rfl,(by decide:(0:Int)<16),.inl ⟨rfl,_,rfl, ?_⟩⟩
 have lp:=IT way n
 by_cases c:cl%16=5
 ·refine ifT (decide_eq_true (congrArg V.int c)) ?_
  refine⟨_,rfl,_,_,rfl,rfl,(by decide:(0:Int)<45), ?_⟩
  refine⟨_,rfl,_,_,rfl,rfl,lg (by decide) (by decide),_,_,rfl,rfl,(by decide:(0:Int)<2),.inl ⟨_,_,rfl,rfl, ?_⟩⟩
  refine⟨_,rfl,a,ns,3,rfl,hS1,by decide,_,_,rfl,rfl,lg (by decide) (by decide),_,_,rfl,rfl,(by decide:(0:Int)<1001), ?_⟩
  show Q3 _ _ _ [some (.ref a),some (.int ((cn:Int)%45)),some (.int (way:Int)),some (.int n),some (.int (kind:Int)),some (.int ((K0 ns 3).fdiv 2%1001)),some (.int cl),some (.int (2+cl.fdiv 16%2)),none] H1
  obtain⟨c2,(ec2:(cn:Int)%45=(c2:Int)),hc2⟩:=JT (cn:Int) (m:=45) (by decide)
  obtain⟨o2,(eo2:cl.fdiv 16%2=(o2:Int)),ho2⟩:=JT (cl.fdiv 16) (m:=2) (by decide)
  obtain⟨mo2,(em2:(K0 ns 3).fdiv 2%1001=(mo2:Int)),hmo2⟩:=JT ((K0 ns 3).fdiv 2) (m:=1001) (by decide)
  obtain⟨oft,eo⟩:∃k:Nat,(2:Int)+(o2:Int)=(k:Int):=⟨2+o2,by omega⟩
  rw[ec2,eo2,em2,eo]
  have ho:oft=2\/oft=3:=by omega
  have hpr:(oft:Int)*((c2:Int)+1)<=135:=by rcases ho with rfl|rfl<;>omega
  refine⟨fun σ' H'=>∃z:Int,σ'=[some (.ref a),some (.int (c2:Int)),some (.int (way:Int)),some (.int n),some (.int (kind:Int)),some (.int z),some (.int cl),some (.int (oft:Int)),none]/\H'=H1/\0<=z/\z<=1100, ?_, ?_⟩
  ·refine⟨_,rfl,a,ns,3,rfl,hS1,by decide,_,_,rfl,rfl,(by decide:(0:Int)<2),.inl ⟨rfl,_,rfl, ?_⟩⟩
   by_cases c:K0 ns 3%2=1
   ·refine ifT (decide_eq_true (congrArg V.int c)) ⟨_,rfl,_,rfl,.inl ⟨_,_,rfl,rfl,.inl ⟨_,_,rfl,rfl,.inl ⟨by omega,by omega⟩,_,_,rfl,rfl,_,rfl,a,ns,3,rfl,hS1,by decide,_,_,rfl,rfl,lg (by decide) (by decide),_,_,rfl,rfl,(by decide:(0:Int)<3),.inl ⟨_,_,rfl,rfl,.inl ⟨_,_,rfl,_,rfl,rfl, ?_, ?_⟩⟩⟩⟩⟩
    ·rw[em3];split<;>omega
    ·rw[em3];split<;>omega
   ·exact ifF (λz=>c (by have:=of_decide_eq_true z;injection this)) ⟨_,rfl,rfl,by omega,by omega⟩
  rintro _ H' ⟨z,rfl,e,hy0,hy1⟩
  rw[e]
  clear e H'
  obtain⟨mst,rfl⟩:∃k:Nat,z=(k:Int):=⟨z.toNat,by omega⟩
  obtain⟨cells,hce,hTR⟩:=XY (way:=way) (n:=n) (kind:=kind) (often:=oft) (most:=mst) hw hB c2 (by omega) (by omega) (by omega)
  obtain⟨o4,o0,oN⟩:=VO way kind mst (B7 way n).length c2 lp (by omega) oft 0 0 0 (zero_le _)
  have oN2:oft*2002<=6006:=by omega
  refine⟨_,rfl,_,rfl,_,rfl,_,rfl,_,rfl,_,rfl,c2,way,n,kind,mst,oft,rfl,hw,hk,by omega,by omega,by omega,by omega,λdu u H2 s2 hdu hto=> ?_⟩
  refine⟨_,rfl,_,rfl,_,rfl,_,rfl,way,n,kind,oft,rfl,hw,hk,by omega,by omega,λbl vb H3 s3 hnb hbl hbs=> ?_⟩
  refine⟨_,rfl,_,rfl,_,rfl,_,rfl,_,rfl,_,rfl,.inl (.inl ⟨a,_,rfl,s3.seq (s2.seq hS1),λp hp=> ?_⟩)⟩
  obtain⟨cs,ecs,hcl⟩:=hcs (some 4) (some 10)
  have s4:=A5 hp (.lst (K9 (ns.map V.int) (some 4) (some 10)))
  exact⟨bl,du,p,vb,blocks way n kind oft,⟨1,1,Z8 oft⟩,4,c2,mst,way,n,_,_,_,cells,u,cs,rfl,s4 _ _ hbl,hbs.imp (λ_ _ z=>z.mo (B5 s4)),rfl,rfl,hTR,hw,λh=>(o0 h).resolve_left (by omega),o4,
   (s3.trans s4) _ _ hdu,hto.mo (s3.trans s4),upd_same.trans (congrArg (λx=>some (HO.lst x)) ecs),by omega,by omega,hce,O7 hT1 (s2.trans (s3.trans s4)),λH' _ _=>q H'⟩
 ·refine ifF (λz=>c (by have:=of_decide_eq_true z;injection this)) ?_
  obtain⟨cells,hce,hTR⟩:=asZ (way:=way) (n:=n) (kind:=kind) (often:=1) (most:=most) hw hB cn (by omega)
  have o4:=QW way cn most 60
  have oN:=QU way kind (B7 way n).length cn most 60 lp (by omega) (by decide)
  refine⟨_,rfl,_,rfl,_,rfl,_,rfl,_,rfl,cn,way,n,kind,most,60,rfl,hw,hk,by omega,by omega,by decide,λdu u H2 s2 hdu hto=> ?_⟩
  refine⟨_,rfl,_,rfl,_,rfl,way,n,kind,1,rfl,hw,hk,by decide,by decide,λbl vb H3 s3 hnb hbl hbs=> ?_⟩
  refine⟨_,rfl,_,rfl,_,rfl,_,rfl,_,rfl,_,rfl,.inl (.inl ⟨a,_,rfl,s3.seq (s2.seq hS1),λp hp=> ?_⟩)⟩
  obtain⟨cs,ecs,hcl⟩:=hcs (some 4) (some 10)
  have s4:=A5 hp (.lst (K9 (ns.map V.int) (some 4) (some 10)))
  exact⟨bl,du,p,vb,blocks way n kind 1,_,1,cn,most,way,n,_,_,_,cells,u,cs,rfl,s4 _ _ hbl,hbs.imp (λ_ _ z=>z.mo (B5 s4)),rfl,rfl,hTR,hw,λh=>XF h,o4,
   (s3.trans s4) _ _ hdu,hto.mo (s3.trans s4),upd_same.trans (congrArg (λx=>some (HO.lst x)) ecs),by omega,by omega,hce,O7 hT1 (s2.trans (s3.trans s4)),λH' _ _=>q H'⟩
end
end K67
namespace PySem.W.Fast
def tw15181919490893241323:=Nat
def tw17961926884895045757:=Nat
def tw6688991151478910782:=Nat
def tw1386940303024317400:=Nat
def tw7827224863724177008:=Nat
def tw6842738987697679160:=Nat
def tw10091223294241121136:=Nat
def tw1312771447897225076:=Nat
def tw3926671064036157829:=Nat
def tw14515905060257779796:=Nat
def tw2249259121127916579:=Nat
def tw3051671654827389725:=Nat
def tw17199883249646567071:=Nat
def tw1766350428054422644:=Nat
def tw10784717747011648999:=Nat
def tw13274146567497274735:=Nat
def tw15231360296616655001:=Nat
def tw10835437523846548540:=Nat
def tw15174364212892750499:=Nat
def tw272725823649782718:=Nat
def tw13392172280829036529:=Nat
def tw317276942888337859:=Nat
def tw3353862564453340220:=Nat
def tw13241040707574551547:=Nat
def tw9735993420505087167:=Nat
def tw12552626883251042464:=Nat
def tw18122366105034504292:=Nat
def tw4981720643749294298:=Nat
def tw6792213726878473120:=Nat
def tw14715093055321188757:=Nat
def tw3121524184356871652:=Nat
def tw12538605880111389263:=Nat
def tw12447675315812970112:=Nat
def tw6793431341077682769:=Nat
def tw2653453945397998113:=Nat
def tw3744375652980976976:=Nat
def tw8657703767468552441:=Nat
def tw10121847321255610464:=Nat
def tw6742606642550174216:=Nat
def tw12892873007466047299:=Nat
def tw9975192573223888193:=Nat
def tw11394931494888492417:=Nat
def tw18269827148311314904:=Nat
def tw2769985844145273106:=Nat
def tw14750204910470789096:=Nat
def tw9734722831503512106:=Nat
def tw8209933493114347494:=Nat
def tw16771485024127658586:=Nat
def tw13714835319583445329:=Nat
def tw8337198798523348066:=Nat
def tw3554990531521239677:=Nat
def tw3885179632608041625:=Nat
def tw10182304326432313128:=Nat
def tw15935065254241578430:=Nat
def tw6721021818049466600:=Nat
def tw2438397808425762102:=Nat
def tw13869394782516579423:=Nat
def tw13783349524236517061:=Nat
def tw15040472880745543033:=Nat
def tw3444015419323594925:=Nat
def tw16779450565783567760:=Nat
def tw14185314026592653206:=Nat
def tw12407689554689452575:=Nat
def tw13239863497056248726:=Nat
def tw3139996851115797109:=Nat
def tw15795674879634938645:=Nat
def tw5103173728456866775:=Nat
def tw12099473076612451108:=Nat
def tw9078920745742881005:=Nat
def tw1123454084061953766:=Nat
def tw2855739012263552153:=Nat
def tw7595274749948322152:=Nat
def tw11326017140910982806:=Nat
def tw5242327453881813574:=Nat
def tw14673575505214980728:=Nat
def tw17397659392918976397:=Nat
def tw8224678160517516503:=Nat
def tw10294075367758220231:=Nat
def tw17487746194187707574:=Nat
def tw4453706070339081691:=Nat
def tw11709784526062140422:=Nat
def tw1972358694973182961:=Nat
def tw8772771966247232512:=Nat
def tw2538597633988552543:=Nat
def tw2624970021787720752:=Nat
def tw16453745958479463834:=Nat
def tw9028702321320590757:=Nat
def tw11269118308800521462:=Nat
def tw2998654420607627757:=Nat
def tw1737815030078109429:=Nat
def tw4239634085817871230:=Nat
def tw16422262282853062747:=Nat
def tw5885245357397994821:=Nat
def tw2733559226086285170:=Nat
def tw5228775909973166203:=Nat
def tw6423125875607795706:=Nat
def tw16968137813935665404:=Nat
def tw13452076778809124193:=Nat
def tw14732410092575414093:=Nat
def tw8585625006252947865:=Nat
def tw11662925591646867873:=Nat
def tw11543949068380084583:=Nat
def tw1940874997802384791:=Nat
def tw9613749410474021853:=Nat
def tw4994360378870213481:=Nat
def tw6755143545979704946:=Nat
def tw17116791533319792524:=Nat
def tw6364880382483021854:=Nat
def tw14451179838755507432:=Nat
def tw12712874230031583409:=Nat
def tw4628200843775045902:=Nat
def tw15332936905150976955:=Nat
def tw15227709910472065581:=Nat
def tw18216038384497124910:=Nat
def tw15980747661054621674:=Nat
def tw9293688846697484732:=Nat
def tw7494060863304146026:=Nat
def tw1005829547028368277:=Nat
def tw11320565683334848324:=Nat
def tw16069395497860382193:=Nat
def tw17599469729847650503:=Nat
def tw10178076121546220479:=Nat
def tw15767815722735345224:=Nat
def tw6468639506856194557:=Nat
def tw16346301995052436464:=Nat
def tw14213685921195442438:=Nat
def tw6020356231954391430:=Nat
def tw8433325792161345807:=Nat
def tw1475685844407499233:=Nat
def tw14615750720752836734:=Nat
def tw17808935059997065091:=Nat
def tw3626146255580890760:=Nat
def tw5116485767311474927:=Nat
def tw5792877385699084224:=Nat
def tw12237816903669165956:=Nat
def tw6499262964771288031:=Nat
def tw11474042062768818082:=Nat
def tw599436190549766166:=Nat
def tw13266488931590211627:=Nat
def tw14394796946167396451:=Nat
def tw5435635666161806352:=Nat
def tw6151418595538056185:=Nat
def tw17454707703949676624:=Nat
def tw15315692747295701673:=Nat
def tw13797468706408696428:=Nat
def tw2816101687705399163:=Nat
def tw4196741332460492397:=Nat
def tw4131986930123465137:=Nat
def tw17790746147396877665:=Nat
def tw10934055400907483901:=Nat
def tw341953867710903505:=Nat
def tw3609159300050316028:=Nat
def tw11033063397675535100:=Nat
def tw10881669228059668900:=Nat
def tw1869149210556108493:=Nat
def tw6742515036237112535:=Nat
def tw5194303430854117475:=Nat
def tw7091151548330756699:=Nat
def tw8539444832007343421:=Nat
def tw11498468603748085384:=Nat
def tw2910262217043974554:=Nat
def tw18098691663313997480:=Nat
def tw2239122716091707830:=Nat
def tw5273229786332737157:=Nat
def tw9867553963581098127:=Nat
def tw6038170359988009088:=Nat
def tw11036030736520175899:=Nat
def tw12225439647600708714:=Nat
def tw13710659041099083992:=Nat
def tw12424468220654079951:=Nat
def tw8852639834845553989:=Nat
def tw15794122655801197972:=Nat
def tw18137139706661589425:=Nat
def tw13561678601369151675:=Nat
def tw10906667303489854388:=Nat
def tw3095209558741356058:=Nat
def tw11312225707162631821:=Nat
def tw10537099062174625623:=Nat
def tw4728013301513684661:=Nat
def tw11822185092217822685:=Nat
def tw9233303897967193191:=Nat
def tw9084811274391155689:=Nat
def tw10229801400385562216:=Nat
def tw3195890057977032865:=Nat
def tw16417971693026805709:=Nat
def tw1374994260445330199:=Nat
def tw10525851734162812765:=Nat
def tw14972934947880312921:=Nat
def tw9695667734443824566:=Nat
def tw696488657570729444:=Nat
def tw16540384666188888181:=Nat
def tw1728127071599520616:=Nat
def tw270978022216389826:=Nat
def tw16767385347606419503:=Nat
def tw10590423701929862854:=Nat
def tw15926010437946528523:=Nat
def tw16324019588056834424:=Nat
def tw4098839409451281363:=Nat
def tw15906124815392313857:=Nat
def tw17036028689886540710:=Nat
def tw6600486751682765016:=Nat
def tw3312292526829268003:=Nat
def tw7620676727767394462:=Nat
def tw13838236998817466869:=Nat
def tw16515910663894727168:=Nat
def tw15104695688574487837:=Nat
def tw14206795022267064138:=Nat
def tw10988083239026835220:=Nat
def tw14932631290098658934:=Nat
def tw7092005710103304541:=Nat
def tw9019821602021199926:=Nat
def tw14732976515267234678:=Nat
def tw2753849996976117766:=Nat
def tw13120385909882362949:=Nat
def tw14941419080566737868:=Nat
def tw4602479980968254903:=Nat
def tw3643332490073847596:=Nat
def tw6881414026218650252:=Nat
def tw18090100298827964855:=Nat
def tw8469231962659731027:=Nat
def tw9450037422817687670:=Nat
def tw15458020981616586528:=Nat
def tw8934580578626530026:=Nat
def tw12108380304263483297:=Nat
def tw11462487052851145948:=Nat
def tw11306252679801122409:=Nat
def tw11946352202563707057:=Nat
def tw990409650322806431:=Nat
def tw15621787051629359807:=Nat
def tw9847107655373247555:=Nat
def tw1746080792934378149:=Nat
def tw4195799969530236701:=Nat
def tw12321927181674637984:=Nat
def tw37099096806649245:=Nat
def tw4323083180023781323:=Nat
def tw3986694842078533520:=Nat
def tw16948496910962113138:=Nat
def tw16471189734257928470:=Nat
def tw611517588295294447:=Nat
def tw4579354454563270142:=Nat
def tw8117196307209631308:=Nat
def tw12807812591132783815:=Nat
def tw2030850261142307445:=Nat
def tw682770172000247146:=Nat
def tw3305410334379755288:=Nat
def tw10569167561836542005:=Nat
def tw9430164474963368992:=Nat
def tw7525678329485699602:=Nat
def tw6850647924467795992:=Nat
def tw3782247451910358665:=Nat
def tw4487588626693467104:=Nat
def tw16094739540059608592:=Nat
def tw5269473283343826933:=Nat
def tw1722593501750466935:=Nat
def tw10463868772547833846:=Nat
def tw8246709418332215258:=Nat
def tw8686811284632920424:=Nat
def tw5486950009290425625:=Nat
def tw7284595675230155336:=Nat
def tw6434769765578421392:=Nat
def tw11180328499066452454:=Nat
def tw6266670026712542397:=Nat
def tw2347921616464608602:=Nat
def tw11120626515531564572:=Nat
def tw4474086457699756747:=Nat
def tw3627147853936761566:=Nat
def tw13591908244360421244:=Nat
def tw16899286505427835393:=Nat
def tw2624539193100801665:=Nat
def tw8018926091321027695:=Nat
def tw12068597520595968312:=Nat
def tw13972651083064914827:=Nat
def tw15908123362066724276:=Nat
def tw14479673232494873082:=Nat
def tw12711388269823571429:=Nat
def tw16418350738587041020:=Nat
def tw3727243029411184910:=Nat
def tw6147725392801703771:=Nat
def tw6898014824052861195:=Nat
def tw920312888122601033:=Nat
def tw2666233409163344403:=Nat
def tw7191120697932715536:=Nat
def tw7788739948460607598:=Nat
def tw11046121668716502930:=Nat
def tw3058254485294768049:=Nat
def tw6927819219255112727:=Nat
def tw16595776315473343176:=Nat
def tw9842567036611388045:=Nat
def tw9592897403117685855:=Nat
def tw18370595441416349594:=Nat
def tw8493429746712231542:=Nat
def tw14205972247060343334:=Nat
def tw12692902695753174857:=Nat
def tw253742273475265544:=Nat
def tw16876239169437805006:=Nat
def tw7642378557289976287:=Nat
def tw16680709507526482812:=Nat
def tw17588713590763232074:=Nat
def tw17681113007169459759:=Nat
def tw2424455741830327933:=Nat
def tw12895066418499446663:=Nat
def tw9637053185745626417:=Nat
def tw1207212366297252655:=Nat
def tw8180522599925012509:=Nat
def tw16274196715143952314:=Nat
def tw11421727391218892851:=Nat
def tw18395365073502604985:=Nat
def tw7479977321045492686:=Nat
def tw12962359065999144204:=Nat
def tw4924663565939863089:=Nat
def tw9812167681796256635:=Nat
def tw11701028719622955812:=Nat
def tw3980254385913556187:=Nat
def tw9310530293724895761:=Nat
def tw10148118515667571678:=Nat
def tw10813300722859974903:=Nat
def tw8784060204469599710:=Nat
def tw5914330294044516312:=Nat
def tw1591005233852774007:=Nat
def tw6123991967305427152:=Nat
def tw7873528422582823275:=Nat
def tw15513711819768745203:=Nat
def tw17880869338620062173:=Nat
def tw5749945146379809775:=Nat
def tw8846233181276884750:=Nat
def tw10592353185618871964:=Nat
def tw13393553931260550443:=Nat
def tw1201023376250795241:=Nat
def tw11942018552330577590:=Nat
def tw15188427951744428395:=Nat
def tw8457223757954740008:=Nat
def tw5113749739102375822:=Nat
def tw13243166279595718962:=Nat
def tw12720408746051340334:=Nat
def tw359008122374570809:=Nat
def tw9723770065981137704:=Nat
def tw1520055294603295265:=Nat
def tw4108197116179367933:=Nat
def tw17374891828563782339:=Nat
def tw6054077804960422548:=Nat
def tw15971606052335371376:=Nat
def tw1780857783664011334:=Nat
def tw9545707984578675086:=Nat
def tw2927021898069525478:=Nat
def tw7776364671941654748:=Nat
def tw3678399781431154743:=Nat
def tw3453275152912390410:=Nat
def tw7981737111280052855:=Nat
def tw9736103089469988285:=Nat
def tw9706578240171428937:=Nat
def tw12107616211721062495:=Nat
def tw12142405091815147772:=Nat
def tw11938034257749572923:=Nat
def tw3915846623921588346:=Nat
def tw17594432561155066985:=Nat
def tw15035793462058055016:=Nat
def tw16520514707337909139:=Nat
def tw2518647611422578413:=Nat
def tw14878812138384163065:=Nat
def tw15289208006060596699:=Nat
def tw13278760022182194015:=Nat
def tw6557529428063493945:=Nat
def tw7699262655904027373:=Nat
def tw4867246245088102051:=Nat
def tw9799657072534367194:=Nat
def tw2671357189059216258:=Nat
def tw7312429422154562249:=Nat
def tw519973888245373053:=Nat
def tw10493352220855342272:=Nat
def tw299019928673927114:=Nat
def tw12062616153817540256:=Nat
def tw5326676258603929720:=Nat
def tw4608568954580736117:=Nat
def tw10443865877827192040:=Nat
def tw15944835321930309260:=Nat
def tw7858619170515026133:=Nat
def tw12906694202224102493:=Nat
def tw11398820592890935147:=Nat
def tw5040191716265343772:=Nat
def tw11940683861585447433:=Nat
def tw15935924982292494960:=Nat
def tw9859986796485936132:=Nat
def tw17330986653353735734:=Nat
def tw3047078517903126452:=Nat
def tw9292934763493043066:=Nat
def tw5578566583853048768:=Nat
def tw12066461926772138398:=Nat
def tw6677649380921389077:=Nat
def tw9295399656728633197:=Nat
def tw883128738702575152:=Nat
def tw14217982843437026848:=Nat
def tw12080549992649562677:=Nat
def tw4103955758605506110:=Nat
def tw1127813640429990511:=Nat
def tw7082742045616779488:=Nat
def tw9955772098706149108:=Nat
def tw12535176659053643495:=Nat
def tw7350772363647827555:=Nat
def tw14123073129064490304:=Nat
def tw15787446202411982219:=Nat
def tw12150516387388858826:=Nat
def tw9624819726446397423:=Nat
def tw16358652601597036672:=Nat
def tw9144695273318701187:=Nat
def tw15317861995656824287:=Nat
def tw9851434401267267249:=Nat
def tw6504635441975901345:=Nat
def tw4083410478822696177:=Nat
def tw460435241118874815:=Nat
def tw7368182327683128579:=Nat
def tw9598792688216346817:=Nat
def tw11656973218147106585:=Nat
def tw16413556257980463010:=Nat
def tw17433323482120036087:=Nat
def tw3950628685412545139:=Nat
def tw2337756142383187369:=Nat
def tw7585172060566151844:=Nat
def tw17165308942819235940:=Nat
def tw3614622332489095100:=Nat
def tw13868956571528322350:=Nat
def tw5244917678177659071:=Nat
def tw4079855148382153829:=Nat
def tw14937108356052398766:=Nat
def tw15405108686472581989:=Nat
def tw11845642016634141625:=Nat
def tw16640880036847834801:=Nat
def tw7999052350143002962:=Nat
def tw16681056607589250894:=Nat
def tw9436245698188033957:=Nat
def tw6570313813243156662:=Nat
def tw17829758188544751566:=Nat
def tw3414582571114290359:=Nat
def tw16422030812329289136:=Nat
def tw18242572049378970504:=Nat
def tw14205834757472742502:=Nat
def tw16225619132166028022:=Nat
def tw4735776509596832531:=Nat
def tw11666866928498042213:=Nat
def tw12236206412476644848:=Nat
def tw6627113654097411490:=Nat
def tw4697017242405266187:=Nat
def tw14096767255546768528:=Nat
def tw7489758423958897427:=Nat
def tw13374947209369840132:=Nat
def tw10595544217909203703:=Nat
def tw13968245243378264968:=Nat
def tw1291604897279467673:=Nat
def tw1144635695163762769:=Nat
def tw12031413465962183017:=Nat
def tw17625724768757481190:=Nat
def tw13703402468038652949:=Nat
def tw8248329554883909096:=Nat
def tw12473570832887039483:=Nat
def tw8383181189100929774:=Nat
def tw17558959251030667260:=Nat
def tw16360339650104517273:=Nat
def tw10936102198687811369:=Nat
def tw18294035708506095425:=Nat
def tw3760943977555625753:=Nat
def tw16293985412220747837:=Nat
def tw15082041918479844960:=Nat
def tw6393944145403557944:=Nat
def tw6021117586161238041:=Nat
def tw1202291149213540354:=Nat
end PySem.W.Fast
namespace K67
open PySem L2
structure NoX (mg:Str->Option Value):Prop where
 dict_:mg "dict"=none
def QE{α:Type}(l:List (Str×α))(d:α)(x:Str):α:=(l.lookup x).getD d
theorem D3{α:Type}(d:α):∀(l:List (Str×α)) (i:Nat) (x:Str) (v:α),l[i]? =some (x,v)->(l.map (·.1)).Nodup->QE l d x=v
 | [],i,x,v,h,_=>by cases h
 |(y,u)::r,0,x,v,h,_=>by
  cases h
  unfold QE
  rw[List.lookup_cons_self]
  rfl
 |(y,u)::r,i+1,x,v,h,hn=>by
  have h':r[i]? =some (x,v):=h
  rw[map_cons,nodup_cons]at hn
  have hm:x∈r.map (·.1):=mem_map.mpr ⟨(x,v),mem_of_getElem? h',rfl⟩
  have hne:x≠y:=λe=>hn.1 (e▸hm)
  have ih:=D3 d r i x v h' hn.2
  unfold QE at ih⊢
  rw[lookup_cons,show(x==y)=false from beq_false_of_ne hne]
  exact ih
theorem K4:(["put","at","many","told"]:List Str).Nodup:=by decide +kernel
theorem dVZ(f0 f1 f2 f3:Addr)(d0 d1 d2 d3:FuncData):∃(mf:Str->Addr) (md:Str->FuncData),mf "put"=f0/\mf "at"=f1/\mf "many"=f2/\mf "told"=f3/\md "put"=d0/\md "at"=d1/\md "many"=d2/\md "told"=d3:=
 ⟨QE [("put",f0),("at",f1),("many",f2),("told",f3)] f0,QE [("put",d0),("at",d1),("many",d2),("told",d3)] d0,D3 _ _ 0 _ _ rfl K4,D3 _ _ 1 _ _ rfl K4,D3 _ _ 2 _ _ rfl K4,D3 _ _ 3 _ _ rfl K4,D3 _ _ 0 _ _ rfl K4,D3 _ _ 1 _ _ rfl K4,D3 _ _ 2 _ _ rfl K4,D3 _ _ 3 _ _ rfl K4⟩
/-- a def of the top,as it lies -/
def DefAt(K:FZ)(x:Str)(st:Stmt)(f:Addr)(fd:FuncData):Prop:=∃(oc kV dc pm cd ct:Value) (od an:Option Addr) (sl:Array (Option Value)),fd=fnOf x x (E9 st) (D9 st) (B0 st) .none kV dc pm an cd ct/\PySem.W.nsIn K mainGlobals x=some (some (.ref f))/\K.lookup f=some ⟨oc,od,.func (fnOf x x (E9 st) (D9 st) (B0 st) .none kV dc pm an cd ct),sl⟩/\codeIn K cd x=true/\PySem.W.keepIn K (.ref f)=true
section
variable{K:FZ}{x:Str}{st:Stmt}{f:Addr}{fd:FuncData}
theorem DefAt.ns(h:DefAt K x st f fd):PySem.W.nsIn K mainGlobals x=some (some (.ref f)):=let⟨_,_,_,_,_,_,_,_,_,_,a,_⟩:=h;a
theorem DefAt.kp(h:DefAt K x st f fd):kZ K (.ref f)=true:=let⟨_,_,_,_,_,_,_,_,_,_,_,_,_,a⟩:=h;a
theorem DefAt.fn(h:DefAt K x st f fd):Fun K x x st f fd:=by
 obtain⟨_,_,_,_,_,_,_,_,_,rfl,_,l,c,k⟩:=h
 exact U4 l c k
end
/-- a method of a class,as it lies -/
def MethAt(K:FZ)(C:Addr)(x qn:Str)(st:Stmt)(f:Addr)(fd:FuncData):Prop:=∃(oc kV dc pm cd ct:Value) (od an:Option Addr) (sl:Array (Option Value)),fd=fnOf x qn (E9 st) (D9 st) (B0 st) .none kV dc pm an cd ct/\findIn K (.ref C) x=some (some (.ref f))/\K.lookup f=some ⟨oc,od,.func (fnOf x qn (E9 st) (D9 st) (B0 st) .none kV dc pm an cd ct),sl⟩/\codeIn K cd qn=true/\PySem.W.keepIn K (.ref f)=true/\isFn K (.ref f)=true
section
variable{K:FZ}{C:Addr}{x qn:Str}{st:Stmt}{f:Addr}{fd:FuncData}
theorem MethAt.me(h:MethAt K C x qn st f fd):Meth K C x f:=let⟨_,_,_,_,_,_,_,_,_,_,a,_,_,k,j⟩:=h;⟨a,j,k⟩
theorem MethAt.fn(h:MethAt K C x qn st f fd):Fun K x qn st f fd:=by
 obtain⟨_,_,_,_,_,_,_,_,_,rfl,_,l,c,k,_⟩:=h
 exact U4 l c k
end
theorem C5:(["step","go_on","enter","leave","end","collect","hung_on","hang_on","has_value","answer","frames","cells","rows_done","calls"]:List Str).Nodup:=by decide +kernel
theorem dfZ(f0 f1 f2 f3 f4 f5 f6 f7 f8 f9 f10 f11 f12 f13:Addr)(d0 d1 d2 d3 d4 d5 d6 d7 d8 d9 d10 d11 d12 d13:FuncData):∃(mf:Str->Addr) (md:Str->FuncData),mf "step"=f0/\mf "go_on"=f1/\mf "enter"=f2/\mf "leave"=f3/\mf "end"=f4/\mf "collect"=f5/\mf "hung_on"=f6/\mf "hang_on"=f7/\mf "has_value"=f8/\mf "answer"=f9/\mf "frames"=f10/\mf "cells"=f11/\mf "rows_done"=f12/\mf "calls"=f13/\md "step"=d0/\md "go_on"=d1/\md "enter"=d2/\md "leave"=d3/\md "end"=d4/\md "collect"=d5/\md "hung_on"=d6/\md "hang_on"=d7/\md "has_value"=d8/\md "answer"=d9/\md "frames"=d10/\md "cells"=d11/\md "rows_done"=d12/\md "calls"=d13:=
 ⟨QE [("step",f0),("go_on",f1),("enter",f2),("leave",f3),("end",f4),("collect",f5),("hung_on",f6),("hang_on",f7),("has_value",f8),("answer",f9),("frames",f10),("cells",f11),("rows_done",f12),("calls",f13)] f0,QE [("step",d0),("go_on",d1),("enter",d2),("leave",d3),("end",d4),("collect",d5),("hung_on",d6),("hang_on",d7),("has_value",d8),("answer",d9),("frames",d10),("cells",d11),("rows_done",d12),("calls",d13)] d0,D3 _ _ 0 _ _ rfl C5,D3 _ _ 1 _ _ rfl C5,D3 _ _ 2 _ _ rfl C5,D3 _ _ 3 _ _ rfl C5,D3 _ _ 4 _ _ rfl C5,D3 _ _ 5 _ _ rfl C5,D3 _ _ 6 _ _ rfl C5,D3 _ _ 7 _ _ rfl C5,D3 _ _ 8 _ _ rfl C5,D3 _ _ 9 _ _ rfl C5,D3 _ _ 10 _ _ rfl C5,D3 _ _ 11 _ _ rfl C5,D3 _ _ 12 _ _ rfl C5,D3 _ _ 13 _ _ rfl C5,D3 _ _ 0 _ _ rfl C5,D3 _ _ 1 _ _ rfl C5,D3 _ _ 2 _ _ rfl C5,D3 _ _ 3 _ _ rfl C5,D3 _ _ 4 _ _ rfl C5,D3 _ _ 5 _ _ rfl C5,D3 _ _ 6 _ _ rfl C5,D3 _ _ 7 _ _ rfl C5,D3 _ _ 8 _ _ rfl C5,D3 _ _ 9 _ _ rfl C5,D3 _ _ 10 _ _ rfl C5,D3 _ _ 11 _ _ rfl C5,D3 _ _ 12 _ _ rfl C5,D3 _ _ 13 _ _ rfl C5⟩
theorem bn1{K:FZ}{x qual:Str}{st:Stmt}{f:Addr}{fd:FuncData}{ps:List Str}(F:Fun K x qual st f fd)(l:ps.length=1)(h:∀(kV doc pm:Value) (an:Option Addr) (cdv ct a0:Value),bindArgs (fnOf x qual (E9 st) (D9 st) (B0 st) .none kV doc pm an cdv ct) ⟨[a0],[]⟩=pure (ps.zip [a0])):Binds K fd ps []:=
 F.binds λkV doc pm an cdv ct us hl=>match us,hl.trans l with| [a0],_=>h kV doc pm an cdv ct a0
theorem bn2{K:FZ}{x qual:Str}{st:Stmt}{f:Addr}{fd:FuncData}{ps:List Str}(F:Fun K x qual st f fd)(l:ps.length=2)(h:∀(kV doc pm:Value) (an:Option Addr) (cdv ct a0 a1:Value),bindArgs (fnOf x qual (E9 st) (D9 st) (B0 st) .none kV doc pm an cdv ct) ⟨[a0,a1],[]⟩=pure (ps.zip [a0,a1])):Binds K fd ps []:=
 F.binds λkV doc pm an cdv ct us hl=>match us,hl.trans l with| [a0,a1],_=>h kV doc pm an cdv ct a0 a1
theorem bn3{K:FZ}{x qual:Str}{st:Stmt}{f:Addr}{fd:FuncData}{ps:List Str}(F:Fun K x qual st f fd)(l:ps.length=3)(h:∀(kV doc pm:Value) (an:Option Addr) (cdv ct a0 a1 a2:Value),bindArgs (fnOf x qual (E9 st) (D9 st) (B0 st) .none kV doc pm an cdv ct) ⟨[a0,a1,a2],[]⟩=pure (ps.zip [a0,a1,a2])):Binds K fd ps []:=
 F.binds λkV doc pm an cdv ct us hl=>match us,hl.trans l with| [a0,a1,a2],_=>h kV doc pm an cdv ct a0 a1 a2
theorem bn4{K:FZ}{x qual:Str}{st:Stmt}{f:Addr}{fd:FuncData}{ps:List Str}(F:Fun K x qual st f fd)(l:ps.length=4)(h:∀(kV doc pm:Value) (an:Option Addr) (cdv ct a0 a1 a2 a3:Value),bindArgs (fnOf x qual (E9 st) (D9 st) (B0 st) .none kV doc pm an cdv ct) ⟨[a0,a1,a2,a3],[]⟩=pure (ps.zip [a0,a1,a2,a3])):Binds K fd ps []:=
 F.binds λkV doc pm an cdv ct us hl=>match us,hl.trans l with| [a0,a1,a2,a3],_=>h kV doc pm an cdv ct a0 a1 a2 a3
theorem bn5{K:FZ}{x qual:Str}{st:Stmt}{f:Addr}{fd:FuncData}{ps:List Str}(F:Fun K x qual st f fd)(l:ps.length=5)(h:∀(kV doc pm:Value) (an:Option Addr) (cdv ct a0 a1 a2 a3 a4:Value),bindArgs (fnOf x qual (E9 st) (D9 st) (B0 st) .none kV doc pm an cdv ct) ⟨[a0,a1,a2,a3,a4],[]⟩=pure (ps.zip [a0,a1,a2,a3,a4])):Binds K fd ps []:=
 F.binds λkV doc pm an cdv ct us hl=>match us,hl.trans l with| [a0,a1,a2,a3,a4],_=>h kV doc pm an cdv ct a0 a1 a2 a3 a4
theorem bn6{K:FZ}{x qual:Str}{st:Stmt}{f:Addr}{fd:FuncData}{ps:List Str}(F:Fun K x qual st f fd)(l:ps.length=6)(h:∀(kV doc pm:Value) (an:Option Addr) (cdv ct a0 a1 a2 a3 a4 a5:Value),bindArgs (fnOf x qual (E9 st) (D9 st) (B0 st) .none kV doc pm an cdv ct) ⟨[a0,a1,a2,a3,a4,a5],[]⟩=pure (ps.zip [a0,a1,a2,a3,a4,a5])):Binds K fd ps []:=
 F.binds λkV doc pm an cdv ct us hl=>match us,hl.trans l with| [a0,a1,a2,a3,a4,a5],_=>h kV doc pm an cdv ct a0 a1 a2 a3 a4 a5
theorem all_mk{l:PySem.W.OpenLaw}{w:World}{K:PySem.W.Frag}{h:Heap}{mg:Str->Option Value}{fa:Addr}(X:K.In h)(G:h.Ns mainGlobals mg)(hfa:mg "law"=some (.ref fa)){c Pt:Addr}
  {f0 f1 f2 f3 f4 f5 f6 f7 f8 f9 f10 f11 f12 f13 f14 f15 f16 f17 f18 f19 f20 f21 f22 f23 f24 f25 f26 f27 f28 f29 f30 f31 f32 f33 f34 f35 f36 f37:Addr}{od2 an2 od37 an37:Option Addr}{sl2 sl37:Array (Option Value)}{oc2 kV2 dc2 pm2 cd2 ct2 oc37 kV37 dc37 pm37 cd37 ct37:Value}
  {e0 e1 e3 e4 e5 e6 e7 e8 e9 e10 e11 e12 e13 e14 e15 e16 e17 e18 e19 e20 e21 e22 e23 e24 e25 e26 e27 e28 e29 e30 e31 e32 e33 e34 e35 e36:FuncData}
  {t_GREATEST t_DEEPEST:Tok}
  {C:Addr}{fM0 fM1 fM2 fM3 fI:Addr}{odM0 anM0 odM1 anM1 odM2 anM2 odM3 anM3 odI anI:Option Addr}{slM0 slM1 slM2 slM3 slI:Array (Option Value)}{ocM0 kVM0 dcM0 pmM0 cdM0 ctM0 ocM1 kVM1 dcM1 pmM1 cdM1 ctM1 ocM2 kVM2 dcM2 pmM2 cdM2 ctM2 ocM3 kVM3 dcM3 pmM3 cdM3 ctM3 ocI kVI dcI pmI cdI ctI:Value}
  {pf_ROW_SIGNS:Addr}{es_ROW_SIGNS:Array DictEntry}{nes_ROW_SIGNS:Nat}
  (d0:DefAt K "built_up" BV.s_built_up f0 e0)
  (d1:DefAt K "is_cell" SW.s_is_cell f1 e1)
  (d3:DefAt K "heads_of" PL.s_heads_of f3 e3)
  (d4:DefAt K "with_heads" PL.s_with_heads f4 e4)
  (d5:DefAt K "swept" SW.s_swept f5 e5)
  (d6:DefAt K "numbers_led_to" SW.s_numbers_led_to f6 e6)
  (d7:DefAt K "values_in" SW.s_values_in f7 e7)
  (d8:DefAt K "moved_cell" SW.s_moved_cell f8 e8)
  (d9:DefAt K "moved" SW.s_moved f9 e9)
  (d10:DefAt K "two_told" NM.s_two_told f10 e10)
  (d11:DefAt K "quotient_told" NM.s_quotient_told f11 e11)
  (d12:DefAt K "outcome" NM.s_outcome f12 e12)
  (d13:DefAt K "bounded" NM.s_bounded f13 e13)
  (d14:DefAt K "entered" CL.s_entered f14 e14)
  (d15:DefAt K "own_done" CL.s_own_done f15 e15)
  (d16:DefAt K "called" CL.s_called f16 e16)
  (d17:DefAt K "behind" CL.s_behind f17 e17)
  (d18:DefAt K "top_values" CL.s_top_values f18 e18)
  (d19:DefAt K "two_done" CL.s_two_done f19 e19)
  (d20:DefAt K "part_done" CL.s_part_done f20 e20)
  (d21:DefAt K "with_new_cell" CL.s_with_new_cell f21 e21)
  (d22:DefAt K "with_nothing_put" CL.s_with_nothing_put f22 e22)
  (d23:DefAt K "with_slot" CL.s_with_slot f23 e23)
  (d24:DefAt K "further" CL.s_further f24 e24)
  (d25:DefAt K "value_put" CL.s_value_put f25 e25)
  (d26:DefAt K "run" MC.s_run f26 e26)
  (d27:DefAt K "ended" MC.s_ended f27 e27)
  (d28:DefAt K "_law_cell_at" K67.s_law_cell_at f28 e28)
  (d29:DefAt K "_law_same" CL.s_law_same f29 e29)
  (d30:DefAt K "_law_number" K67.s_law_number f30 e30)
  (d31:DefAt K "_law_piece" K67.s_law_piece f31 e31)
  (d32:DefAt K "_law_again" K67.s_law_again f32 e32)
  (d33:DefAt K "_law_blocks" K67.s_law_blocks f33 e33)
  (d34:DefAt K "_law_due" K67.s_law_due f34 e34)
  (d35:DefAt K "_law_due_often" K67.s_law_due_often f35 e35)
  (d36:DefAt K "_law_goes" K67.s_law_goes f36 e36)
  (a2:PySem.W.nsIn K mainGlobals "plain"=some (some (.ref f2)))(l2:K.lookup f2=some ⟨oc2,od2,.func (PySem.W.fnOf "plain" "plain" (E9 PL.s_plain) (D9 PL.s_plain) (B0 PL.s_plain) .none kV2 dc2 pm2 an2 cd2 ct2),sl2⟩)(c2:PySem.W.codeIn K cd2 "plain"=true)(k2:PySem.W.keepIn K (.ref f2)=true)
  (a37:PySem.W.nsIn K mainGlobals "law"=some (some (.ref f37)))(l37:K.lookup f37=some ⟨oc37,od37,.func (PySem.W.fnOf "law" "law" (E9 K67.s_law) (D9 K67.s_law) (B0 K67.s_law) .none kV37 dc37 pm37 an37 cd37 ct37),sl37⟩)(c37:PySem.W.codeIn K cd37 "law"=true)(k37:PySem.W.keepIn K (.ref f37)=true)
  (e_GREATEST:PySem.W.nsIn K mainGlobals "GREATEST"=some (some (.int 10000000000000000000000000000000000000000 t_GREATEST)))
  (e_DEEPEST:PySem.W.nsIn K mainGlobals "DEEPEST"=some (some (.int 60 t_DEEPEST)))
  (aD_ROW_SIGNS:PySem.W.nsIn K mainGlobals "ROW_SIGNS"=some (some (.ref pf_ROW_SIGNS)))(lD_ROW_SIGNS:K.lookup pf_ROW_SIGNS=some ⟨.type "dict",none,.dict es_ROW_SIGNS nes_ROW_SIGNS, #[]⟩)(kD_ROW_SIGNS:PySem.W.KeysLit w.params es_ROW_SIGNS.toList)(pD_ROW_SIGNS:Paired (λ(p:Str×V) (e:DictEntry)=>(∃t,e.key=.str p.1 t)/\RelV p.2 e.val) CL.RS es_ROW_SIGNS.toList)(oD_ROW_SIGNS:(pf_ROW_SIGNS==sysModules)=false)
  (aC:PySem.W.nsIn K mainGlobals "Cells"=some (some (.ref C)))
  (aM0:PySem.W.findIn K (.ref C) "put"=some (some (.ref fM0)))(lM0:K.lookup fM0=some ⟨ocM0,odM0,.func (PySem.W.fnOf "put" "Cells.put" (E9 CL.s_put) (D9 CL.s_put) (B0 CL.s_put) .none kVM0 dcM0 pmM0 anM0 cdM0 ctM0),slM0⟩)(cM0:PySem.W.codeIn K cdM0 "Cells.put"=true)(kM0:PySem.W.keepIn K (.ref fM0)=true)(jM0:PySem.W.isFn K (.ref fM0)=true)
  (aM1:PySem.W.findIn K (.ref C) "at"=some (some (.ref fM1)))(lM1:K.lookup fM1=some ⟨ocM1,odM1,.func (PySem.W.fnOf "at" "Cells.at" (E9 CL.s_at) (D9 CL.s_at) (B0 CL.s_at) .none kVM1 dcM1 pmM1 anM1 cdM1 ctM1),slM1⟩)(cM1:PySem.W.codeIn K cdM1 "Cells.at"=true)(kM1:PySem.W.keepIn K (.ref fM1)=true)(jM1:PySem.W.isFn K (.ref fM1)=true)
  (aM2:PySem.W.findIn K (.ref C) "many"=some (some (.ref fM2)))(lM2:K.lookup fM2=some ⟨ocM2,odM2,.func (PySem.W.fnOf "many" "Cells.many" (E9 CL.s_many) (D9 CL.s_many) (B0 CL.s_many) .none kVM2 dcM2 pmM2 anM2 cdM2 ctM2),slM2⟩)(cM2:PySem.W.codeIn K cdM2 "Cells.many"=true)(kM2:PySem.W.keepIn K (.ref fM2)=true)(jM2:PySem.W.isFn K (.ref fM2)=true)
  (aM3:PySem.W.findIn K (.ref C) "told"=some (some (.ref fM3)))(lM3:K.lookup fM3=some ⟨ocM3,odM3,.func (PySem.W.fnOf "told" "Cells.told" (E9 CL.s_told) (D9 CL.s_told) (B0 CL.s_told) .none kVM3 dcM3 pmM3 anM3 cdM3 ctM3),slM3⟩)(cM3:PySem.W.codeIn K cdM3 "Cells.told"=true)(kM3:PySem.W.keepIn K (.ref fM3)=true)(jM3:PySem.W.isFn K (.ref fM3)=true)
  (aI:PySem.W.findIn K (.ref C) "__init__"=some (some (.ref fI)))(lI:K.lookup fI=some ⟨ocI,odI,.func (PySem.W.fnOf "__init__" "Cells.__init__" (E9 CL.s_init) (D9 CL.s_init) (B0 CL.s_init) .none kVI dcI pmI anI cdI ctI),slI⟩)(cI:PySem.W.codeIn K cdI "Cells.__init__"=true)(kI:PySem.W.keepIn K (.ref fI)=true)(jI:PySem.W.isFn K (.ref fI)=true)
  (pg:PySem.W.plainGet K C Str.empty=true)(hd:PySem.W.hasDictIn K C=true)(po:PySem.W.plainOver K C=true)(sa:PySem.W.findIn K (.ref C) "__setattr__"=some (some (.builtin "object.__setattr__")))(mk:PySem.W.makesIn K C=true)(kc:PySem.W.keepIn K (.ref C)=true)(ni:PySem.W.findIn K (.ref C) "in_order"=some none)
  {CM:Addr}{g0 g1 g2 g3 g4 g5 g6 g7 g8 g9 g10 g11 g12 g13:Addr}{h0 h1 h2 h3 h4 h5 h6 h7 h8 h9 h10 h11 h12 h13:FuncData}{gI:Addr}{hI:FuncData}
  (aQ2:PySem.W.nsIn K mainGlobals "Machine"=some (some (.ref CM)))
  (mm0:MethAt K CM "step" "Machine.step" MC.s_step g0 h0)
  (mm1:MethAt K CM "go_on" "Machine.go_on" MC.s_go_on g1 h1)
  (mm2:MethAt K CM "enter" "Machine.enter" MC.s_enter g2 h2)
  (mm3:MethAt K CM "leave" "Machine.leave" MC.s_leave g3 h3)
  (mm4:MethAt K CM "end" "Machine.end" MC.s_end g4 h4)
  (mm5:MethAt K CM "collect" "Machine.collect" MC.s_collect g5 h5)
  (mm6:MethAt K CM "hung_on" "Machine.hung_on" MC.s_hung_on g6 h6)
  (mm7:MethAt K CM "hang_on" "Machine.hang_on" MC.s_hang_on g7 h7)
  (mm8:MethAt K CM "has_value" "Machine.has_value" MC.s_has_value g8 h8)
  (mm9:MethAt K CM "answer" "Machine.answer" MC.s_answer g9 h9)
  (mm10:MethAt K CM "frames" "Machine.frames" MC.s_frames g10 h10)
  (mm11:MethAt K CM "cells" "Machine.cells" MC.s_cells g11 h11)
  (mm12:MethAt K CM "rows_done" "Machine.rows_done" MC.s_rows_done g12 h12)
  (mm13:MethAt K CM "calls" "Machine.calls" MC.s_calls g13 h13)
  (mmI:MethAt K CM "__init__" "Machine.__init__" MC.s_minit gI hI)
  (pg2:PySem.W.plainGet K CM Str.empty=true)(hd2:PySem.W.hasDictIn K CM=true)(po2:PySem.W.plainOver K CM=true)(sa2:PySem.W.findIn K (.ref CM) "__setattr__"=some (some (.builtin "object.__setattr__")))(mk2:PySem.W.makesIn K CM=true)(kc2:PySem.W.keepIn K (.ref CM)=true)(n1_2:PySem.W.findIn K (.ref CM) "blocks"=some none)(n2_2:PySem.W.findIn K (.ref CM) "most"=some none)(n3_2:PySem.W.findIn K (.ref CM) "store"=some none)(n4_2:PySem.W.findIn K (.ref CM) "standing"=some none)(n5_2:PySem.W.findIn K (.ref CM) "outcome"=some none)(n6_2:PySem.W.findIn K (.ref CM) "rows_so_far"=some none)(n7_2:PySem.W.findIn K (.ref CM) "calls_so_far"=some none)
  (z_len:PySem.W.nsIn K mainGlobals "len"=some none)
  (z_list:PySem.W.nsIn K mainGlobals "list"=some none)
  (z_range:PySem.W.nsIn K mainGlobals "range"=some none)
  (z_isinstance:PySem.W.nsIn K mainGlobals "isinstance"=some none)
  (z_str:PySem.W.nsIn K mainGlobals "str"=some none)
  (z_tuple:PySem.W.nsIn K mainGlobals "tuple"=some none)
  (z_int:PySem.W.nsIn K mainGlobals "int"=some none)
  (z_bool:PySem.W.nsIn K mainGlobals "bool"=some none)
  (z_all:PySem.W.nsIn K mainGlobals "all"=some none)
  (z_reversed:PySem.W.nsIn K mainGlobals "reversed"=some none)
  (z_zip:PySem.W.nsIn K mainGlobals "zip"=some none)
  (z_sum:PySem.W.nsIn K mainGlobals "sum"=some none)
  (z_max:PySem.W.nsIn K mainGlobals "max"=some none)
  (z_min:PySem.W.nsIn K mainGlobals "min"=some none)
  (z_enumerate:PySem.W.nsIn K mainGlobals "enumerate"=some none)
  (z_sorted:PySem.W.nsIn K mainGlobals "sorted"=some none)
  (z_abs:PySem.W.nsIn K mainGlobals "abs"=some none)
  (z_dict:PySem.W.nsIn K mainGlobals "dict"=some none)(hcode0:cd2=.ref c):
  ∃fd:FuncData,(∀(s:Shared) (v:Value),BindsTo s fd ⟨[v],[]⟩ [("_law_script",v)])/\∀base:Heap,K.In base->base.Ns mainGlobals mg->TabsB [(c,Pt)] mg base->FnOk l.prog w K mg base CX0 10 fa fd ["_law_script"] (RY K Pt):=by
 have e:=hfa.symm.trans (PySem.W.mg_of X G a37)
 cases e
 have B:CL.NoG mg:=⟨PySem.W.mg_none_of X G z_len,PySem.W.mg_none_of X G z_list,PySem.W.mg_none_of X G z_range,PySem.W.mg_none_of X G z_isinstance,PySem.W.mg_none_of X G z_str,PySem.W.mg_none_of X G z_tuple,PySem.W.mg_none_of X G z_int,PySem.W.mg_none_of X G z_bool,PySem.W.mg_none_of X G z_all⟩
 have B3:BV.NoG mg:=⟨PySem.W.mg_none_of X G z_len,PySem.W.mg_none_of X G z_list,PySem.W.mg_none_of X G z_reversed,PySem.W.mg_none_of X G z_range,PySem.W.mg_none_of X G z_zip,PySem.W.mg_none_of X G z_isinstance,PySem.W.mg_none_of X G z_str,PySem.W.mg_none_of X G z_tuple,PySem.W.mg_none_of X G z_sum,PySem.W.mg_none_of X G z_max,PySem.W.mg_none_of X G z_min,PySem.W.mg_none_of X G z_int,PySem.W.mg_none_of X G z_bool,PySem.W.mg_none_of X G z_enumerate,PySem.W.mg_none_of X G z_all⟩
 have BE:K67.NoE mg:=⟨PySem.W.mg_none_of X G z_len,PySem.W.mg_none_of X G z_list,PySem.W.mg_none_of X G z_range,PySem.W.mg_none_of X G z_int,PySem.W.mg_none_of X G z_min,PySem.W.mg_none_of X G z_max,PySem.W.mg_none_of X G z_sum,PySem.W.mg_none_of X G z_isinstance,PySem.W.mg_none_of X G z_all⟩
 have BS:SW.NoG2 mg:=⟨PySem.W.mg_none_of X G z_sorted⟩
 have BM:NM.NoG mg:=⟨PySem.W.mg_none_of X G z_len,PySem.W.mg_none_of X G z_min,PySem.W.mg_none_of X G z_abs,PySem.W.mg_none_of X G z_isinstance,PySem.W.mg_none_of X G z_tuple,PySem.W.mg_none_of X G z_int,PySem.W.mg_none_of X G z_bool⟩
 have BX:K67.NoX mg:=⟨PySem.W.mg_none_of X G z_dict⟩
 have m_GREATEST:=PySem.W.mg_of X G e_GREATEST
 have m_DEEPEST:=PySem.W.mg_of X G e_DEEPEST
 have TD_ROW_SIGNS:TopD w K pf_ROW_SIGNS CL.RS:=⟨⟨es_ROW_SIGNS,nes_ROW_SIGNS,lD_ROW_SIGNS,kD_ROW_SIGNS,pD_ROW_SIGNS⟩,oD_ROW_SIGNS⟩
 have m_ROW_SIGNS:=PySem.W.mg_of X G aD_ROW_SIGNS
 have F0:=d0.fn
 have b0:=bn3 (ps:=["root","parts_in","made"]) F0 rfl λ_ _ _ _ _ _ _ _ _=>rfl
 have m0:=PySem.W.mg_of X G d0.ns
 have k0:=d0.kp
 have F1:=d1.fn
 have b1:=bn1 (ps:=["value"]) F1 rfl λ_ _ _ _ _ _ _=>rfl
 have m1:=PySem.W.mg_of X G d1.ns
 have k1:=d1.kp
 have F3:=d3.fn
 have b3:=bn2 (ps:=["cells","value"]) F3 rfl λ_ _ _ _ _ _ _ _=>rfl
 have m3:=PySem.W.mg_of X G d3.ns
 have k3:=d3.kp
 have F4:=d4.fn
 have b4:=bn2 (ps:=["value","heads"]) F4 rfl λ_ _ _ _ _ _ _ _=>rfl
 have m4:=PySem.W.mg_of X G d4.ns
 have k4:=d4.kp
 have F5:=d5.fn
 have b5:=bn2 (ps:=["cells","values"]) F5 rfl λ_ _ _ _ _ _ _ _=>rfl
 have m5:=PySem.W.mg_of X G d5.ns
 have k5:=d5.kp
 have F6:=d6.fn
 have b6:=bn2 (ps:=["cells","values"]) F6 rfl λ_ _ _ _ _ _ _ _=>rfl
 have m6:=PySem.W.mg_of X G d6.ns
 have k6:=d6.kp
 have F7:=d7.fn
 have b7:=bn1 (ps:=["cell"]) F7 rfl λ_ _ _ _ _ _ _=>rfl
 have m7:=PySem.W.mg_of X G d7.ns
 have k7:=d7.kp
 have F8:=d8.fn
 have b8:=bn2 (ps:=["cell","new_numbers"]) F8 rfl λ_ _ _ _ _ _ _ _=>rfl
 have m8:=PySem.W.mg_of X G d8.ns
 have k8:=d8.kp
 have F9:=d9.fn
 have b9:=bn2 (ps:=["values","new_numbers"]) F9 rfl λ_ _ _ _ _ _ _ _=>rfl
 have m9:=PySem.W.mg_of X G d9.ns
 have k9:=d9.kp
 have F10:=d10.fn
 have b10:=bn3 (ps:=["sign","a","b"]) F10 rfl λ_ _ _ _ _ _ _ _ _=>rfl
 have m10:=PySem.W.mg_of X G d10.ns
 have k10:=d10.kp
 have F11:=d11.fn
 have b11:=bn2 (ps:=["a","b"]) F11 rfl λ_ _ _ _ _ _ _ _=>rfl
 have m11:=PySem.W.mg_of X G d11.ns
 have k11:=d11.kp
 have F12:=d12.fn
 have b12:=bn3 (ps:=["sign","a","b"]) F12 rfl λ_ _ _ _ _ _ _ _ _=>rfl
 have m12:=PySem.W.mg_of X G d12.ns
 have k12:=d12.kp
 have F13:=d13.fn
 have b13:=bn1 (ps:=["number"]) F13 rfl λ_ _ _ _ _ _ _=>rfl
 have m13:=PySem.W.mg_of X G d13.ns
 have k13:=d13.kp
 have F14:=d14.fn
 have b14:=bn3 (ps:=["blocks","number","values"]) F14 rfl λ_ _ _ _ _ _ _ _ _=>rfl
 have m14:=PySem.W.mg_of X G d14.ns
 have k14:=d14.kp
 have F15:=d15.fn
 have b15:=bn3 (ps:=["cells","frame","row"]) F15 rfl λ_ _ _ _ _ _ _ _ _=>rfl
 have m15:=PySem.W.mg_of X G d15.ns
 have k15:=d15.kp
 have F16:=d16.fn
 have b16:=bn4 (ps:=["blocks","cells","frame","row"]) F16 rfl λ_ _ _ _ _ _ _ _ _ _=>rfl
 have m16:=PySem.W.mg_of X G d16.ns
 have k16:=d16.kp
 have F17:=d17.fn
 have b17:=bn3 (ps:=["frame","many_taken","values"]) F17 rfl λ_ _ _ _ _ _ _ _ _=>rfl
 have m17:=PySem.W.mg_of X G d17.ns
 have k17:=d17.kp
 have F18:=d18.fn
 have b18:=bn2 (ps:=["stack","many"]) F18 rfl λ_ _ _ _ _ _ _ _=>rfl
 have m18:=PySem.W.mg_of X G d18.ns
 have k18:=d18.kp
 have F19:=d19.fn
 have b19:=bn2 (ps:=["frame","sign"]) F19 rfl λ_ _ _ _ _ _ _ _=>rfl
 have m19:=PySem.W.mg_of X G d19.ns
 have k19:=d19.kp
 have F20:=d20.fn
 have b20:=bn3 (ps:=["cells","frame","word"]) F20 rfl λ_ _ _ _ _ _ _ _ _=>rfl
 have m20:=PySem.W.mg_of X G d20.ns
 have k20:=d20.kp
 have F21:=d21.fn
 have b21:=bn3 (ps:=["cells","frame","row"]) F21 rfl λ_ _ _ _ _ _ _ _ _=>rfl
 have m21:=PySem.W.mg_of X G d21.ns
 have k21:=d21.kp
 have F22:=d22.fn
 have b22:=bn2 (ps:=["frame","row"]) F22 rfl λ_ _ _ _ _ _ _ _=>rfl
 have m22:=PySem.W.mg_of X G d22.ns
 have k22:=d22.kp
 have F23:=d23.fn
 have b23:=bn3 (ps:=["frame","slot","value"]) F23 rfl λ_ _ _ _ _ _ _ _ _=>rfl
 have m23:=PySem.W.mg_of X G d23.ns
 have k23:=d23.kp
 have F24:=d24.fn
 have b24:=bn2 (ps:=["frame","many_rows"]) F24 rfl λ_ _ _ _ _ _ _ _=>rfl
 have m24:=PySem.W.mg_of X G d24.ns
 have k24:=d24.kp
 have F25:=d25.fn
 have b25:=bn2 (ps:=["frame","row"]) F25 rfl λ_ _ _ _ _ _ _ _=>rfl
 have m25:=PySem.W.mg_of X G d25.ns
 have k25:=d25.kp
 have F26:=d26.fn
 have b26:=bn5 (ps:=["blocks","main","numbers","most","rounds"]) F26 rfl λ_ _ _ _ _ _ _ _ _ _ _=>rfl
 have m26:=PySem.W.mg_of X G d26.ns
 have k26:=d26.kp
 have F27:=d27.fn
 have b27:=bn5 (ps:=["blocks","main","numbers","most","rounds"]) F27 rfl λ_ _ _ _ _ _ _ _ _ _ _=>rfl
 have m27:=PySem.W.mg_of X G d27.ns
 have k27:=d27.kp
 have F28:=d28.fn
 have b28:=bn2 (ps:=["_law_script","_law_k"]) F28 rfl λ_ _ _ _ _ _ _ _=>rfl
 have m28:=PySem.W.mg_of X G d28.ns
 have k28:=d28.kp
 have F29:=d29.fn
 have b29:=bn2 (ps:=["_law_found","_law_due_here"]) F29 rfl λ_ _ _ _ _ _ _ _=>rfl
 have m29:=PySem.W.mg_of X G d29.ns
 have k29:=d29.kp
 have F30:=d30.fn
 have b30:=bn1 (ps:=["_law_cell"]) F30 rfl λ_ _ _ _ _ _ _=>rfl
 have m30:=PySem.W.mg_of X G d30.ns
 have k30:=d30.kp
 have F31:=d31.fn
 have b31:=bn2 (ps:=["_law_way","_law_number_here"]) F31 rfl λ_ _ _ _ _ _ _ _=>rfl
 have m31:=PySem.W.mg_of X G d31.ns
 have k31:=d31.kp
 have F32:=d32.fn
 have b32:=bn2 (ps:=["_law_by_fn","_law_number_here"]) F32 rfl λ_ _ _ _ _ _ _ _=>rfl
 have m32:=PySem.W.mg_of X G d32.ns
 have k32:=d32.kp
 have F33:=d33.fn
 have b33:=bn4 (ps:=["_law_way","_law_number_here","_law_kind","_law_often"]) F33 rfl λ_ _ _ _ _ _ _ _ _ _=>rfl
 have m33:=PySem.W.mg_of X G d33.ns
 have k33:=d33.kp
 have F34:=d34.fn
 have b34:=bn6 (ps:=["_law_count","_law_way","_law_number_here","_law_kind","_law_most","_law_wide"]) F34 rfl λ_ _ _ _ _ _ _ _ _ _ _ _=>rfl
 have m34:=PySem.W.mg_of X G d34.ns
 have k34:=d34.kp
 have F35:=d35.fn
 have b35:=bn6 (ps:=["_law_count","_law_way","_law_number_here","_law_kind","_law_most","_law_often"]) F35 rfl λ_ _ _ _ _ _ _ _ _ _ _ _=>rfl
 have m35:=PySem.W.mg_of X G d35.ns
 have k35:=d35.kp
 have F36:=d36.fn
 have b36:=bn6 (ps:=["_law_blocks_here","_law_main","_law_count","_law_most","_law_due_here","_law_cells"]) F36 rfl λ_ _ _ _ _ _ _ _ _ _ _ _=>rfl
 have m36:=PySem.W.mg_of X G d36.ns
 have k36:=d36.kp
 have F2:=U4 (st:=PL.s_plain) l2 c2 k2
 have b2:=bn2 (ps:=["cells","value"]) F2 rfl λ_ _ _ _ _ _ _ _=>rfl
 have m2:=PySem.W.mg_of X G a2
 have F37:=U4 (st:=K67.s_law) l37 c37 k37
 have b37:=bn1 (ps:=["_law_script"]) F37 rfl λ_ _ _ _ _ _ _=>rfl
 have m37:=PySem.W.mg_of X G a37
 have FM0:=U4 (st:=CL.s_put) lM0 cM0 kM0
 have bM0:=bn2 (ps:=["self","cell"]) FM0 rfl λ_ _ _ _ _ _ _ _=>rfl
 have FM1:=U4 (st:=CL.s_at) lM1 cM1 kM1
 have bM1:=bn2 (ps:=["self","value"]) FM1 rfl λ_ _ _ _ _ _ _ _=>rfl
 have FM2:=U4 (st:=CL.s_many) lM2 cM2 kM2
 have bM2:=bn1 (ps:=["self"]) FM2 rfl λ_ _ _ _ _ _ _=>rfl
 have FM3:=U4 (st:=CL.s_told) lM3 cM3 kM3
 have bM3:=bn1 (ps:=["self"]) FM3 rfl λ_ _ _ _ _ _ _=>rfl
 have FI:=U4 (st:=CL.s_init) lI cI kI
 have bI:=bn1 (ps:=["self"]) FI rfl λ_ _ _ _ _ _ _=>rfl
 obtain⟨mf,md,u0,u1,u2,u3,v0,v1,v2,v3⟩:=dVZ fM0 fM1 fM2 fM3 (PySem.W.fnOf "put" "Cells.put" (E9 CL.s_put) (D9 CL.s_put) (B0 CL.s_put) .none kVM0 dcM0 pmM0 anM0 cdM0 ctM0) (PySem.W.fnOf "at" "Cells.at" (E9 CL.s_at) (D9 CL.s_at) (B0 CL.s_at) .none kVM1 dcM1 pmM1 anM1 cdM1 ctM1) (PySem.W.fnOf "many" "Cells.many" (E9 CL.s_many) (D9 CL.s_many) (B0 CL.s_many) .none kVM2 dcM2 pmM2 anM2 cdM2 ctM2) (PySem.W.fnOf "told" "Cells.told" (E9 CL.s_told) (D9 CL.s_told) (B0 CL.s_told) .none kVM3 dcM3 pmM3 anM3 cdM3 ctM3)
 have R0:Fun K "put" "Cells.put" CL.s_put (mf "put") (md "put"):=by rw[u0,v0];exact FM0
 have w0:Meth K C "put" (mf "put"):=by rw[u0];exact⟨aM0,jM0,kM0⟩
 have y100:Binds K (md "put") ["self","cell"] []:=by rw[v0];exact bM0
 have R1:Fun K "at" "Cells.at" CL.s_at (mf "at") (md "at"):=by rw[u1,v1];exact FM1
 have w1:Meth K C "at" (mf "at"):=by rw[u1];exact⟨aM1,jM1,kM1⟩
 have y101:Binds K (md "at") ["self","value"] []:=by rw[v1];exact bM1
 have R2:Fun K "many" "Cells.many" CL.s_many (mf "many") (md "many"):=by rw[u2,v2];exact FM2
 have w2:Meth K C "many" (mf "many"):=by rw[u2];exact⟨aM2,jM2,kM2⟩
 have y102:Binds K (md "many") ["self"] []:=by rw[v2];exact bM2
 have R3:Fun K "told" "Cells.told" CL.s_told (mf "told") (md "told"):=by rw[u3,v3];exact FM3
 have w3:Meth K C "told" (mf "told"):=by rw[u3];exact⟨aM3,jM3,kM3⟩
 have y103:Binds K (md "told") ["self"] []:=by rw[v3];exact bM3
 have RC:CL.RCls K C mf md:={cl:=⟨pg,hd,po,sa⟩,ni:=ni,m_put:=w0,m_at:=w1,m_many:=w2,m_told:=w3,b_put:=y100,b_at:=y101,b_many:=y102,b_told:=y103}
 have Fm0:=mm0.fn
 have bm0:=bn1 (ps:=["self"]) Fm0 rfl λ_ _ _ _ _ _ _=>rfl
 have Fm1:=mm1.fn
 have bm1:=bn2 (ps:=["self","told"]) Fm1 rfl λ_ _ _ _ _ _ _ _=>rfl
 have Fm2:=mm2.fn
 have bm2:=bn3 (ps:=["self","frame","row"]) Fm2 rfl λ_ _ _ _ _ _ _ _ _=>rfl
 have Fm3:=mm3.fn
 have bm3:=bn2 (ps:=["self","value"]) Fm3 rfl λ_ _ _ _ _ _ _ _=>rfl
 have Fm4:=mm4.fn
 have bm4:=bn2 (ps:=["self","outcome"]) Fm4 rfl λ_ _ _ _ _ _ _ _=>rfl
 have Fm5:=mm5.fn
 have bm5:=bn1 (ps:=["self"]) Fm5 rfl λ_ _ _ _ _ _ _=>rfl
 have Fm6:=mm6.fn
 have bm6:=bn1 (ps:=["self"]) Fm6 rfl λ_ _ _ _ _ _ _=>rfl
 have Fm7:=mm7.fn
 have bm7:=bn2 (ps:=["self","values"]) Fm7 rfl λ_ _ _ _ _ _ _ _=>rfl
 have Fm8:=mm8.fn
 have bm8:=bn1 (ps:=["self"]) Fm8 rfl λ_ _ _ _ _ _ _=>rfl
 have Fm9:=mm9.fn
 have bm9:=bn1 (ps:=["self"]) Fm9 rfl λ_ _ _ _ _ _ _=>rfl
 have Fm10:=mm10.fn
 have bm10:=bn1 (ps:=["self"]) Fm10 rfl λ_ _ _ _ _ _ _=>rfl
 have Fm11:=mm11.fn
 have bm11:=bn1 (ps:=["self"]) Fm11 rfl λ_ _ _ _ _ _ _=>rfl
 have Fm12:=mm12.fn
 have bm12:=bn1 (ps:=["self"]) Fm12 rfl λ_ _ _ _ _ _ _=>rfl
 have Fm13:=mm13.fn
 have bm13:=bn1 (ps:=["self"]) Fm13 rfl λ_ _ _ _ _ _ _=>rfl
 have FmI:=mmI.fn
 have bmI:=bn5 (ps:=["self","blocks","main","numbers","most"]) FmI rfl λ_ _ _ _ _ _ _ _ _ _ _=>rfl
 obtain⟨gf,gd,uu0,uu1,uu2,uu3,uu4,uu5,uu6,uu7,uu8,uu9,uu10,uu11,uu12,uu13,vv0,vv1,vv2,vv3,vv4,vv5,vv6,vv7,vv8,vv9,vv10,vv11,vv12,vv13⟩:=dfZ g0 g1 g2 g3 g4 g5 g6 g7 g8 g9 g10 g11 g12 g13 h0 h1 h2 h3 h4 h5 h6 h7 h8 h9 h10 h11 h12 h13
 have RM_step:Fun K "step" "Machine.step" MC.s_step (gf "step") (gd "step"):=by rw[uu0,vv0];exact Fm0
 have ww0:Meth K CM "step" (gf "step"):=by rw[uu0];exact mm0.me
 have yy0:Binds K (gd "step") ["self"] []:=by rw[vv0];exact bm0
 have RM_go_on:Fun K "go_on" "Machine.go_on" MC.s_go_on (gf "go_on") (gd "go_on"):=by rw[uu1,vv1];exact Fm1
 have ww1:Meth K CM "go_on" (gf "go_on"):=by rw[uu1];exact mm1.me
 have yy1:Binds K (gd "go_on") ["self","told"] []:=by rw[vv1];exact bm1
 have RM_enter:Fun K "enter" "Machine.enter" MC.s_enter (gf "enter") (gd "enter"):=by rw[uu2,vv2];exact Fm2
 have ww2:Meth K CM "enter" (gf "enter"):=by rw[uu2];exact mm2.me
 have yy2:Binds K (gd "enter") ["self","frame","row"] []:=by rw[vv2];exact bm2
 have RM_leave:Fun K "leave" "Machine.leave" MC.s_leave (gf "leave") (gd "leave"):=by rw[uu3,vv3];exact Fm3
 have ww3:Meth K CM "leave" (gf "leave"):=by rw[uu3];exact mm3.me
 have yy3:Binds K (gd "leave") ["self","value"] []:=by rw[vv3];exact bm3
 have RM_end:Fun K "end" "Machine.end" MC.s_end (gf "end") (gd "end"):=by rw[uu4,vv4];exact Fm4
 have ww4:Meth K CM "end" (gf "end"):=by rw[uu4];exact mm4.me
 have yy4:Binds K (gd "end") ["self","outcome"] []:=by rw[vv4];exact bm4
 have RM_collect:Fun K "collect" "Machine.collect" MC.s_collect (gf "collect") (gd "collect"):=by rw[uu5,vv5];exact Fm5
 have ww5:Meth K CM "collect" (gf "collect"):=by rw[uu5];exact mm5.me
 have yy5:Binds K (gd "collect") ["self"] []:=by rw[vv5];exact bm5
 have RM_hung_on:Fun K "hung_on" "Machine.hung_on" MC.s_hung_on (gf "hung_on") (gd "hung_on"):=by rw[uu6,vv6];exact Fm6
 have ww6:Meth K CM "hung_on" (gf "hung_on"):=by rw[uu6];exact mm6.me
 have yy6:Binds K (gd "hung_on") ["self"] []:=by rw[vv6];exact bm6
 have RM_hang_on:Fun K "hang_on" "Machine.hang_on" MC.s_hang_on (gf "hang_on") (gd "hang_on"):=by rw[uu7,vv7];exact Fm7
 have ww7:Meth K CM "hang_on" (gf "hang_on"):=by rw[uu7];exact mm7.me
 have yy7:Binds K (gd "hang_on") ["self","values"] []:=by rw[vv7];exact bm7
 have RM_has_value:Fun K "has_value" "Machine.has_value" MC.s_has_value (gf "has_value") (gd "has_value"):=by rw[uu8,vv8];exact Fm8
 have ww8:Meth K CM "has_value" (gf "has_value"):=by rw[uu8];exact mm8.me
 have yy8:Binds K (gd "has_value") ["self"] []:=by rw[vv8];exact bm8
 have RM_answer:Fun K "answer" "Machine.answer" MC.s_answer (gf "answer") (gd "answer"):=by rw[uu9,vv9];exact Fm9
 have ww9:Meth K CM "answer" (gf "answer"):=by rw[uu9];exact mm9.me
 have yy9:Binds K (gd "answer") ["self"] []:=by rw[vv9];exact bm9
 have RM_frames:Fun K "frames" "Machine.frames" MC.s_frames (gf "frames") (gd "frames"):=by rw[uu10,vv10];exact Fm10
 have ww10:Meth K CM "frames" (gf "frames"):=by rw[uu10];exact mm10.me
 have yy10:Binds K (gd "frames") ["self"] []:=by rw[vv10];exact bm10
 have RM_cells:Fun K "cells" "Machine.cells" MC.s_cells (gf "cells") (gd "cells"):=by rw[uu11,vv11];exact Fm11
 have ww11:Meth K CM "cells" (gf "cells"):=by rw[uu11];exact mm11.me
 have yy11:Binds K (gd "cells") ["self"] []:=by rw[vv11];exact bm11
 have RM_rows_done:Fun K "rows_done" "Machine.rows_done" MC.s_rows_done (gf "rows_done") (gd "rows_done"):=by rw[uu12,vv12];exact Fm12
 have ww12:Meth K CM "rows_done" (gf "rows_done"):=by rw[uu12];exact mm12.me
 have yy12:Binds K (gd "rows_done") ["self"] []:=by rw[vv12];exact bm12
 have RM_calls:Fun K "calls" "Machine.calls" MC.s_calls (gf "calls") (gd "calls"):=by rw[uu13,vv13];exact Fm13
 have ww13:Meth K CM "calls" (gf "calls"):=by rw[uu13];exact mm13.me
 have yy13:Binds K (gd "calls") ["self"] []:=by rw[vv13];exact bm13
 have RM:MC.MCls K CM gf gd:={cl:=⟨pg2,hd2,po2,sa2⟩,n1:=n1_2,n2:=n2_2,n3:=n3_2,n4:=n4_2,n5:=n5_2,n6:=n6_2,n7:=n7_2,m_step:=ww0,m_go_on:=ww1,m_enter:=ww2,m_leave:=ww3,m_end:=ww4,m_collect:=ww5,m_hung_on:=ww6,m_hang_on:=ww7,m_has_value:=ww8,m_answer:=ww9,m_frames:=ww10,m_cells:=ww11,m_rows_done:=ww12,m_calls:=ww13,b_step:=yy0,b_go_on:=yy1,b_enter:=yy2,b_leave:=yy3,b_end:=yy4,b_collect:=yy5,b_hung_on:=yy6,b_hang_on:=yy7,b_has_value:=yy8,b_answer:=yy9,b_frames:=yy10,b_cells:=yy11,b_rows_done:=yy12,b_calls:=yy13}
 have MKM:Mk K CM gI:=⟨mk2,mmI.me.1,mmI.me.2,kc2⟩
 have m_Machine:=PySem.W.mg_of X G aQ2
 refine⟨PySem.W.fnOf "law" "law" (E9 s_law) (D9 s_law) (B0 s_law) .none kV37 dc37 pm37 an37 cd37 ct37,λs v=> .of_eq rfl,λbase _ _ tbx=> ?_⟩
 have hcode:=hcode0
 have GM_init:=CL.ok_init (P:=l.prog) (w:=w) (mg:=mg) (base:=base) FI RC
 have BD:MC.NoD mg:={B with dict_:=BX.dict_}
 have GA:=λ(b:Heap)=>CL.ok_at (P:=l.prog) (w:=w) (mg:=mg) (base:=b) R1 RC
 have GP:=CL.ok_put (P:=l.prog) (w:=w) (mg:=mg) (base:=base) R0 B RC
 have GN:=CL.ok_many (P:=l.prog) (w:=w) (mg:=mg) (base:=base) R2 B RC
 have GT:=CL.ok_told (P:=l.prog) (w:=w) (mg:=mg) (base:=base) R3 B RC
 have MKC:Mk K C fI:=⟨mk,aI,jI,kc⟩
 have m_Cells:=PySem.W.mg_of X G aC
 have G_isP:=λ(b:Heap)=>PL.ok_is_cell (P:=l.prog) (w:=w) (mg:=mg) (base:=b) F1 B
 have AT:=PL.ok_plain (P:=l.prog) (w:=w) (mg:=mg) (base:=base) F2 hcode (tbx.code _ (List.mem_singleton.mpr rfl)) (tbx.blt _ (List.mem_singleton.mpr rfl)) (λb=>BV.ok_built_up (P:=l.prog) (w:=w) (mg:=mg) (base:=b) F0 B3) m0 k0 b0 (λb=>PL.ok_heads_of (P:=l.prog) (w:=w) (mg:=mg) (base:=b) F3 RC (λk=>(GA b).mono (by omega)) (G_isP b) m1 k1 b1) m3 k3 b3 (λb o L us O=>PL.ok_with_heads (P:=l.prog) (w:=w) (mg:=mg) (base:=b) F4 (G_isP b) m1 k1 b1) m4 k4 b4
 have G_isS:=SW.ok_is_cell (P:=l.prog) (w:=w) (mg:=mg) (base:=base) F1 B
 have G_vi:=SW.ok_values_in (P:=l.prog) (w:=w) (mg:=mg) (base:=base) F7
 have G_mv:=SW.ok_moved (P:=l.prog) (w:=w) (mg:=mg) (base:=base) F9 ⟨_,_,G_isS,b1,k1,m1⟩
 have G_mc:=SW.ok_moved_cell (P:=l.prog) (w:=w) (mg:=mg) (base:=base) F8 B ⟨_,_,G_vi,b7,k7,m7⟩ ⟨_,_,G_mv,b9,k9,m9⟩
 have G_led:=SW.ok_numbers_led_to (P:=l.prog) (w:=w) (mg:=mg) (base:=base) F6 B BS RC (GA base) ⟨_,_,G_isS,b1,k1,m1⟩ ⟨_,_,G_vi,b7,k7,m7⟩
 have G_sw:=SW.ok_swept (P:=l.prog) (w:=w) (mg:=mg) (base:=base) F5 B RC MKC m_Cells GM_init bI GP (GA base) ⟨_,_,G_led,b6,k6,m6⟩ ⟨_,_,G_mv,b9,k9,m9⟩ ⟨_,_,G_mc,b8,k8,m8⟩
 have G_quo:=NM.ok_quotient_told (P:=l.prog) (w:=w) (mg:=mg) (base:=base) F11
 have G_out:=NM.ok_outcome (P:=l.prog) (w:=w) (mg:=mg) (base:=base) F12
 have G_bnd:=NM.ok_bounded (P:=l.prog) (w:=w) (mg:=mg) (base:=base) F13 BM m_GREATEST
 have G_two:=NM.ok_two_told (P:=l.prog) (w:=w) (mg:=mg) (base:=base) F10 ⟨_,_,G_quo,b11,k11,m11⟩ ⟨_,_,G_out,b12,k12,m12⟩ ⟨_,_,G_bnd,b13,k13,m13⟩
 have G_ent:=CL.ok_entered (P:=l.prog) (w:=w) (mg:=mg) (base:=base) F14 B
 have G_beh:=CL.ok_behind (P:=l.prog) (w:=w) (mg:=mg) (base:=base) F17 B
 have G_top:=CL.ok_top_values (P:=l.prog) (w:=w) (mg:=mg) (base:=base) F18 B
 have G_cal:=CL.ok_called (P:=l.prog) (w:=w) (mg:=mg) (base:=base) F16 B RC (GA base) ⟨_,_,G_ent,b14,k14,m14⟩ ⟨_,_,G_beh,b17,k17,m17⟩ ⟨_,_,G_top,b18,k18,m18⟩
 have G_td:=CL.ok_two_done (P:=l.prog) (w:=w) (mg:=mg) (base:=base) F19 ⟨_,_,G_two,b10,k10,m10⟩ ⟨_,_,G_beh,b17,k17,m17⟩
 have G_pd:=CL.ok_part_done (P:=l.prog) (w:=w) (mg:=mg) (base:=base) F20 RC (GA base) ⟨_,_,G_beh,b17,k17,m17⟩
 have G_nc:=CL.ok_with_new_cell (P:=l.prog) (w:=w) (mg:=mg) (base:=base) F21 RC GP ⟨_,_,G_beh,b17,k17,m17⟩ ⟨_,_,G_top,b18,k18,m18⟩
 have G_ws:=CL.ok_with_slot (P:=l.prog) (w:=w) (mg:=mg) (base:=base) F23
 have G_fu:=CL.ok_further (P:=l.prog) (w:=w) (mg:=mg) (base:=base) F24
 have G_np:=CL.ok_with_nothing_put (P:=l.prog) (w:=w) (mg:=mg) (base:=base) F22 ⟨_,_,G_beh,b17,k17,m17⟩ ⟨_,_,G_ws,b23,k23,m23⟩ ⟨_,_,G_fu,b24,k24,m24⟩
 have G_vp:=CL.ok_value_put (P:=l.prog) (w:=w) (mg:=mg) (base:=base) F25
 have G_own:=CL.ok_own_done (P:=l.prog) (w:=w) (mg:=mg) (base:=base) F15 TD_ROW_SIGNS m_ROW_SIGNS ⟨_,_,G_td,b19,k19,m19⟩ ⟨_,_,G_pd,b20,k20,m20⟩ ⟨_,_,G_nc,b21,k21,m21⟩ ⟨_,_,G_np,b22,k22,m22⟩ ⟨_,_,G_vp,b25,k25,m25⟩ ⟨_,_,G_beh,b17,k17,m17⟩
 have N_end:=MC.ok_end (P:=l.prog) (w:=w) (mg:=mg) (base:=base) (C:=C) RM_end RM
 have N_hv:=MC.ok_has_value (P:=l.prog) (w:=w) (mg:=mg) (base:=base) RM_has_value RM
 have N_fr:=MC.ok_frames (P:=l.prog) (w:=w) (mg:=mg) (base:=base) (C:=C) RM_frames B RM
 have N_rd:=MC.ok_rows_done (P:=l.prog) (w:=w) (mg:=mg) (base:=base) (C:=C) RM_rows_done RM
 have N_ca:=MC.ok_calls (P:=l.prog) (w:=w) (mg:=mg) (base:=base) (C:=C) RM_calls RM
 have N_go:=MC.ok_go_on (P:=l.prog) (w:=w) (mg:=mg) (base:=base) RM_go_on RM N_end
 have N_lv:=MC.ok_leave (P:=l.prog) (w:=w) (mg:=mg) (base:=base) RM_leave B RM N_end
 have N_en:=MC.ok_enter (P:=l.prog) (w:=w) (mg:=mg) (base:=base) RM_enter B RM ⟨_,m_DEEPEST⟩ N_end ⟨_,_,G_cal,b16,k16,m16⟩
 have N_st:=MC.ok_step (P:=l.prog) (w:=w) (mg:=mg) (base:=base) RM_step RM N_lv N_en N_go ⟨_,_,G_own,b15,k15,m15⟩
 have N_hu:=MC.ok_hung_on (P:=l.prog) (w:=w) (mg:=mg) (base:=base) (C:=C) RM_hung_on RM N_hv
 have N_ha:=MC.ok_hang_on (P:=l.prog) (w:=w) (mg:=mg) (base:=base) (C:=C) RM_hang_on B RM N_hv
 have N_co:=MC.ok_collect (P:=l.prog) (w:=w) (mg:=mg) (base:=base) RM_collect RM RC GN N_hu N_ha ⟨_,_,G_sw,b5,k5,m5⟩
 have N_an:=MC.ok_answer (P:=l.prog) (w:=w) (mg:=mg) (base:=base) RM_answer RM N_hv ⟨_,_,AT,b2,k2,m2⟩
 have N_in:=MC.ok_minit (P:=l.prog) (w:=w) (mg:=mg) (base:=base) FmI B RM MKC m_Cells GM_init bI ⟨_,_,G_ent,b14,k14,m14⟩
 have DN:=MC.ok_ended (P:=l.prog) (w:=w) (mg:=mg) (base:=base) F27 BD RM MKM m_Machine N_in bmI N_an N_rd N_co N_st
 have KZ:=MC.ok_run (P:=l.prog) (w:=w) (mg:=mg) (base:=base) F26 RM N_an ⟨_,_,DN,b27,k27,m27⟩
 have G_cell:=K67.ok_law_cell_at (P:=l.prog) (w:=w) (mg:=mg) (base:=base) F28 B
 have G_same:=K67.ok_law_sameD (P:=l.prog) (w:=w) (mg:=mg) (base:=base) F29 B b29 k29 m29
 have G_num:=K67.ok_law_number (P:=l.prog) (w:=w) (mg:=mg) (base:=base) F30
 have G_piece:=K67.ok_law_piece (P:=l.prog) (w:=w) (mg:=mg) (base:=base) F31
 have G_again:=K67.ok_law_again (P:=l.prog) (w:=w) (mg:=mg) (base:=base) F32
 have G_blocks:=K67.ok_law_blocks (P:=l.prog) (w:=w) (mg:=mg) (base:=base) F33 B ⟨_,_,G_piece,b31,k31,m31⟩ ⟨_,_,G_again,b32,k32,m32⟩
 have G_due:=K67.ok_law_due (P:=l.prog) (w:=w) (mg:=mg) (base:=base) F34 BE ⟨_,_,G_piece,b31,k31,m31⟩
 have G_dueo:=K67.ok_law_due_often (P:=l.prog) (w:=w) (mg:=mg) (base:=base) F35 BE ⟨_,_,G_due,b34,k34,m34⟩
 have G_goes:=K67.ok_law_goes (P:=l.prog) (w:=w) (mg:=mg) (base:=base) F36 BE RM MKM m_Machine N_in bmI N_an N_fr N_rd N_ca N_co N_st ⟨_,_,(G_same 4),b29,k29,m29⟩ ⟨_,_,KZ,b26,k26,m26⟩
 exact K67.ok_law (P:=l.prog) (w:=w) (mg:=mg) (base:=base) F37 BE ⟨_,_,G_cell,b28,k28,m28⟩ ⟨_,_,G_num,b30,k30,m30⟩ ⟨_,_,G_blocks,b33,k33,m33⟩ ⟨_,_,G_due,b34,k34,m34⟩ ⟨_,_,G_dueo,b35,k35,m35⟩ ⟨_,_,G_goes,b36,k36,m36⟩
theorem walk{l:PySem.W.OpenLaw}{q:Program}{loose:List Str}{XP:(Str->Option Value)->Heap->Prop}{YP:World->Heap->Prop}{d:DefRec}{K:Params->PySem.W.Frag}{c Pt:Addr}(hn:l.most=some 63)(hdf:d.params.defaults=[])
  (hY:∀(w:World) (h:Heap),YP w h->(K w.params).In h)
  (hT:∀(w:World) (lo:List Str) (mean:ExcName->Option Value) (mg mb:Str->Option Value) (h:Heap),PyProof.Rows.Top q lo mean mg mb h->(K w.params).In h->PySem.W.CodeHd h c Pt/\h.get? Pt=some (PySem.W.tabObj #[]))(hK:∀w:World,PySem.W.noTabs (K w.params)=true)
  (F:∀(w:World) (mg:Str->Option Value) (fa:Addr) (h:Heap),(K w.params).In h->h.Ns mainGlobals mg->mg d.name=some (.ref fa)->
   ∃fd:FuncData,(∀(s:Shared) (u:Value),BindsTo s fd ⟨[u],[]⟩ [("_law_script",u)])/\∀base:Heap,(K w.params).In base->base.Ns mainGlobals mg->TabsB [(c,Pt)] mg base->FnOk l.prog w (K w.params) mg base CX0 10 fa fd ["_law_script"] (RY (K w.params) Pt)):
  PySem.W.WalkO q loose XP YP l.row.toRowW d [] (λf vs=>PySem.call f vs):=
 L2.walk_ofKT (n:=63) (k:=10) (x:="_law_script") (CX:=CX0) (sp:=λK=>RY K Pt) (tabs:=[(c,Pt)]) hn (by decide) hdf ⟨rfl,by decide,by decide⟩ hY (λw lo mean mg mb h T X q hq=>by
   have e:=List.mem_singleton.mp hq
   subst e
   exact hT w lo mean mg mb h T X) hK F (λ_ H a ns hl hO hS=>⟨a,ns,rfl,hS,hl,hO.tab (c,Pt) (List.mem_singleton.mpr rfl),λ_=>rfl⟩) λ_ _ _ _ z=>z
end K67
open PySem PySem.W PyProof.Rows
set_option maxRecDepth 100000 in
set_option maxHeartbeats 0 in
theorem PySem.Challenge.cw_speakmill_k67_ends_holds : PySem.Challenge.rw_speakmill_k67_ends.Holds := by
 w_on;o_law;k_head;(case hw=>w_witness2)
 k_fill
 refine K67.walk (l:=PySem.Challenge.rw_speakmill_k67_ends) rfl rfl (c:=81) (Pt:=77) (λw h Y=>PySem.W.km_in_of Y) ?tabsT ?tabsN ?F
 case tabsT=>exact λw lo mean mg mb h T X=>PySem.W.tab_of (x:="plain") T X rfl (by kernel_rfl)
 case tabsN=>intro w;kernel_rfl
 case F=>
  intro w mg fa h KX G hmg
  refine' K67.all_mk KX G hmg ?d0 ?d1 ?d3 ?d4 ?d5 ?d6 ?d7 ?d8 ?d9 ?d10 ?d11 ?d12 ?d13 ?d14 ?d15 ?d16 ?d17 ?d18 ?d19 ?d20 ?d21 ?d22 ?d23 ?d24 ?d25 ?d26 ?d27 ?d28 ?d29 ?d30 ?d31 ?d32 ?d33 ?d34 ?d35 ?d36 ?a2 ?l2 ?c2 ?k2 ?a37 ?l37 ?c37 ?k37 ?e_GREATEST ?e_DEEPEST ?aD_ROW_SIGNS ?lD_ROW_SIGNS ?kD_ROW_SIGNS ?pD_ROW_SIGNS ?oD_ROW_SIGNS ?aC ?aM0 ?lM0 ?cM0 ?kM0 ?jM0 ?aM1 ?lM1 ?cM1 ?kM1 ?jM1 ?aM2 ?lM2 ?cM2 ?kM2 ?jM2 ?aM3 ?lM3 ?cM3 ?kM3 ?jM3 ?aI ?lI ?cI ?kI ?jI ?pg ?hd ?po ?sa ?mk ?kc ?ni ?aQ2 ?mm0 ?mm1 ?mm2 ?mm3 ?mm4 ?mm5 ?mm6 ?mm7 ?mm8 ?mm9 ?mm10 ?mm11 ?mm12 ?mm13 ?mmI ?pg2 ?hd2 ?po2 ?sa2 ?mk2 ?kc2 ?n1_2 ?n2_2 ?n3_2 ?n4_2 ?n5_2 ?n6_2 ?n7_2 ?z_len ?z_list ?z_range ?z_isinstance ?z_str ?z_tuple ?z_int ?z_bool ?z_all ?z_reversed ?z_zip ?z_sum ?z_max ?z_min ?z_enumerate ?z_sorted ?z_abs ?z_dict ?hcode0
  (case d0=>exact⟨_,_,_,_,_,_,_,_,_,rfl,by k_is,by k_is,by k_is,by k_is⟩)
  (case d1=>exact⟨_,_,_,_,_,_,_,_,_,rfl,by k_is,by k_is,by k_is,by k_is⟩)
  (case d3=>exact⟨_,_,_,_,_,_,_,_,_,rfl,by k_is,by k_is,by k_is,by k_is⟩)
  (case d4=>exact⟨_,_,_,_,_,_,_,_,_,rfl,by k_is,by k_is,by k_is,by k_is⟩)
  (case d5=>exact⟨_,_,_,_,_,_,_,_,_,rfl,by k_is,by k_is,by k_is,by k_is⟩)
  (case d6=>exact⟨_,_,_,_,_,_,_,_,_,rfl,by k_is,by k_is,by k_is,by k_is⟩)
  (case d7=>exact⟨_,_,_,_,_,_,_,_,_,rfl,by k_is,by k_is,by k_is,by k_is⟩)
  (case d8=>exact⟨_,_,_,_,_,_,_,_,_,rfl,by k_is,by k_is,by k_is,by k_is⟩)
  (case d9=>exact⟨_,_,_,_,_,_,_,_,_,rfl,by k_is,by k_is,by k_is,by k_is⟩)
  (case d10=>exact⟨_,_,_,_,_,_,_,_,_,rfl,by k_is,by k_is,by k_is,by k_is⟩)
  (case d11=>exact⟨_,_,_,_,_,_,_,_,_,rfl,by k_is,by k_is,by k_is,by k_is⟩)
  (case d12=>exact⟨_,_,_,_,_,_,_,_,_,rfl,by k_is,by k_is,by k_is,by k_is⟩)
  (case d13=>exact⟨_,_,_,_,_,_,_,_,_,rfl,by k_is,by k_is,by k_is,by k_is⟩)
  (case d14=>exact⟨_,_,_,_,_,_,_,_,_,rfl,by k_is,by k_is,by k_is,by k_is⟩)
  (case d15=>exact⟨_,_,_,_,_,_,_,_,_,rfl,by k_is,by k_is,by k_is,by k_is⟩)
  (case d16=>exact⟨_,_,_,_,_,_,_,_,_,rfl,by k_is,by k_is,by k_is,by k_is⟩)
  (case d17=>exact⟨_,_,_,_,_,_,_,_,_,rfl,by k_is,by k_is,by k_is,by k_is⟩)
  (case d18=>exact⟨_,_,_,_,_,_,_,_,_,rfl,by k_is,by k_is,by k_is,by k_is⟩)
  (case d19=>exact⟨_,_,_,_,_,_,_,_,_,rfl,by k_is,by k_is,by k_is,by k_is⟩)
  (case d20=>exact⟨_,_,_,_,_,_,_,_,_,rfl,by k_is,by k_is,by k_is,by k_is⟩)
  (case d21=>exact⟨_,_,_,_,_,_,_,_,_,rfl,by k_is,by k_is,by k_is,by k_is⟩)
  (case d22=>exact⟨_,_,_,_,_,_,_,_,_,rfl,by k_is,by k_is,by k_is,by k_is⟩)
  (case d23=>exact⟨_,_,_,_,_,_,_,_,_,rfl,by k_is,by k_is,by k_is,by k_is⟩)
  (case d24=>exact⟨_,_,_,_,_,_,_,_,_,rfl,by k_is,by k_is,by k_is,by k_is⟩)
  (case d25=>exact⟨_,_,_,_,_,_,_,_,_,rfl,by k_is,by k_is,by k_is,by k_is⟩)
  (case d26=>exact⟨_,_,_,_,_,_,_,_,_,rfl,by k_is,by k_is,by k_is,by k_is⟩)
  (case d27=>exact⟨_,_,_,_,_,_,_,_,_,rfl,by k_is,by k_is,by k_is,by k_is⟩)
  (case d28=>exact⟨_,_,_,_,_,_,_,_,_,rfl,by k_is,by k_is,by k_is,by k_is⟩)
  (case d29=>exact⟨_,_,_,_,_,_,_,_,_,rfl,by k_is,by k_is,by k_is,by k_is⟩)
  (case d30=>exact⟨_,_,_,_,_,_,_,_,_,rfl,by k_is,by k_is,by k_is,by k_is⟩)
  (case d31=>exact⟨_,_,_,_,_,_,_,_,_,rfl,by k_is,by k_is,by k_is,by k_is⟩)
  (case d32=>exact⟨_,_,_,_,_,_,_,_,_,rfl,by k_is,by k_is,by k_is,by k_is⟩)
  (case d33=>exact⟨_,_,_,_,_,_,_,_,_,rfl,by k_is,by k_is,by k_is,by k_is⟩)
  (case d34=>exact⟨_,_,_,_,_,_,_,_,_,rfl,by k_is,by k_is,by k_is,by k_is⟩)
  (case d35=>exact⟨_,_,_,_,_,_,_,_,_,rfl,by k_is,by k_is,by k_is,by k_is⟩)
  (case d36=>exact⟨_,_,_,_,_,_,_,_,_,rfl,by k_is,by k_is,by k_is,by k_is⟩)
  (case a2=>k_is)
  (case l2=>k_is)
  (case c2=>k_is)
  (case k2=>k_is)
  (case a37=>k_is)
  (case l37=>k_is)
  (case c37=>k_is)
  (case k37=>k_is)
  (case e_GREATEST=>k_is)
  (case e_DEEPEST=>k_is)
  (case aD_ROW_SIGNS=>k_is)
  (case lD_ROW_SIGNS=>k_is)
  (case kD_ROW_SIGNS=>k_keys)
  (case pD_ROW_SIGNS=>repeat (first|exact .nil|refine .cons ⟨⟨_,rfl⟩,⟨_,rfl⟩⟩ ?_))
  (case oD_ROW_SIGNS=>decide)
  (case aC=>k_is)
  (case aM0=>k_is)
  (case lM0=>k_is)
  (case cM0=>k_is)
  (case kM0=>k_is)
  (case jM0=>k_is)
  (case aM1=>k_is)
  (case lM1=>k_is)
  (case cM1=>k_is)
  (case kM1=>k_is)
  (case jM1=>k_is)
  (case aM2=>k_is)
  (case lM2=>k_is)
  (case cM2=>k_is)
  (case kM2=>k_is)
  (case jM2=>k_is)
  (case aM3=>k_is)
  (case lM3=>k_is)
  (case cM3=>k_is)
  (case kM3=>k_is)
  (case jM3=>k_is)
  (case aI=>k_is)
  (case lI=>k_is)
  (case cI=>k_is)
  (case kI=>k_is)
  (case jI=>k_is)
  (case pg=>k_is)
  (case hd=>k_is)
  (case po=>k_is)
  (case sa=>k_is)
  (case mk=>k_is)
  (case kc=>k_is)
  (case ni=>k_is)
  (case aQ2=>k_is)
  (case mm0=>exact⟨_,_,_,_,_,_,_,_,_,rfl,by k_is,by k_is,by k_is,by k_is,by k_is⟩)
  (case mm1=>exact⟨_,_,_,_,_,_,_,_,_,rfl,by k_is,by k_is,by k_is,by k_is,by k_is⟩)
  (case mm2=>exact⟨_,_,_,_,_,_,_,_,_,rfl,by k_is,by k_is,by k_is,by k_is,by k_is⟩)
  (case mm3=>exact⟨_,_,_,_,_,_,_,_,_,rfl,by k_is,by k_is,by k_is,by k_is,by k_is⟩)
  (case mm4=>exact⟨_,_,_,_,_,_,_,_,_,rfl,by k_is,by k_is,by k_is,by k_is,by k_is⟩)
  (case mm5=>exact⟨_,_,_,_,_,_,_,_,_,rfl,by k_is,by k_is,by k_is,by k_is,by k_is⟩)
  (case mm6=>exact⟨_,_,_,_,_,_,_,_,_,rfl,by k_is,by k_is,by k_is,by k_is,by k_is⟩)
  (case mm7=>exact⟨_,_,_,_,_,_,_,_,_,rfl,by k_is,by k_is,by k_is,by k_is,by k_is⟩)
  (case mm8=>exact⟨_,_,_,_,_,_,_,_,_,rfl,by k_is,by k_is,by k_is,by k_is,by k_is⟩)
  (case mm9=>exact⟨_,_,_,_,_,_,_,_,_,rfl,by k_is,by k_is,by k_is,by k_is,by k_is⟩)
  (case mm10=>exact⟨_,_,_,_,_,_,_,_,_,rfl,by k_is,by k_is,by k_is,by k_is,by k_is⟩)
  (case mm11=>exact⟨_,_,_,_,_,_,_,_,_,rfl,by k_is,by k_is,by k_is,by k_is,by k_is⟩)
  (case mm12=>exact⟨_,_,_,_,_,_,_,_,_,rfl,by k_is,by k_is,by k_is,by k_is,by k_is⟩)
  (case mm13=>exact⟨_,_,_,_,_,_,_,_,_,rfl,by k_is,by k_is,by k_is,by k_is,by k_is⟩)
  (case mmI=>exact⟨_,_,_,_,_,_,_,_,_,rfl,by k_is,by k_is,by k_is,by k_is,by k_is⟩)
  (case pg2=>k_is)
  (case hd2=>k_is)
  (case po2=>k_is)
  (case sa2=>k_is)
  (case mk2=>k_is)
  (case kc2=>k_is)
  (case n1_2=>k_is)
  (case n2_2=>k_is)
  (case n3_2=>k_is)
  (case n4_2=>k_is)
  (case n5_2=>k_is)
  (case n6_2=>k_is)
  (case n7_2=>k_is)
  (case z_len=>k_is)
  (case z_list=>k_is)
  (case z_range=>k_is)
  (case z_isinstance=>k_is)
  (case z_str=>k_is)
  (case z_tuple=>k_is)
  (case z_int=>k_is)
  (case z_bool=>k_is)
  (case z_all=>k_is)
  (case z_reversed=>k_is)
  (case z_zip=>k_is)
  (case z_sum=>k_is)
  (case z_max=>k_is)
  (case z_min=>k_is)
  (case z_enumerate=>k_is)
  (case z_sorted=>k_is)
  (case z_abs=>k_is)
  (case z_dict=>k_is)
  (case hcode0=>rfl)
end
